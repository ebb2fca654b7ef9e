import PyProof.Rows.All
import Wide.All
import OpenK.AllK
import Wide.FinOn
import HandS.ForMost
import HandS.Wide
import PySem.Challenge.RW_settledreads_k01_sheets_read_or_refused
import HandS.ForExc
import HandS.ExcInit
import HandS.IsInst
import HandS.ExcValue
import HandS.ExcField
import HandS.ExcIs
import KE.KExcIs
import PyProof.ReprRoads
import KE.IntTextLaws
import HandS.Walk
import HandS.Deep
import HandS.NoneIn
import HandS.Strs
import HandS.Star
import HandS.ReCall
import HandS.Conv
import PyProof.FitsReplace
import HandS.Property
import HandS.OwnEq
import HandS.TupAny
import HandS.Style
import HandS.Small
import HandS.ReplaceLit
set_option Elab.async false
set_option linter.all false
set_option maxRecDepth 100000
set_option maxHeartbeats 4100000
namespace K01
open PySem L2
/-! ### the text by places -/
def top (i : Nat) : Stmt := PySem.Challenge.pw_settledreads_k01_sheets_read_or_refused.main.body.getD i (.Pass ⟨0, 0, 0, 0⟩)
abbrev sJar : Stmt := top 48
abbrev sTake : Stmt := top 49
abbrev sOf : Stmt := top 50
/-! ### heaps -/
/-- a drawing jar stands at j; n bounds how often it was drawn from -/
def Jar (H : Hp) (j : Addr) (n : Nat) : Prop := ∃ a b c : Int, H j = some (.lst [.int a, .int b, .int c]) ∧ 0 ≤ a ∧ a < 2 ^ 1000 ∧ 0 ≤ b ∧ b < 2 ^ 61 ∧ 0 ≤ c ∧ c ≤ n
theorem Jar.mono {H : Hp} {j : Addr} {n m : Nat} (h : Jar H j n) (l : n ≤ m) : Jar H j m := by
  obtain ⟨a, b, c, e, h1, h2, h3, h4, h5, h6⟩ := h
  exact ⟨a, b, c, e, h1, h2, h3, h4, h5, by omega⟩
/-- all but the jar stands as it stood -/
def Keep (j : Addr) (H H' : Hp) : Prop := ∀ x o, x ≠ j → H x = some o → H' x = some o
theorem Keep.refl (j : Addr) (H : Hp) : Keep j H H := fun _ _ _ h => h
theorem Keep.trans {j : Addr} {H H1 H2 : Hp} (a : Keep j H H1) (b : Keep j H1 H2) : Keep j H H2 := fun x o n h => b x o n (a x o n h)
theorem Keep.new {j p : Addr} {H : Hp} {o : HO} (h : H p = none) : Keep j H (upd H p o) := fun x u _ e => by
  rw [upd_ne (ne_of_none e h)]
  exact e
theorem Keep.put {j : Addr} {H : Hp} {o : HO} : Keep j H (upd H j o) := fun x u n e => by
  rw [upd_ne n]
  exact e
theorem Same.keep {j : Addr} {H H' : Hp} (h : Same H H') : Keep j H H' := fun x o _ e => h x o e
theorem same_upd {H : Hp} {p : Addr} {o : HO} (new : H p = none) : Same H (upd H p o) := fun b x e => by
  rw [upd_ne (ne_of_none e new)]
  exact e
structure Txt0 (mg : Str → Option Value) : Prop where
  int : mg "int" = none
  abs : mg "abs" = none
  len : mg "len" = none
section
variable {base : Heap} {P : Program} {w : World} {K : PySem.W.Frag} {mg : Str → Option Value}
/-! ### take -/
theorem log2_small {m : Int} (h : m.natAbs ≤ 10000) : m.natAbs.log2 < 9000 := by
  have h1 : m.natAbs.log2 ≤ m.natAbs := Nat.log2_le_self _
  by_cases z : m.natAbs = 0
  · rw [z]
    decide
  · have h2 := (Nat.log2_lt z (k := 14)).mpr (by omega)
    omega
theorem prime_at {i : Int} (h0 : 0 ≤ i) (h1 : i < 5) : ∃ v : Int, atI ([.int 2147483647, .int 2147483629, .int 2147483587, .int 2147483579, .int 2147483563] : List V) i = some (.int v) ∧ 0 < v ∧ v < 2 ^ 31 := by
  have : i = 0 ∨ i = 1 ∨ i = 2 ∨ i = 3 ∨ i = 4 := by omega
  rcases this with rfl | rfl | rfl | rfl | rfl
  · exact ⟨_, rfl, by decide, by decide⟩
  · exact ⟨_, rfl, by decide, by decide⟩
  · exact ⟨_, rfl, by decide, by decide⟩
  · exact ⟨_, rfl, by decide, by decide⟩
  · exact ⟨_, rfl, by decide, by decide⟩
def spTake : Sp := fun vs H Q _ => ∃ (j : Addr) (m : Int) (n : Nat), vs = [.ref j, .int m] ∧ Jar H j n ∧ n ≤ 10000 ∧ 1 ≤ m ∧ m ≤ 10000 ∧ ∀ (d : Int) (H' : Hp), 0 ≤ d → d < m → Jar H' j (n + 1) → Keep j H H' → Q (.int d) H'
theorem scTake : FnScope ["_law_jar_here", "_law_many", "_law_digit", "_law_prime", "_law_made"] ["_law_jar_here", "_law_many"] (defScope sTake) := ⟨rfl, rfl, rfl, by decide +kernel, rfl, by decide +kernel, by decide +kernel⟩
theorem ok_take {f : Addr} {fd : FuncData} (F : Fun K "_law_take" "_law_take" sTake f fd) (T : Txt0 mg) : FnOk P w K mg base CX0 1 f fd ["_law_jar_here", "_law_many"] spTake := by
  refine F.ok scTake (fun vs H Q E h => ?_) (fun cdv A outer s H vs Q E hr h => ?_)
  · obtain ⟨j, m, n, rfl, _⟩ := h
    rfl
  · obtain ⟨j, m, n, rfl, ⟨a, b, c, hj, ha, ha2, hb, hb2, hc, hc2⟩, hn, hm, hm2, k⟩ := h
    refine ⟨_, pss_cons (ps_if (pt_cmpR op_gt (pe_ix ix_list (pv 0) pe_int (fun _ _ => rfl)) pe_int (nomark _))
        (pss_cons (ps_set (i := 2) scTake.nd rfl (.inl rfl) (pe_op op_mod (pe_callTy call_int1 (by rfl) T.int (by decide +kernel) (pa_cons (pe_ix ix_list (pv 0) pe_int (fun _ _ => rfl)) pa_nil)) (pv 1)))
        (pss_cons (ps_asg (pe_op op_fdivW (pe_ix ix_list (pv 0) pe_int (fun _ _ => rfl)) (pv 1)) (pg_sub (pv 0) pe_int set_list))
        (pss_one (ps_ret (pv 2))))) pss_nil)
      (pss_cons (ps_asg (pe_op op_add (pe_ix ix_list (pv 0) pe_int (fun _ _ => rfl)) pe_int) (pg_sub (pv 0) pe_int set_list))
      (pss_cons (ps_set (i := 3) scTake.nd rfl (.inl rfl) (pe_ix ix_list (pe_lst (pa_cons pe_int (pa_cons pe_int (pa_cons pe_int (pa_cons pe_int (pa_cons pe_int pa_nil))))))
        (pe_op op_mod (pe_callTy call_int1 (by rfl) T.int (by decide +kernel) (pa_cons (pe_ix ix_list (pv 0) pe_int (fun _ _ => rfl)) pa_nil)) pe_int) (fun _ _ => rfl)))
      (pss_cons (ps_set (i := 4) scTake.nd rfl (.inl rfl) (pe_op op_mod (pe_callTy call_int1 (by rfl) T.int (by decide +kernel) (pa_cons
          (pe_op op_pow (pe_op op_add (pe_op op_add (pe_ix ix_list (pv 0) pe_int (fun _ _ => rfl)) (pe_op op_mul (pe_op op_mul pe_int (pe_ix ix_list (pv 0) pe_int (fun _ _ => rfl))) (pe_ix ix_list (pv 0) pe_int (fun _ _ => rfl)))) pe_int) pe_int) pa_nil)) (pv 3)))
      (pss_cons (ps_set (i := 4) scTake.nd rfl (.inl rfl) (pe_op op_mod (pe_callTy call_int1 (by rfl) T.int (by decide +kernel) (pa_cons
          (pe_op op_mul (pv 4) (pe_op op_add (pe_op op_mod (pe_callTy call_int1 (by rfl) T.int (by decide +kernel) (pa_cons (pv 4) pa_nil)) pe_int) (pe_op op_mul pe_int (pe_ix ix_list (pv 0) pe_int (fun _ _ => rfl))))) pa_nil)) pe_int))
      (pss_one (ps_ret (pe_op op_mod (pe_callTy call_int1 (by rfl) T.int (by decide +kernel) (pa_cons (pe_op op_fdiv (pv 4) pe_int) pa_nil)) (pv 1)))))))), ?_⟩
    refine ⟨_, rfl, j, _, _, .int a, rfl, rfl, SqL.of hj, rfl, a, 0, rfl, rfl, _, rfl, ?_⟩
    by_cases h0 : 0 < a
    · refine (show if decide (0 < a) = true then _ else _ from ?_)
      rw [if_pos (decide_eq_true h0)]
      refine ⟨_, rfl, j, _, _, .int a, rfl, rfl, SqL.of hj, rfl, .inl ⟨a, rfl, .int m, rfl, a, m, rfl, rfl, (by omega), ?_⟩⟩
      refine ⟨_, rfl, j, _, _, .int a, rfl, rfl, SqL.of hj, rfl, .int m, rfl, a, m, rfl, rfl, ⟨by omega, ?_⟩, ?_⟩
      · exact log2_small (by omega)
      · refine ⟨.ref j, rfl, j, _, _, _, rfl, rfl, hj, rfl, .int (a % m), rfl, ?_⟩
        have h1 : 0 ≤ a / m := Int.ediv_nonneg ha (by omega)
        have h2 : a / m ≤ a := Int.ediv_le_self _ ha
        exact k _ _ (Int.emod_nonneg _ (by omega)) (Int.emod_lt_of_pos _ (by omega)) ⟨a / m, b, c, upd_same, h1, Int.lt_of_le_of_lt h2 ha2, hb, hb2, hc, by omega⟩ Keep.put
    · refine (show if decide (0 < a) = true then _ else _ from ?_)
      (rw [if_neg (by simpa using h0)])
      refine ⟨_, rfl, j, _, _, .int c, rfl, rfl, SqL.of hj, rfl, c, 1, rfl, rfl, _, rfl, j, _, _, _, rfl, rfl, hj, rfl, ?_⟩
      refine ⟨(by show 5 ≤ sizeLine; decide), fun p hp => ?_⟩
      have npj : p ≠ j := fun e => by
        rw [e, upd_same] at hp
        cases hp
      have hj2 : ∀ o : HO, (upd (upd H j (.lst (([.int a, .int b, .int c] : List V).set 2 (.int (c + 1))))) p o) j = some (.lst [.int a, .int b, .int (c + 1)]) := fun o => by
        rw [upd_ne npj.symm, upd_same]
        rfl
      obtain ⟨v, hv, hv1, hv2⟩ := prime_at (i := (c + 1) % 5) (Int.emod_nonneg _ (by omega)) (Int.emod_lt_of_pos _ (by omega))
      refine ⟨_, rfl, j, _, _, .int (c + 1), rfl, rfl, SqL.of (hj2 _), rfl, .inl ⟨c + 1, rfl, c + 1, 5, rfl, rfl, (show (0 : Int) < 5 by decide), p, _, _, .int v, rfl, rfl, SqL.of upd_same, hv, ?_⟩⟩
      have e1 : (98893 * (c + 1) * (c + 1) : Int) ≤ 98893 * 10001 * 10001 := Int.mul_le_mul (by omega) (by omega) (by omega) (by omega)
      have e0 : (0 : Int) ≤ 98893 * (c + 1) * (c + 1) := Int.mul_nonneg (by omega) (by omega)
      refine ⟨_, rfl, j, _, _, .int b, rfl, rfl, SqL.of (hj2 _), rfl, _, rfl, j, _, _, .int (c + 1), rfl, rfl, SqL.of (hj2 _), rfl, 98893, c + 1, rfl, rfl, .inl ⟨by decide, by decide⟩, _, rfl, j, _, _, .int (c + 1), rfl, rfl, SqL.of (hj2 _), rfl, _, c + 1, rfl, rfl, .inr ⟨by omega, by omega⟩, b, _, rfl, rfl, _, 79, rfl, rfl, _, 3, rfl, rfl, ⟨by decide, by decide, ?_⟩, .inl ⟨_, rfl, _, rfl, _, v, rfl, rfl, (by omega), ?_⟩⟩
      · omega
      have g0 : 0 ≤ (b + 98893 * (c + 1) * (c + 1) + 79) ^ Int.toNat 3 % v := Int.emod_nonneg _ (by omega)
      have g1 : (b + 98893 * (c + 1) * (c + 1) + 79) ^ Int.toNat 3 % v < v := Int.emod_lt_of_pos _ (by omega)
      refine ⟨_, rfl, _, rfl, .inl ⟨_, rfl, _, 10009, rfl, rfl, (show (0 : Int) < 10009 by decide), _, rfl, j, _, _, .int (c + 1), rfl, rfl, SqL.of (hj2 _), rfl, 97, c + 1, rfl, rfl, .inl ⟨by decide, by decide⟩, _, _, rfl, rfl, _, _, rfl, rfl,
        .inl ⟨Int.lt_of_lt_of_le (by decide) g0, Int.lt_trans g1 (Int.lt_trans hv2 (by decide))⟩, .inl ⟨_, rfl, _, 2305843009213693907, rfl, rfl, (show (0 : Int) < 2305843009213693907 by decide), ?_⟩⟩⟩
      refine ⟨_, rfl, _, 89, rfl, rfl, ⟨by decide, by decide⟩, .inl ⟨_, rfl, .int m, rfl, _, m, rfl, rfl, (by omega), ?_⟩⟩
      refine k _ _ (Int.emod_nonneg _ (by omega)) (Int.emod_lt_of_pos _ (by omega)) ⟨a, b, c + 1, hj2 _, ha, ha2, hb, hb2, by omega, by omega⟩ (Keep.put.trans (Keep.new hp))
/-! ### a def as its callers know it -/
def Has (P : Program) (w : World) (K : PySem.W.Frag) (mg : Str → Option Value) (base : Heap) (nm : Str) (k : Nat) (ps : List Str) (sp : Sp) : Prop :=
  ∃ (f : Addr) (fd : FuncData), FnOk P w K mg base CX0 k f fd ps sp ∧ mg nm = some (.ref f) ∧ PySem.W.keepIn K (.ref f) = true ∧ Binds K fd ps []
theorem pe_has {X : Cx} {nm : Str} {k : Nat} {ps : List Str} {sp : Sp} {e : Expr} {es : List Expr} {t : TA} {p pos : Pos} (h : Has X.prog X.w X.K X.mg X.base nm k ps sp) (hr : Room k X.A) (ha : PA X (e :: es) t) (hg : Gl X nm := by rfl)
    (hdb : (nm == ("__debug__" : Str)) = false := by decide) (he : starEach (e :: es) X.env = (false, eval e X.env) :: starEach es X.env := by rfl) (hpl : (backTo pos (starEach es X.env)).any (·.1) = false := by rfl) :
    PE X (.Call (.Name nm p) (e :: es) [] pos) (tCall sp [] E0 t) := by
  obtain ⟨f, fd, F, hm, hk, hb⟩ := h
  exact pe_call F hr hg hm hk hb .nil pass0 ha hdb he hpl
theorem Keep.seq {K : PySem.W.Frag} {j p : Addr} {H H' : Hp} {xs : List V} (h : Keep j H H') (n : p ≠ j) (q : SqL K H p xs) : SqL K H' p xs := by
  rcases q with (q | ⟨o, q⟩) | q
  · exact .inl (.inl (h _ _ n q))
  · exact .inl (.inr ⟨o, h _ _ n q⟩)
  · exact .inr q
theorem atI_in {α : Type} {xs : List α} {i : Int} (h0 : 0 ≤ i) (h1 : i < xs.length) : ∃ v, atI xs i = some v ∧ v ∈ xs := by
  (obtain ⟨n, rfl⟩ := Int.eq_ofNat_of_zero_le h0)
  have hn : n < xs.length := by omega
  exact ⟨xs[n], atI_nat (List.getElem?_eq_getElem hn), List.getElem_mem hn⟩
/-! ### of -/
def spOf (K : PySem.W.Frag) : Sp := fun vs H Q _ => ∃ (j : Addr) (n : Nat) (x : V), vs = [.ref j, x] ∧ Jar H j n ∧ n ≤ 9000 ∧
  ((∃ (p : Addr) (xs : List V), x = .ref p ∧ p ≠ j ∧ SqL K H p xs ∧ 1 ≤ xs.length ∧ xs.length ≤ 1000 ∧ ∀ (y : V) (H' : Hp), y ∈ xs → Jar H' j (n + 1) → Keep j H H' → Q y H') ∨
   (∃ z : Str, x = .str z ∧ 1 ≤ z.length ∧ z.length ≤ 1000 ∧ ∀ (c : Nat) (H' : Hp), c ∈ z.cps.toList → Jar H' j (n + 1) → Keep j H H' → Q (.str ⟨#[c]⟩) H'))
theorem scOf : FnScope ["_law_jar_here", "_law_some"] ["_law_jar_here", "_law_some"] (defScope sOf) := ⟨rfl, rfl, rfl, by decide +kernel, rfl, by decide +kernel, by decide +kernel⟩
theorem ok_of {f : Addr} {fd : FuncData} (F : Fun K "_law_of" "_law_of" sOf f fd) (T : Txt0 mg) (G : Has P w K mg base "_law_take" 1 ["_law_jar_here", "_law_many"] spTake) : FnOk P w K mg base CX0 2 f fd ["_law_jar_here", "_law_some"] (spOf K) := by
  refine F.ok scOf (fun vs H Q E h => ?_) (fun cdv A outer s H vs Q E hr h => ?_)
  · obtain ⟨j, n, x, rfl, _⟩ := h
    rfl
  · obtain ⟨j, n, x, rfl, hj, hn, h⟩ := h
    refine ⟨_, pss_one (ps_ret (pe_ix (IxR.or ix_list ix_str) (pv 1) (pe_has G hr (pa_cons (pv 0) (pa_cons (pe_callB (CallR.or call_len_seq call_len_str) (by rfl) T.len PySem.boot_len (pa_cons (pv 1) pa_nil)) pa_nil))) (fun _ _ => rfl))), ?_⟩
    rcases h with ⟨p, xs, rfl, np, hp, l1, l2, k⟩ | ⟨z, rfl, l1, l2, k⟩
    · refine ⟨_, rfl, _, rfl, _, rfl, .inl ⟨p, xs, rfl, .inl hp, j, _, n, rfl, hj, by omega, by omega, by omega, fun d H' h0 h1 hj' kp => ?_⟩⟩
      obtain ⟨v, hv, hm⟩ := atI_in h0 h1
      exact .inl ⟨p, xs, d, v, rfl, rfl, kp.seq np hp, hv, k v H' hm hj' kp⟩
    · refine ⟨_, rfl, _, rfl, _, rfl, .inr ⟨z, rfl, Nat.le_trans l2 (by decide), j, _, n, rfl, hj, by omega, by omega, by omega, fun d H' h0 h1 hj' kp => ?_⟩⟩
      have hz : z.cps.toList.length = z.length := by
        show z.cps.toList.length = z.cps.size
        simp
      obtain ⟨v, hv, hm⟩ := atI_in (xs := z.cps.toList) h0 (by rw [hz]; exact h1)
      exact .inr ⟨z, d, v, rfl, rfl, Nat.le_trans l2 (by decide), hv, k v H' hm hj' kp⟩
/-! ### jar -/
theorem bit_ok (b : Bool) : -(2 ^ 64) < (if b = true then (1 : Int) else 0) ∧ (if b = true then (1 : Int) else 0) < 2 ^ 64 := by
  cases b <;> decide
theorem mine_ok (x : Int) (b : Bool) : 0 ≤ x % (10 ^ Int.toNat 60) ^ Int.toNat 5 * (if b = true then (1 : Int) else 0) ∧ x % (10 ^ Int.toNat 60) ^ Int.toNat 5 * (if b = true then (1 : Int) else 0) < 2 ^ 1000 := by
  have pp : (0 : Int) < (10 ^ Int.toNat 60) ^ Int.toNat 5 := by decide +kernel
  have p2 : ((10 ^ Int.toNat 60) ^ Int.toNat 5 : Int) < 2 ^ 1000 := by decide +kernel
  have h0 := Int.emod_nonneg x (Int.ne_of_gt pp)
  have h1 := Int.emod_lt_of_pos x pp
  cases b
  · rw [if_neg Bool.false_ne_true, Int.mul_zero]
    exact ⟨Int.le_refl _, by decide +kernel⟩
  · rw [if_pos rfl, Int.mul_one]
    exact ⟨h0, Int.lt_trans h1 p2⟩
def CPowW (i j : Int) : Prop := 0 ≤ j ∧ (Builtin.Int.intBits i : Int) * j ≤ 2 ^ 27
theorem op_powW {X : Cx} : OpR X (binaryOp .Pow) (rI CPowW fun i j => .int (i ^ j.toNat)) := opI fun _ _ _ _ _ _ _ hc q => PyProof.Rows.pow_int hc.1 hc.2 q
def spJar (K : PySem.W.Frag) : Sp := fun vs H Q _ => ∃ (a : Addr) (ns : List Int) (k : Int), vs = [.ref a, .int k] ∧ SqL K H a (ns.map V.int) ∧ 0 ≤ k ∧ k ≤ 100 ∧ ∀ (p : Addr) (H' : Hp), H p = none → Same H H' → Jar H' p 0 → Q (.ref p) H'
theorem scJar : FnScope ["_law_script", "_law_k", "_law_cell", "_law_mine"] ["_law_script", "_law_k"] (defScope sJar) := ⟨rfl, rfl, rfl, by decide +kernel, rfl, by decide +kernel, by decide +kernel⟩
theorem ok_jar {f : Addr} {fd : FuncData} (F : Fun K "_law_jar" "_law_jar" sJar f fd) (T : Txt0 mg) : FnOk P w K mg base CX0 1 f fd ["_law_script", "_law_k"] (spJar K) := by
  refine F.ok scJar (fun vs H Q E h => ?_) (fun cdv A outer s H vs Q E hr h => ?_)
  · (obtain ⟨a, ns, k, rfl, _⟩ := h)
    rfl
  · obtain ⟨a, ns, k, rfl, hS, k0, k2, q⟩ := h
    refine ⟨_, pss_cons (ps_set (i := 2) scJar.nd rfl (.inl rfl) (pe_ifExp (pt_cmpR op_lt (pv 1) (pe_callB call_len_seq (by rfl) T.len PySem.boot_len (pa_cons (pv 0) pa_nil)) (nomark _)) (pe_ix ix_list (pv 0) (pv 1) (fun _ _ => rfl)) (pe_op op_add (pe_op op_mul pe_int (pv 1)) pe_int)))
      (pss_cons (ps_set (i := 3) scJar.nd rfl (.inl rfl) (pe_op op_mul (pe_op op_mod (pe_callTy call_int1 (by rfl) T.int (by decide +kernel) (pa_cons (pe_callB call_abs (by rfl) T.abs (by decide +kernel) (pa_cons (pv 2) pa_nil)) pa_nil)) (pe_op op_powW (pe_op op_pow pe_int pe_int) pe_int))
        (pe_callTy call_int1 (by rfl) T.int (by decide +kernel) (pa_cons (pe_cmpR op_ge (pe_callB call_abs (by rfl) T.abs (by decide +kernel) (pa_cons (pv 2) pa_nil)) (pe_op op_pow pe_int pe_int) (nomark _)) pa_nil))))
      (pss_one (ps_ret (pe_lst (pa_cons (pv 3) (pa_cons (pe_op op_mod (pe_callTy call_int1 (by rfl) T.int (by decide +kernel) (pa_cons (pe_op op_add (pe_op op_add (pe_op op_mul (pe_op op_mod (pe_callTy call_int1 (by rfl) T.int (by decide +kernel) (pa_cons (pv 2) pa_nil)) pe_int) pe_int)
        (pe_op op_mul (pe_op op_mul pe_int (pv 1)) (pv 1))) pe_int) pa_nil)) pe_int) (pa_cons pe_int pa_nil))))))), ?_⟩
    refine ⟨_, rfl, _, rfl, a, _, rfl, .inl hS, k, _, rfl, rfl, _, rfl, ?_⟩
    have pp : (0 : Int) < (10 ^ Int.toNat 60) ^ Int.toNat 5 := by decide +kernel
    have pw : CPowW (10 ^ Int.toNat 60) 5 := ⟨by decide, by decide +kernel⟩
    have p18 : CPow 10 18 := ⟨by decide, by decide, by decide⟩
    have p60 : CPow 10 60 := ⟨by decide, by decide, by decide⟩
    refine ite2 (fun hk => ?_) (fun hk => ?_)
    · have hk := of_decide_eq_true hk
      obtain ⟨v, hv, hm⟩ := atI_in k0 hk
      obtain ⟨c, _, rfl⟩ := List.mem_map.mp hm
      refine ⟨_, rfl, _, rfl, a, _, k, _, rfl, rfl, hS, hv, ?_⟩
      refine ⟨_, rfl, _, rfl, .inl ⟨_, rfl, 10, 60, rfl, rfl, p60, _, 5, rfl, rfl, pw, _, _, rfl, rfl, pp, _, rfl, _, rfl, 10, 18, rfl, rfl, p18, _, _, rfl, rfl, .inr ⟨_, rfl, _, _, rfl, rfl, .inr ?_, ?_⟩⟩⟩
      · exact bit_ok _
      refine ⟨_, rfl, _, rfl, .inl ⟨_, rfl, _, 2305843009213693951, rfl, rfl, (show (0 : Int) < 2305843009213693951 by decide), _, 71993, rfl, rfl, .inr ⟨by decide, by decide⟩, _, rfl, 8237, k, rfl, rfl, .inl ⟨by decide, by decide⟩, _, rfl, _, k, rfl, rfl, .inr ⟨by omega, by omega⟩, _, _, rfl, rfl, _, 61, rfl, rfl,
        .inl ⟨_, rfl, _, 2305843009213693921, rfl, rfl, (show (0 : Int) < 2305843009213693921 by decide), (by show 3 ≤ sizeLine; decide), fun p hp => ?_⟩⟩⟩
      exact q p _ hp (same_upd hp) ⟨_, _, 0, upd_same, (mine_ok _ _).1, (mine_ok _ _).2, Int.emod_nonneg _ (by decide), Int.lt_trans (Int.emod_lt_of_pos _ (by decide)) (by decide), by decide, by decide⟩
    · refine ⟨_, rfl, 41, k, rfl, rfl, .inl ⟨by decide, by decide⟩, _, 23, rfl, rfl, ?_⟩
      refine ⟨_, rfl, _, rfl, .inl ⟨_, rfl, 10, 60, rfl, rfl, p60, _, 5, rfl, rfl, pw, _, _, rfl, rfl, pp, _, rfl, _, rfl, 10, 18, rfl, rfl, p18, _, _, rfl, rfl, .inr ⟨_, rfl, _, _, rfl, rfl, .inr ?_, ?_⟩⟩⟩
      · exact bit_ok _
      refine ⟨_, rfl, _, rfl, .inl ⟨_, rfl, _, 2305843009213693951, rfl, rfl, (show (0 : Int) < 2305843009213693951 by decide), _, 71993, rfl, rfl, .inr ⟨by decide, by decide⟩, _, rfl, 8237, k, rfl, rfl, .inl ⟨by decide, by decide⟩, _, rfl, _, k, rfl, rfl, .inr ⟨by omega, by omega⟩, _, _, rfl, rfl, _, 61, rfl, rfl,
        .inl ⟨_, rfl, _, 2305843009213693921, rfl, rfl, (show (0 : Int) < 2305843009213693921 by decide), (by show 3 ≤ sizeLine; decide), fun p hp => ?_⟩⟩⟩
      exact q p _ hp (same_upd hp) ⟨_, _, 0, upd_same, (mine_ok _ _).1, (mine_ok _ _).2, Int.emod_nonneg _ (by decide), Int.lt_trans (Int.emod_lt_of_pos _ (by decide)) (by decide), by decide, by decide⟩
end
end K01

namespace K01
open PySem L2
abbrev sNames : Stmt := top 51
/-! ### words of drawn names -/
/-- a text's codes -/
abbrev tx (x : Str) : List Nat := x.cps.toList
def Low (c : Nat) : Prop := 97 ≤ c ∧ c ≤ 122
structure IsNm (w : Str) : Prop where
  pos : 1 ≤ w.length
  len : w.length ≤ 8
  low : ∀ c ∈ tx w, Low c
def abc : Str := PySem.Str.ofString "abcdefghijklmnopqrstuvwxyz"
theorem abc_len : abc.length = 26 := by decide +kernel
theorem abc_low : ∀ c ∈ abc.cps.toList, Low c := by
  have h : abc.cps.toList.all (fun c => decide (97 ≤ c) && decide (c ≤ 122)) = true := by decide +kernel
  intro c hc
  have := List.all_eq_true.mp h c hc
  simpa [Low] using this
theorem abc_at {i : Int} (h0 : 0 ≤ i) (h1 : i < 26) : atI abc.cps.toList i = some (97 + i.toNat) := by
  (obtain ⟨n, rfl⟩ := Int.eq_ofNat_of_zero_le h0)
  have hn : n < 26 := by omega
  have h : ∀ n : Nat, n < 26 → atI abc.cps.toList (n : Int) = some (97 + (n : Int).toNat) := by decide +kernel
  exact h n hn
def nmk (st : List Nat) (sp at_ k : Nat) : Str := ⟨(st.take sp ++ [97 + (at_ + 3 * k) % 26] ++ st.drop sp).toArray⟩
theorem nmk_inj {st : List Nat} {sp at_ k k' : Nat} (hs : sp ≤ st.length) (h : k < 4) (h' : k' < 4) (e : nmk st sp at_ k = nmk st sp at_ k') : k = k' := by
  have e1 : st.take sp ++ [97 + (at_ + 3 * k) % 26] ++ st.drop sp = st.take sp ++ [97 + (at_ + 3 * k') % 26] ++ st.drop sp := by
    have := congrArg (fun z : Str => z.cps.toList) e
    simpa [nmk] using this
  rw [List.append_assoc, List.append_assoc] at e1
  have e2 := List.append_cancel_left e1
  have e3 : 97 + (at_ + 3 * k) % 26 = 97 + (at_ + 3 * k') % 26 := (List.cons.inj e2).1
  omega
theorem nmk_is {st : List Nat} {sp at_ k : Nat} (hs : sp ≤ st.length) (hl : st.length ≤ 7) (low : ∀ c ∈ st, Low c) : IsNm (nmk st sp at_ k) := by
  have len : (nmk st sp at_ k).length = st.length + 1 := by
    show (List.toArray _).size = _
    simp only [List.size_toArray, List.length_append, List.length_take, List.length_drop, List.length_cons, List.length_nil]
    omega
  refine ⟨by omega, by omega, fun c hc => ?_⟩
  have hc' : c ∈ st.take sp ++ [97 + (at_ + 3 * k) % 26] ++ st.drop sp := by simpa [nmk, tx] using hc
  rcases List.mem_append.mp hc' with h | h
  · (rcases List.mem_append.mp h with h | h)
    · exact low c (List.mem_of_mem_take h)
    · have := List.mem_singleton.mp h
      subst this
      have := Nat.mod_lt (at_ + 3 * k) (by decide : 0 < 26)
      exact ⟨by omega, by omega⟩
  · exact low c (List.mem_of_mem_drop h)
theorem nm_eq {acc : List Nat} {sp at_ i : Nat} (hs : sp ≤ acc.length) :
    cutS ⟨acc.toArray⟩ none (some (sp : Int)) ++ (⟨#[97 + (((at_ : Int) + 3 * (0 + (i : Int))) % 26).toNat]⟩ : Str) ++ cutS ⟨acc.toArray⟩ (some (sp : Int)) none = nmk acc sp at_ i := by
  refine TL.ext_tl ?_
  rw [TL.tl_append, TL.tl_append]
  have hz : Str.length ⟨acc.toArray⟩ = acc.length := by
    show acc.toArray.size = _
    simp
  have e1 : TL.tl (cutS ⟨acc.toArray⟩ none (some (sp : Int))) = acc.take sp := by
    unfold cutS
    rw [TL.tl_mk, hz, HT.sIx_none, HT.sIx_nat]
    show (acc.drop 0).take (min sp acc.length - 0) = _
    rw [List.drop_zero, Nat.sub_zero, Nat.min_eq_left hs]
  have e2 : TL.tl (cutS ⟨acc.toArray⟩ (some (sp : Int)) none) = acc.drop sp := by
    unfold cutS
    rw [TL.tl_mk, hz, HT.sIx_none, HT.sIx_nat]
    show (acc.drop (min sp acc.length)).take (acc.length - min sp acc.length) = _
    rw [Nat.min_eq_left hs]
    (exact List.take_of_length_le (by rw [List.length_drop]; omega))
  rw [e1, e2]
  have e3 : (((at_ : Int) + 3 * (0 + (i : Int))) % 26).toNat = (at_ + 3 * i) % 26 := by omega
  rw [e3]
  rfl
theorem nmks_nodup {st : List Nat} {sp at_ m : Nat} (hs : sp ≤ st.length) (hm : m ≤ 4) : ((List.range m).map (nmk st sp at_)).Nodup := by
  rw [List.Nodup, List.pairwise_map]
  refine List.Pairwise.imp_of_mem ?_ List.pairwise_lt_range
  intro a b ha hb hlt e
  have h1 := List.mem_range.mp ha
  have h2 := List.mem_range.mp hb
  have := nmk_inj hs (by omega) (by omega) e
  omega
theorem Keep.upd_new {j D : Addr} {H1 H : Hp} {o : HO} (h : Keep j H1 H) (hn : H1 D = none) : Keep j H1 (upd H D o) := fun x u nx e => by
  rw [upd_ne (ne_of_none e hn)]
  exact h x u nx e
theorem Jar.upd {j D : Addr} {H : Hp} {n : Nat} {o : HO} (h : Jar H j n) (hn : D ≠ j) : Jar (upd H D o) j n := by
  obtain ⟨a, b, c, e, r⟩ := h
  exact ⟨a, b, c, by rw [upd_ne (Ne.symm hn)]; exact e, r⟩
theorem Jar.ne {j D : Addr} {H : Hp} {n : Nat} (h : Jar H j n) (hn : H D = none) : D ≠ j := fun e => by
  obtain ⟨a, b, c, q, r⟩ := h
  rw [e, q] at hn
  cases hn
theorem Keep.free {j D : Addr} {H H1 : Hp} (h : Keep j H H1) (hn : H1 D = none) (nj : D ≠ j) : H D = none := by
  cases e : H D with
  | none => rfl
  | some o =>
    rw [h D o nj e] at hn
    cases hn
def chr1 (c : Nat) : Str := ⟨#[c]⟩
theorem join_chars (acc : List Nat) : Txt.join (PySem.Str.ofString "") (acc.map chr1) = ⟨acc.toArray⟩ := by
  have e0 : (PySem.Str.ofString "").cps.toList = [] := by decide +kernel
  have h : (Txt.join (PySem.Str.ofString "") (acc.map chr1)).cps.toList = acc := by
    rw [TL.join_eq]
    show TL.tl _ = acc
    rw [TL.tl_join]
    show TL.joinL (PySem.Str.ofString "").cps.toList _ = acc
    rw [e0]
    induction acc with
    | nil => rfl
    | cons a l ih =>
      cases l with
      | nil => rfl
      | cons b r =>
        show [a] ++ ([] ++ TL.joinL [] (List.map TL.tl (List.map chr1 (b :: r)))) = a :: b :: r
        rw [ih]
        rfl
  cases hj : Txt.join (PySem.Str.ofString "") (acc.map chr1) with
  | mk cps =>
    rw [hj] at h
    have h' : cps.toList = acc := h
    rw [← h']
structure Txt1 (mg : Str → Option Value) : Prop extends Txt0 mg where
  range : mg "range" = none
section
variable {base : Heap} {P : Program} {w : World} {K : PySem.W.Frag} {mg : Str → Option Value}
abbrev jarOf (P : Program) (w : World) (K : PySem.W.Frag) (mg : Str → Option Value) (base : Heap) : Prop := Has P w K mg base "_law_of" 2 ["_law_jar_here", "_law_some"] (spOf K)
abbrev jarTake (P : Program) (w : World) (K : PySem.W.Frag) (mg : Str → Option Value) (base : Heap) : Prop := Has P w K mg base "_law_take" 1 ["_law_jar_here", "_law_many"] spTake
def spNames : Sp := fun vs H Q _ => ∃ (j : Addr) (n m : Nat), vs = [.ref j, .int m] ∧ Jar H j n ∧ n ≤ 8000 ∧ m ≤ 4 ∧
  ∀ (p : Addr) (H' : Hp) (ws : List Str), ws.length = m → ws.Nodup → (∀ x ∈ ws, IsNm x) → Jar H' j (n + 10) → Keep j H H' → H p = none → H' p = some (.lst (ws.map V.str)) → Q (.ref p) H'
abbrev nNames : List Str := ["_law_jar_here", "_law_many", "_law_small", "_law_stem", "_law_spot", "_law_at", "_law_turn", "_law_k"]
theorem scNames : FnScope nNames ["_law_jar_here", "_law_many"] (defScope sNames) := ⟨rfl, rfl, rfl, by decide +kernel, rfl, by decide +kernel, by decide +kernel⟩
theorem ok_names {f : Addr} {fd : FuncData} (F : Fun K "_law_names" "_law_names" sNames f fd) (T : Txt1 mg) (G : jarTake P w K mg base) (GO : jarOf P w K mg base) : FnOk P w K mg base CX0 3 f fd ["_law_jar_here", "_law_many"] spNames := by
  refine F.ok scNames (fun vs H Q E h => ?_) (fun cdv A outer s H vs Q E hr h => ?_)
  · obtain ⟨j, n, m, rfl, _⟩ := h
    rfl
  · obtain ⟨j, n, m, rfl, hj, hn, hm, k⟩ := h
    have hr1 : Room 1 _ := (hr.mono (by decide))
    refine ⟨_, pss_cons (ps_set (i := 2) scNames.nd rfl (.inr rfl) pe_str)
      (pss_cons (ps_set (i := 3) scNames.nd rfl (.inr rfl) (pe_join pe_str (pe_lc (own := [("_law_turn", 6)]) (g := gName 6) (tt := tYes) rfl scNames.nd
          (pi_range1 (by rfl) T.range (pa_cons (pe_has GO hr (pa_cons (pv 0) (pa_cons (pe_lst (pa_cons pe_int (pa_cons pe_int (pa_cons pe_int (pa_cons pe_int (pa_cons pe_int pa_nil)))))) pa_nil))) pa_nil))
          (blkOk_by (N := nNames) (sc := defScope sNames) (by decide +kernel)) (fun _ _ _ _ _ => pg_name (i := 6) scNames.nd rfl (Or.inl rfl)) (fun _ _ _ _ _ => pts_nil)
          (fun _ _ _ _ _ => pe_has GO hr (pa_cons (pv 0) (pa_cons (pv 2) pa_nil))))))
      (pss_cons (ps_asg (pe_tup (pa_cons (pe_has G hr1 (pa_cons (pv 0) (pa_cons (pe_op op_add (pe_callB call_len_str (by rfl) T.len PySem.boot_len (pa_cons (pv 3) pa_nil)) pe_int) pa_nil))) (pa_cons (pe_has G hr1 (pa_cons (pv 0) (pa_cons pe_int pa_nil))) pa_nil)))
          (pg_tup rfl (pgs_cons (pg_name (i := 4) scNames.nd rfl (Or.inr rfl)) (pgs_cons (pg_name (i := 5) scNames.nd rfl (Or.inr rfl)) pgs_nil))))
      (pss_one (ps_ret (pe_lc (own := [("_law_k", 7)]) (g := gName 7) (tt := tYes) rfl scNames.nd (pi_range1 (by rfl) T.range (pa_cons (pv 1) pa_nil))
          (blkOk_by (N := nNames) (sc := defScope sNames) (by decide +kernel)) (fun _ _ _ _ _ => pg_name (i := 7) scNames.nd rfl (Or.inl rfl)) (fun _ _ _ _ _ => pts_nil)
          (fun _ _ _ _ _ => pe_op op_add_str (pe_op op_add_str (pe_slice sl_str (pv 3) po_none (po_some (pv 4)))
            (pe_ix ix_str (pv 2) (pe_op op_mod (pe_callTy call_int1 (by rfl) T.int (by decide +kernel) (pa_cons (pe_op op_add (pv 5) (pe_op op_mul pe_int (pv 7))) pa_nil)) pe_int) (fun _ _ => rfl)))
            (pe_slice sl_str (pv 3) (po_some (pv 4)) po_none))))))), ?_⟩
    refine ⟨⟨_, rfl⟩, .ref j, rfl, (by show 5 ≤ sizeLine; decide), fun p0 hp0 => ?_⟩
    have n0 : p0 ≠ j := hj.ne hp0
    refine ⟨j, n, .ref p0, rfl, hj.upd n0, by omega, .inl ⟨p0, _, rfl, n0, SqL.of upd_same, by decide, by decide, fun y H1 hy hj1 kp1 => ?_⟩⟩
    obtain ⟨r, rfl, hr7⟩ : ∃ r : Nat, y = .int (r : Int) ∧ r ≤ 7 := by
      simp only [List.mem_cons, List.not_mem_nil, or_false] at hy
      rcases hy with rfl | rfl | rfl | rfl | rfl
      · exact ⟨0, rfl, by decide⟩
      · exact ⟨0, rfl, by decide⟩
      · exact ⟨1, rfl, by decide⟩
      · exact ⟨3, rfl, by decide⟩
      · exact ⟨7, rfl, by decide⟩
    have kp1' : Keep j H H1 := (Keep.new hp0).trans kp1
    refine ⟨_, rfl, by omega, by omega, fun D nD => ?_⟩
    have nDj : D ≠ j := hj1.ne nD
    have fD : H D = none := kp1'.free nD nDj
    refine lc_range (lo := 0) (n := ((r : Nat) : Int).toNat) (fun i H2 => ∃ acc : List Nat, acc.length = i ∧ (∀ c ∈ acc, Low c) ∧ H2 D = some (.lst ((acc.map chr1).map V.str)) ∧ Jar H2 j (n + 1 + i) ∧ Keep j H H2)
      ⟨[], rfl, (fun c hc => (List.not_mem_nil hc).elim), upd_same, hj1.upd nDj, kp1'.upd_new fD⟩ ?_ ?_
    · rintro i H2 hi ⟨acc, la, lo, hD, hj2, kp2⟩
      refine ⟨rfl, _, rfl, .str abc, rfl, j, _, .str abc, rfl, hj2, by omega, .inr ⟨abc, rfl, (by rw [abc_len]; decide), (by rw [abc_len]; decide), fun c H3 hc hj3 kp3 => ?_⟩⟩
      refine ⟨_, kp3 _ _ nDj hD, ?_, acc ++ [c], by simp [la], fun x hx => ?_, ?_, (hj3.upd nDj).mono (by omega), (kp2.trans kp3).upd_new fD⟩
      · rw [List.length_map, List.length_map, la]
        exact small1000 (by omega)
      · rcases List.mem_append.mp hx with h | h
        · exact lo x h
        · have := List.mem_singleton.mp h
          subst this
          exact abc_low _ hc
      · rw [upd_same, List.map_append, List.map_append]
        rfl
    · rintro H2 ⟨acc, la, lo, hD, hj2, kp2⟩
      have la7 : acc.length ≤ 7 := by omega
      refine ⟨_, D, acc.map chr1, rfl, rfl, .inl (SqL.of hD), ?_, ?_⟩
      · have : ((acc.map chr1).map (·.length)).sum = acc.length := by
          clear la la7 hD lo
          induction acc with
          | nil => rfl
          | cons a l ih =>
            rw [List.map_cons, List.map_cons, List.sum_cons, ih, List.length_cons]
            show 1 + l.length = l.length + 1
            omega
        rw [this, List.length_map]
        show acc.length + acc.length * 0 ≤ 16777216
        omega
      have ej : Txt.join (PySem.Str.ofString "") (acc.map chr1) = ⟨acc.toArray⟩ := join_chars acc
      have ls : (Txt.join (PySem.Str.ofString "") (acc.map chr1)).length = acc.length := by
        rw [ej]
        show acc.toArray.size = _
        simp
      refine ⟨.ref j, rfl, _, rfl, _, rfl, (by rw [ls]; exact Nat.le_trans la7 (by decide)), _, 1, rfl, rfl, j, _, _, rfl, hj2, by omega, by omega, by rw [ls]; omega, fun d H3 d0 d1 hj3 kp3 => ?_⟩
      refine ⟨.ref j, rfl, j, 26, _, rfl, hj3, by omega, by decide, by decide, fun e H4 e0 e1 hj4 kp4 => ?_⟩
      refine ⟨(by show 2 ≤ sizeLine; decide), fun q hq => ?_⟩
      have nqj := hj4.ne hq
      refine ⟨q, _, rfl, SqT.of upd_same, rfl, _, _, rfl, _, _, rfl, rfl, ?_⟩
      have kp4' : Keep j H H4 := (kp2.trans kp3).trans kp4
      have fq : H q = none := kp4'.free hq nqj
      refine ⟨_, rfl, m, rfl, by omega, by omega, fun D2 nD2 => ?_⟩
      have hj5 : Jar (upd H4 q (.tup [.int d, .int e])) j (n + 10) := (hj4.upd nqj).mono (by omega)
      have kp5 : Keep j H (upd H4 q (.tup [.int d, .int e])) := kp4'.upd_new fq
      have nD2j := hj5.ne nD2
      have fD2 := kp5.free nD2 nD2j
      obtain ⟨sp, rfl⟩ := Int.eq_ofNat_of_zero_le d0
      obtain ⟨at_, rfl⟩ := Int.eq_ofNat_of_zero_le e0
      rw [ls] at d1
      refine lc_range (lo := 0) (n := ((m : Nat) : Int).toNat) (fun i H5 => H5 D2 = some (.lst (((List.range i).map (nmk acc sp at_)).map V.str)) ∧ Jar H5 j (n + 10) ∧ Keep j H H5)
        ⟨upd_same, hj5.upd nD2j, kp5.upd_new fD2⟩ ?_ ?_
      · rintro i H5 hi ⟨hD2, hj6, kp6⟩
        have sz : (Txt.join (PySem.Str.ofString "") (acc.map chr1)).length ≤ sizeLine := by
          rw [ls]
          exact Nat.le_trans la7 (by decide)
        refine ⟨rfl, _, rfl, _, rfl, _, rfl, _, rfl, sz, .str abc, rfl, _, rfl, _, rfl, 3, _, rfl, rfl, .inl ⟨by decide, by decide⟩, _, _, rfl, rfl, .inl ⟨_, rfl, _, 26, rfl, rfl, (show (0 : Int) < 26 by decide), abc, _, _, rfl, rfl, (by rw [abc_len]; decide), abc_at (Int.emod_nonneg _ (by decide)) (Int.emod_lt_of_pos _ (by decide)), ?_⟩⟩
        refine ⟨_, _, rfl, rfl, ?_, _, rfl, _, rfl, _, rfl, _, rfl, sz, _, _, rfl, rfl, ?_, _, hD2, ?_, ?_, hj6.upd nD2j, kp6.upd_new fD2⟩
        · have h1 := cutS_length (Txt.join (PySem.Str.ofString "") (acc.map chr1)) none (some (sp : Int))
          rw [ls] at h1
          show _ + 1 ≤ sizeLine
          exact Nat.le_of_lt (small1000 (by omega))
        · have h1 := cutS_length (Txt.join (PySem.Str.ofString "") (acc.map chr1)) none (some (sp : Int))
          have h2 := cutS_length (Txt.join (PySem.Str.ofString "") (acc.map chr1)) (some (sp : Int)) none
          rw [ls] at h1 h2
          rw [Str.length_append]
          show _ + 1 + _ ≤ sizeLine
          exact Nat.le_of_lt (small1000 (by omega))
        · rw [List.length_map, List.length_map, List.length_range]
          exact small1000 (by omega)
        · rw [upd_same, List.range_succ, List.map_append, List.map_append, ej]
          have := nm_eq (acc := acc) (sp := sp) (at_ := at_) (i := i) (by omega)
          rw [this]
          rfl
      · rintro H5 ⟨hD2, hj6, kp6⟩
        refine k D2 H5 _ ?_ (nmks_nodup (st := acc) (sp := sp) (at_ := at_) (m := m) (by omega) (by omega)) ?_ hj6 kp6 fD2 hD2
        · (rw [List.length_map, List.length_range])
        · intro x hx
          obtain ⟨i, _, rfl⟩ := List.mem_map.mp hx
          exact nmk_is (by omega) la7 lo
end
end K01

namespace K01
open L2 PySem PySem.Spec PyProof.Rows
/-! ### an exception that is kept under a name behind its suite -/
/-- at a: an exception object of the class cls, its own dict d -/
def ExV (cls : Value) (d : Option Addr) (a : Addr) : HO := .ext fun h => ∃ (oe : Obj) (vs : Array Value), h.get? a = some oe ∧ Zc cls d oe ∧ oe.data = .fields vs
theorem exV_ok {P : Program} {w : World} {H : Hp} {h : Heap} {a : Addr} {cls : Value} {d : Option Addr} {oe : Obj} {vs : Array Value} (e : h.get? a = some oe) (z : Zc cls d oe) (q : oe.data = .fields vs) : ObjOk P w H h a (ExV cls d a) :=
  ⟨⟨oe, vs, e, z, q⟩, ⟨oe, e⟩, fun _ _ ⟨oe', vs', e', r⟩ k => ⟨oe', vs', k _ e', r⟩⟩
theorem exV_at {P : Program} {w : World} {H : Hp} {h : Heap} {a : Addr} {cls : Value} {d : Option Addr} (hok : HOk P w H h) (e : H a = some (ExV cls d a)) : ∃ (oe : Obj) (vs : Array Value), h.get? a = some oe ∧ Zc cls d oe ∧ oe.data = .fields vs := by
  have x : ObjOk P w H h a (.ext fun h => ∃ (oe : Obj) (vs : Array Value), h.get? a = some oe ∧ Zc cls d oe ∧ oe.data = .fields vs) := hok a _ e
  exact x.1
section
variable {X : Cx} {σ : L2.St} {pins : List (Addr × Obj)} {H : Hp} {s : Shared}
/-- an object that came behind the entry and is not looked after yet: looked after from now on -/
theorem track {a : Addr} {o : HO} (I : Inv X pins σ H s) (hn : H a = none) (nL : a ≠ X.env.locals) (nc : ∀ x c, X.env.cells.lookup x = some c → c ≠ a) (n0 : X.s_0.heap.get? a = none)
    (np : ∀ p ∈ X.pn ++ pins, p.1 ≠ a) (new : ObjOk X.prog X.w (upd H a o) s.heap a o) : Inv X pins σ (upd H a o) s := by
  have far : ∀ b u, X.s_0.heap.get? b = some u → b ≠ a := fun b u e z => by
    rw [z, n0] at e
    cases e
  have old : ∀ {b : Addr} {u : HO}, H b = some u → (upd H a o) b = some u := fun {b u} e => by
    rw [upd_ne (ne_of_none e hn)]
    exact e
  refine ⟨I.ok, I.os, I.bare, ?_, I.loc, I.cell, ?_, ?_, ?_, ?_, I.len⟩
  · exact
      { keep := I.base.keep
        slot := I.base.slot
        free := fun b u e n x => by
          rw [upd_ne (far b u e)]
          exact I.base.free b u e n x
        there := I.base.there
        tups := fun b xs e => old (I.base.tups b xs e)
        frzs := fun b u v e => old (I.base.frzs b u v e)
        tbls := fun b ps e => by
          obtain ⟨m, q⟩ := I.base.tbls b ps e
          exact ⟨m, old q⟩ }
  · rw [upd_ne (Ne.symm nL)]
    exact I.free
  · intro x c e
    rw [upd_ne (nc x c e)]
    exact I.freeC x c e
  · intro p hp
    obtain ⟨h1, h2, h3⟩ := I.pin p hp
    refine ⟨h1, ?_, h3⟩
    rw [upd_ne (np p hp)]
    exact h2
  · exact I.hok.laidN (fun _ _ e => e) hn new
end
/-- what `except x as n` wishes, the error being kept behind the suite -/
def wKeep (K : PySem.W.Frag) (c : Value) (i : Nat) (ts : Addr → Value → Option Addr → TS) (Wout : WX) (D : Ends) : WX := fun cls d σ H =>
  ∃ b, PySem.W.exmOne K cls c = some b ∧ (b = true → ∀ a, H a = none → ts a cls d { nx := fun σ' H' => D.nx (σ'.set i none) (upd H' a (ExV cls d a)), rt := fun _ _ => False } (σ.set i (some (.ref a))) H) ∧ (b = false → Wout cls d σ H)
section
variable {X : Cx} {n x : Str} {c : Value} {i : Nat} {body suite : List Stmt} {b₀ : Stmt} {np pos pos' : Pos} {tb : WX → TS} {ts : Addr → Value → Option Addr → TS} {Wout : WX}
theorem ps_try_keep (hex : X.ex = []) (hs : X.stack = X.env :: X.outer) (hf : X.env.frame = some X.env.locals) (hN : X.N.Nodup) (hi : X.N[i]? = some n) (hln : X.env.kindOf n = some .local) (hc : Names X x c) (tk : L2.Takes X Wout)
    (hb : ∀ (W : WX) (pn : List (Addr × Obj)) (xe : Value → Shared → Prop), L2.Takes (X.tr pn xe) W → PassesOwn (model X.prog X.w) X.A X.env xe → PSs (X.tr pn xe) body (tb W))
    (hsu : ∀ (a : Addr) (oe : Obj) (cls : Value) (d : Option Addr) (pq : List (Addr × Obj)), Zc cls d oe → (∃ vs, oe.data = .fields vs) → PSs (X.suite a ((a, oe) :: pq)) (b₀ :: suite) (ts a cls d)) :
    PS X (.Try body [.ExceptHandler (some (.Name x np)) (some n) (b₀ :: suite) pos'] [] [] pos) (fun D σ H => tb (wKeep X.K c i ts Wout D) D σ H) := by
  refine ⟨fun pins s σ H D I h => wpAny_Try_except ?_⟩
  have okX := I.ok
  have hframes : X.A.frames = some (X.env :: X.outer) := okX.frames.trans (congrArg some hs)
  have hb' := hb (wKeep X.K c i ts Wout D) (X.pn ++ pins) (fun e s₁ => wpAny (model X.prog X.w) X.A (noteFrame e X.env) (fun _ s₂ => wpAny (model X.prog X.w) X.A (setFlight e none)
    (fun _ s₃ => wpAny (model X.prog X.w) X.A (handleBy e X.env [.ExceptHandler (some (.Name x np)) (some n) (b₀ :: suite) pos']) (SP X pins D) X.xe s₃) X.xe s₂) X.xe s₁)
  refine wpAny_mono ((hb' (fun u t xx => ?caught) PassesOwn.looking).run [] s σ H D (I.toTry _) h) (fun f s1 hsp => ?passed) (fun _ _ he => he)
  case passed =>
    cases f
    case next =>
      obtain ⟨σ1, H1, J, q⟩ := hsp
      exact wpAny_execs_nil ⟨σ1, H1, J.ofTry okX, q⟩
    case ret v =>
      obtain ⟨y, σ1, H1, J, r, q⟩ := hsp
      exact ⟨y, σ1, H1, J.ofTry okX, r, q⟩
    all_goals
      obtain ⟨σ1, H1, J, q⟩ := hsp
      exact ⟨σ1, H1, J.ofTry okX, q⟩
  case caught =>
    obtain ⟨a, B, sI, pins1, σ1, H1, cls, d, rfl, JT, nb, up, sky, na, os, ag, b, hb1, hyes, hno⟩ := xx
    have JI : Inv X pins σ1 H1 sI := JT.ofTry okX
    rw [hs] at sky
    show wpAny _ X.A (noteFrame (.ref a) X.env) _ _ _
    refine Sky.land Zc.steady hframes hf sky fun h3 fl3 up3 => ?_
    have J3 : Inv X pins σ1 H1 { t with heap := h3 } := JI.landed nb fl3.1 (up.trans up3) os ag
    (obtain ⟨oe3, vs3, he3, hz3, hd3⟩ := fl3.there)
    have nfr : a ∉ frs (X.env :: X.outer) := fun hm => by
      obtain ⟨_, o', e', hnf⟩ := fl3.2.2.1.mem hm
      rw [he3] at e'
      cases e'
      exact hnf _ hd3
    have nL : a ≠ X.env.locals := fun zz => nfr (List.mem_filterMap.mpr ⟨X.env, List.mem_cons_self, by rw [hf, zz]⟩)
    have nF : ¬ a ∈ X.fs := fun hm => by
      (obtain ⟨e, he, q⟩ := List.mem_filterMap.mp hm)
      (exact nfr (List.mem_filterMap.mpr ⟨e, List.mem_cons_of_mem _ he, q⟩))
    -- the exception came in the body
    have nI : sI.heap.get? a = none := by
      cases e : sI.heap.get? a with
      | none => rfl
      | some o =>
        have z := nb a o e (by rw [hs]; exact nfr)
        have k2 : B.get? a = none := fl3.2.1
        rw [k2] at z
        cases z
    have n0 : X.s_0.heap.get? a = (none : Option Obj) := by
      cases e : (X.s_0.heap.get? a) with
      | none => rfl
      | some o =>
        obtain ⟨o', q⟩ := JI.base.there a o e (by rw [hex]; exact fun z => nomatch z)
        rw [nI] at q
        cases q
    have np' : ∀ p ∈ X.pn ++ pins, p.1 ≠ a := fun p hp z => by
      have q := (JI.pin p hp).1
      rw [z, nI] at q
      cases q
    have nc : ∀ y k, X.env.cells.lookup y = some k → k ≠ a := fun y k e z => by
      obtain ⟨v, o, q, _⟩ := JI.cell y k e
      rw [z, nI] at q
      cases q
    have S3 := (J3.suite he3 hd3 na nL nF)
    (refine wpAny_handleBy_cons (codeAny_handlers_test ?_) (by intro q; cases q))
    have LT : PySem.W.Looks (model X.prog X.w) h3 (typeOf (.ref a)) cls := (fun A Q E s k q => wpAny_typeOf_ref (k _ _ he3) (by rw [hz3.1]; exact q))
    have LM := PySem.W.exm_one (M := model X.prog X.w) J3.kIn LT hb1
    have named : ∀ {Q : Value → Shared → Prop} {E : Value → Shared → Prop}, Q c { t with heap := h3 } → wpAny (model X.prog X.w) (X.A.mark (some (.ref a))) (eval (.Name x np) X.env) Q E { t with heap := h3 } := fun {Q E} q => by
      (obtain ⟨hg, hdbg, hm | ⟨hm, hv, hnn⟩⟩ := hc)
      · (exact ld_glob (X := X.suite a ((a, oe3) :: (X.pn ++ pins))) S3 hg hm q hdbg)
      · (exact ld_blt (X := X.suite a ((a, oe3) :: (X.pn ++ pins))) S3 hg hm hv q hnn hdbg)
    refine named (LM.here ?_)
    cases b with
    | false =>
      (show wpAny _ X.A (handleBy (.ref a) X.env []) _ _ _)
      refine wpAny_handleBy_nil ?_
      obtain ⟨_, _, _, oe, vs, T, oT, ts', he, hz, hd, h1, hr⟩ := id fl3
      unfold PySem.passOn
      (refine wpAny_bind (wpAny_field he hd h1 ?_))
      (rw [if_neg (show ¬ ((Value.ref T == Value.none) = true) from by simp)])
      have out : wpAny (model X.prog X.w) X.A (setFlight (.ref a) X.env.frame) (fun _ s4 => wpAny (model X.prog X.w) X.A (throw (.ref a) : Sem Flow) (SP X pins D) X.xe s4) X.xe { t with heap := h3 } := by
        rw [hf]
        (refine HandSPX.setFlight_upZ fl3 fun h4 hh4 up4 => wpAny_throw (tk _ _ ?_))
        exact ⟨a, B, sI, pins, σ1, H1, cls, d, rfl, JI, nb, (up.trans up3).trans up4, .inr (.inr (by rw [hs]; exact hh4)), na, os, ag, hno rfl⟩
      first
        | exact wpAny_bind out
        | exact wpAny_bind (wpAny_pure (wpAny_bind out))
    | true =>
      refine codeAny_handlers_suite_as (HandSPX.lands_againZ fl3 fun h4 fl4 up4 => ?_)
      have J4 : Inv X pins σ1 H1 { t with heap := h4 } := JI.landed nb fl4.1 ((up.trans up3).trans up4) os ag
      (obtain ⟨oe4, vs4, he4, hz4, hd4⟩ := fl4.there)
      refine store_ok (X := X.suite a ((a, oe4) :: (X.pn ++ pins))) (v := .ref a) (J4.suite he4 hd4 na nL nF) hN hi (.inl hln) rfl (fun s5 S5 => ?_) (.inr hln)
      refine wpAny_mono ((hsu a oe4 cls d (X.pn ++ pins) hz4 ⟨_, hd4⟩).run [] s5 _ H1 _ S5 (hyes rfl a na)) (fun f s6 hsp => ?_) (fun _ _ z => False.elim z)
      cases f
      case next =>
        (obtain ⟨σ6, H6, S6, q6⟩ := hsp)
        obtain ⟨g1, g2, _⟩ := S6.pin (a, oe4) (List.mem_append_left _ List.mem_cons_self)
        have J7 := track (o := ExV cls d a) (S6.unsuite okX) g2 nL nc n0 np' (exV_ok g1 hz4 hd4)
        exact gone_ok J7 hN hi hln fun s7 J8 => ⟨_, _, J8, q6⟩
      case ret v =>
        obtain ⟨_, _, _, _, _, q6⟩ := hsp
        exact False.elim q6
      all_goals
        obtain ⟨_, _, _, q6⟩ := hsp
        exact False.elim q6
end
/-! ### its field, isinstance of it -/
section
variable {X : Cx} {C : Addr}
/-- e.n, e an error that was kept -/
def tXv (C : Addr) (n : Str) (te : TE) : TE := fun σ H Q => te σ H fun x H1 => ∃ (a dd : Addr) (fs : List (Str × V)) (v : V), x = .ref a ∧ H1 a = some (ExV (.ref C) (some dd) a) ∧ H1 dd = some (.xd fs) ∧ fs.lookup n = some v ∧ Q v H1
theorem exv_inst {pins : List (Addr × Obj)} {σ : L2.St} {H : Hp} {s : Shared} {a dd : Addr} {fs : List (Str × V)} (I : Inv X pins σ H s) (e1 : H a = some (ExV (.ref C) (some dd) a)) (e2 : H dd = some (.xd fs)) :
    ∃ (oe od : Obj) (mA : Str → Option Value), PySem.W.InstAt s.heap a oe C (some od) ∧ (∀ f, PySem.W.lookIn f od = some (mA f)) ∧ ∀ f, RelO (fs.lookup f) (mA f) := by
  obtain ⟨oe, vs, ha, hz, hd⟩ := exV_at I.hok e1
  have hx : ObjOk X.prog X.w H s.heap dd (.xd fs) := I.hok dd _ e2
  obtain ⟨mA, hns, hr⟩ := hx
  (obtain ⟨od, ho, hl⟩ := lookIn_ns hns)
  exact ⟨oe, od, mA, ⟨ha, hz.1, by unfold PySem.W.notCls; rw [hd] <;> rfl, by rw [hz.2]; exact ho⟩, hl, hr⟩
theorem pe_exv {e : Expr} {te : TE} {pos : Pos} {n : Str} (T : XfC X.K C) (hno : PySem.W.findIn X.K (.ref C) n = some none) (he : PE X e te) (hb : attributeBase e n X.env (eval e X.env) = eval e X.env := by rfl) : PE X (.Attribute e n pos) (tXv C n te) := by
  refine ⟨fun pins s σ H Q I h => attr_of hb (thn (he.run pins s σ H _ I h) fun u s1 hh => ?_)⟩
  obtain ⟨x, H1, I1, rx, a, dd, fs, v, ex, e1, e2, l, q⟩ := hh
  subst ex
  (obtain rfl : u = Value.ref a := rx)
  obtain ⟨oe, od, mA, J, hl, hr⟩ := exv_inst I1 e1 e2
  (obtain ⟨u, hu, ru⟩ := RelO.some_of (v := v) (o := mA n) (by rw [← l]; exact hr n))
  (exact HandSPX.exc_get I1.kIn J T.ga T.gg T.exC (PySem.W.findObj_own T.hdC hno rfl (by rw [hl, hu])) (handed_of ru) ⟨v, H1, I1.tok _, ru, q⟩)
def rIsV (K : PySem.W.Frag) (D : Addr) : List V → Hp → VK → Prop := fun xs H Q => ∃ (a dd : Addr) (fs : List (Str × V)) (c : V) (cv : Value) (b : Bool), xs = [.ref a, c] ∧ H a = some (ExV (.ref D) (some dd) a) ∧ H dd = some (.xd fs) ∧ (∀ u, RelV c u → u = cv) ∧ PySem.W.kitOne K (.ref D) cv = some b ∧ Q (.bl b) H
theorem call_isV (T : ExcC X.K C) : CallR X (.builtin "isinstance") (rIsV X.K C) := by
  (intro pins s σ H xs us Q I r h)
  obtain ⟨a, dd, fs, c, cv, b, rfl, e1, e2, hcv, e, q⟩ := h
  obtain ⟨oe, od, mA, J, _, _⟩ := exv_inst I e1 e2
  cases r with
  | cons rx rr =>
    cases rr with
    | cons rt rr =>
      cases rr
      cases rx
      have ec := hcv _ rt
      subst ec
      have hcl : (PySem.W.clsIn X.K C).isSome = true := by
        obtain ⟨cd, hc, _⟩ := PySem.W.any_some T.hd
        rw [hc]
        rfl
      exact PySem.W.kia_one (PySem.W.kitx_exc hcl T.hg T.hk T.hs T.ha T.hn T.ht T.hm) I.kIn J e (fun z => nomatch z) fun tk => ⟨.bl b, H, I.kept (t' := tk) fun _ _ z => z, rfl, q⟩
end
end K01

namespace K01
open L2 PySem PySem.Spec PyProof.Rows
/-! ### defs that are called where no repr runs (their bodies show data by repr) -/
structure FnG (P : Program) (w : World) (K : PySem.W.Frag) (mg : Str → Option Value) (base : Heap) (k : Nat) (f : Addr) (fd : FuncData) (ps : List Str) (sp : Sp) : Prop where
  len : ∀ (vs : List V) H Q E, sp vs H Q E → vs.length = ps.length
  run : ∀ (A : Around) (outer : List Env) (s : Shared) (H : Hp) (args : Args) (us : List Value) (vs : List V) (Q : VK) (E : XK), A.guards = some [] → Room k A → Env0 P w K mg base A outer s H →
    BindsTo s fd args (ps.zip us) → Vals vs us → sp vs H Q E → codeAny (model P w) A (.call (.ref f) args) (CR CX0 outer P w H s Q E) s
section
variable {base : Heap} {P : Program} {w : World} {K : PySem.W.Frag} {mg : Str → Option Value}
theorem Fun.okG {x qual : Str} {st : Stmt} {f : Addr} {fd : FuncData} {N ps : List Str} {k : Nat} {sp : Sp} (F : Fun K x qual st f fd) (S : FnScope N ps (defScope st)) (len : ∀ vs H Q E, sp vs H Q E → vs.length = ps.length)
    (hbody : ∀ (cdv : Value) (A : Around) (outer : List Env) (s : Shared) (H : Hp) (vs : List V) (Q : VK) (E : XK), A.guards = some [] → Room k (A.deeper (envOfC qual (defScope st) s.heap.objs.size f cdv)) → sp vs H Q E →
      ∃ t, PSs (cxOf CX0 P w K mg base N qual (defScope st) f cdv A outer s H E).nox (defBody st) t ∧ t { nx := fun _ H' => Q .non H', rt := Q } (L2.start N vs) H) : FnG P w K mg base (k + 1) f fd ps sp := by
  (obtain ⟨oc, od, kV, doc, pm, an, cdv, ct, osl, rfl, lk, hcd⟩ := F.ex)
  refine ⟨len, fun A outer s H args us vs Q E hg hr e0 hb r hsp => ?_⟩
  have nArgs := len _ _ _ _ hsp
  have inK : K.In s.heap := e0.mod.kin.keeps fun b o e => (e0.bs b o e).1
  have noLim : s.heap.NoLimit := e0.mod.nolimit.keeps fun b o e => (e0.bs b o e).1
  have kinds : ∀ y ∈ ps.zip us, (defScope st).names.lookup y.1 = some .local ∨ ((defScope st).names.lookup y.1 = some .cell ∧ ((cellsFrom (s.heap.objs.size + 1) (defScope st).names []).lookup y.1).isSome = true) := fun y hy => by
    rcases S.par y.1 (List.of_mem_zip (a := y.1) (b := y.2) hy).1 with q | q
    · exact Or.inl q
    · exact Or.inr ⟨q, PySem.W.cellsFrom_some _ _ _ (Or.inl q)⟩
  refine codeAny_call_function hr.depth (inK _ _ lk) rfl S.co S.gen rfl (PySem.W.codeRec_of inK hcd) (hb _ _ _ _ (wpAny_newFunctionEnv_cells S.kind kinds fun env he s1 xc => ?_))
  subst he
  obtain ⟨t, ht, hq⟩ := hbody cdv A outer s H vs Q E hg (hr.deeper _) hsp
  have I0 : Inv (cxOf CX0 P w K mg base N qual (defScope st) f cdv A outer s H E) [] (L2.start N vs) H s1 := inv_start S hr.hd e0 nArgs r xc
  have done : ∀ {σ1 : L2.St} {H1 : Hp} {v : V} {u : Value} {t1 : Shared}, Inv (cxOf CX0 P w K mg base N qual (defScope st) f cdv A outer s H E) [] σ1 H1 t1 → RelV v u → Q v H1 → CE outer P w H s Q u t1 :=
    fun {σ1 H1 v u t1} J rv q => ⟨v, H1, J.os, J.bare, J.base, J.hok, rv, q⟩
  refine ⟨noLim.keeps xc.toInCall.keep, codeAny_func (wpAny_mono (ht.nox.run [] s1 (L2.start N vs) H _ I0 hq) (fun fl t1 hs => ?_) fun _ _ hs => hs)⟩
  cases fl
  case ret u =>
    obtain ⟨v, σ1, H1, J, rv, q⟩ := hs
    exact done J rv q
  case next =>
    obtain ⟨σ1, H1, J, q⟩ := hs
    exact done (v := V.non) (u := Value.none) J rfl q
  all_goals
    obtain ⟨_, _, _, q⟩ := hs
    exact False.elim q
end
def HasG (P : Program) (w : World) (K : PySem.W.Frag) (mg : Str → Option Value) (base : Heap) (nm : Str) (k : Nat) (ps : List Str) (sp : Sp) : Prop :=
  ∃ (f : Addr) (fd : FuncData), FnG P w K mg base k f fd ps sp ∧ mg nm = some (.ref f) ∧ PySem.W.keepIn K (.ref f) = true ∧ Binds K fd ps []
theorem pe_hasG {X : Cx} {nm : Str} {k : Nat} {ps : List Str} {sp : Sp} {e : Expr} {es : List Expr} {t : TA} {p pos : Pos} (h : HasG X.prog X.w X.K X.mg X.base nm k ps sp) (hgu : X.A.guards = some []) (hr : Room k X.A) (ha : PA X (e :: es) t) (hg : Gl X nm := by rfl)
    (hdb : (nm == ("__debug__" : Str)) = false := by decide) (he : starEach (e :: es) X.env = (false, eval e X.env) :: starEach es X.env := by rfl) (hpl : (backTo pos (starEach es X.env)).any (·.1) = false := by rfl) :
    PE X (.Call (.Name nm p) (e :: es) [] pos) (tCall sp [] E0 t) := by
  obtain ⟨f, fd, F, hm, hk, hb⟩ := h
  refine ⟨fun pins s σ H Q I h => wpAny_Call_Name_kw (ld_glob I hg hm ?_ hdb)⟩
  (refine PySem.W.callWith_K (h₀ := X.base) I.ok.mod.kin hk (thn (ha.run pos pins s σ H _ I h) fun us s1 ⟨vs, H1, I1, r, q⟩ => ⟨I1.kIn, ?_⟩) he hpl)
  have q' : sp vs H1 Q E0 := by
    have z : sp (vs ++ []) H1 Q E0 := q
    rw [List.append_nil] at z
    exact z
  have hl : (us ++ []).length = ps.length := by
    rw [List.append_nil, ← r.length]
    exact F.len _ _ _ _ q'
  refine wpAny_call (codeAny_mono (F.run X.A X.stack s1 H1 ⟨us, []⟩ (us ++ []) vs Q E0 hgu hr I1.env0 (hb s1 us I1.kIn hl) (by rw [List.append_nil]; exact r) q') fun r s' hq => ?_)
  cases r with
  | error er => exact False.elim hq
  | ok fl =>
    cases fl with
    | ret u => exact I1.after hq
    | next => exact False.elim hq
    | brk => exact False.elim hq
    | cont => exact False.elim hq
/-! ### repr of data -/
def rRepr (K : PySem.W.Frag) : List V → Hp → VK → Prop := fun xs H Q => ∃ (a : Addr) (d : PyData), xs = [.ref a] ∧ Dp K H (.ref a) d ∧ d.showable = true ∧ d.hasDict = false ∧ d.depth ≤ 50 ∧ d.shown.length ≤ sizeLine ∧ Q (.str d.shown) H
theorem call_reprD {X : Cx} (hgu : X.A.guards = some []) (hu : X.A.units + 64 < cLine) : CallR X (.builtin "repr") (rRepr X.K) := by
  (intro pins s σ H xs us Q I r h)
  obtain ⟨a, d, rfl, hd, hs, hdi, hdp, hsz, q⟩ := h
  cases r with
  | cons rx rr =>
    cases rr
    obtain ⟨as, rd⟩ := Dp.reads I d _ _ hd rx
    cases rx
    exact repr_of_reads' rd hs (fun z => by rw [hdi] at z; cases z) hgu (by omega) (fun _ _ e => e) (fun h' u tk hk => ⟨.str d.shown, H, I.kept (t' := tk) hk, ⟨u, rfl⟩, q⟩) hsz
end K01

namespace K01
open PySem L2
abbrev sLines : Stmt := top 14
abbrev sWords : Stmt := top 15
abbrev sIsName : Stmt := top 16
abbrev sLIsName : Stmt := top 56
abbrev sNum : Stmt := top 17
/-! ### names, as both look at them -/
def nameB (w : Str) : Bool := (decide (1 ≤ w.length) && decide (w.length ≤ 8)) && (tx w).all fun c => decide (c ∈ tx abc)
theorem nameB_of {w : Str} (h : IsNm w) : nameB w = true := by
  unfold nameB
  rw [decide_eq_true h.pos, decide_eq_true h.len]
  refine List.all_eq_true.mpr fun c hc => decide_eq_true ?_
  obtain ⟨h1, h2⟩ := h.low c hc
  have all : ∀ c, 97 ≤ c → c ≤ 122 → c ∈ tx abc := by
    intro c a b
    have : c = 97 + (c - 97) := by omega
    rw [this]
    have z : ∀ n : Nat, n < 26 → 97 + n ∈ tx abc := by decide +kernel
    exact z _ (by omega)
  exact all c h1 h2
theorem take_one {α : Type} {l : List α} {i : Nat} {x : α} (h : l[i]? = some x) : l.take (i + 1) = l.take i ++ [x] := by
  rw [List.take_add_one, h]
  rfl
theorem same_new {D : Addr} {H H1 : Hp} {o : HO} (h : Same H H1) (hn : H D = none) : Same H (upd H1 D o) := fun x u e => by
  rw [upd_ne (ne_of_none e hn)]
  exact h x u e
def dig : Str := "0123456789"
structure Txt2 (K : PySem.W.Frag) (mg : Str → Option Value) : Prop extends Txt1 mg where
  all : mg "all" = none
  letters : ∃ t, mg "LETTERS" = some (.str abc t)
  longest : ∃ t, mg "LONGEST_NAME" = some (.int 8 t)
  isinst : mg "isinstance" = none
  str : mg "str" = none
  digits : ∃ t, mg "DIGITS" = some (.str dig t)
  mostD : ∃ t, mg "MOST_DIGITS" = some (.int 9 t)
section
variable {base : Heap} {P : Program} {w : World} {K : PySem.W.Frag} {mg : Str → Option Value}
def spName : Sp := fun vs H Q _ => ∃ z : Str, vs = [.str z] ∧ z.length ≤ 1000000 ∧ ∀ H', Same H H' → Q (.bl (nameB z)) H'
abbrev nIsName : List Str := ["word", "letter"]
theorem scIsName : FnScope nIsName ["word"] (defScope sIsName) := ⟨rfl, rfl, rfl, by decide +kernel, rfl, by decide +kernel, by decide +kernel⟩
/-- [.. in an alphabet for .. in word] over the signs -/
theorem signs_in {ab : Str} {z : Str} {σ : L2.St} {H : Hp} {Q : VK} {te : TE} (h0 : σ[0]? = some (some (.str z))) (hz : z.length ≤ 1000000)
    (hw : ∀ c : Nat, wipe ((wipe σ [1]).set 1 (some (.str ⟨#[c]⟩))) [1] = wipe σ [1])
    (he : ∀ (c : Nat) (H1 : Hp) (R : VK), R (.bl (decide (c ∈ tx ab))) H1 → te ((wipe σ [1]).set 1 (some (.str ⟨#[c]⟩))) H1 R)
    (k : ∀ D H', Same H H' → H' D = some (.lst (((tx z).map fun c => decide (c ∈ tx ab)).map V.bl)) → Q (.ref D) H') : tLc (iStr (tVar 0)) (gName 1) tYes te [1] σ H Q := by
  refine ⟨_, h0, z, rfl, fun D hD => ?_⟩
  have e0 : z.cps.size = (tx z).length := by simp [tx]
  refine lc_it (walk_str (z := z)) (fun i H' => Same H H' ∧ H' D = some (.lst ((((tx z).take i).map fun c => decide (c ∈ tx ab)).map V.bl))) ⟨same_upd hD, upd_same⟩ (fun _ _ _ _ => trivial) ?_ ?_
  · rintro i x H1 H2 hi ⟨s1, hd⟩ ⟨rfl, c, hc, rfl⟩
    refine ⟨hw c, ?_⟩
    show te _ H2 _
    refine he c H2 _ ?_
    have hc' : (tx z)[i]? = some c := by
      simpa [tx] using hc
    refine ⟨_, hd, ?_, same_new s1 hD, ?_⟩
    · rw [List.length_map, List.length_map, List.length_take]
      have : z.length = z.cps.size := rfl
      exact Nat.lt_of_le_of_lt (Nat.le_trans (Nat.min_le_left _ _) (Nat.le_trans (Nat.le_of_lt hi) (this ▸ hz))) (by decide)
    · rw [upd_same, take_one hc', List.map_append, List.map_append]
      rfl
  · rintro H1 ⟨s1, hd⟩
    refine k D H1 s1 ?_
    rw [hd, e0, List.take_length]
theorem all_map_id (l : List Nat) (p : Nat → Bool) : (l.map p).all id = l.all p := by
  rw [List.all_map]
  rfl
theorem ok_isName {f : Addr} {fd : FuncData} (F : Fun K "is_name" "is_name" sIsName f fd) (T : Txt2 K mg) : FnOk P w K mg base CX0 1 f fd ["word"] spName := by
  refine F.ok scIsName (fun vs H Q E h => ?_) (fun cdv A outer s H vs Q E hr h => ?_)
  · obtain ⟨z, rfl, _⟩ := h
    rfl
  · obtain ⟨z, rfl, hz, k⟩ := h
    obtain ⟨t1, g1⟩ := T.letters
    obtain ⟨t2, g2⟩ := T.longest
    refine ⟨_, pss_one (ps_ret (pe_and (pe_chain op_le op_le pe_int (pe_callB call_len_str (by rfl) T.len PySem.boot_len (pa_cons (pv 0) pa_nil)) (pe_glob (v := .int 8) (by rfl) g2 ⟨_, rfl⟩))
      (pe_one (pe_callB (cr_all rfl) (by rfl) T.all (by decide +kernel) (pa_cons (pe_lc (own := [("letter", 1)]) (g := gName 1) (tt := tYes) rfl scIsName.nd (pi_str (pv 0))
          (blkOk_by (N := nIsName) (sc := defScope sIsName) (by decide +kernel)) (fun _ _ _ _ _ => pg_name (i := 1) scIsName.nd rfl (Or.inl rfl)) (fun _ _ _ _ _ => pts_nil)
          (fun _ _ _ _ _ => pe_cmpR op_in_sign (pv 1) (pe_glob (v := .str abc) (by rfl) g1 ⟨_, rfl⟩) (by rfl))) pa_nil))))), ?_⟩
    refine ⟨_, rfl, z, rfl, Nat.le_trans hz (by decide), _, _, rfl, rfl, _, rfl, ?_⟩
    refine ite2 (fun h1 => ?_) (fun h1 => ?_)
    · refine ⟨_, _, rfl, rfl, _, rfl, ?_⟩
      refine ite2 (fun h2 => ?_) (fun h2 => ?_)
      · dsimp only [tCB, tCons, List.map]
        refine signs_in (ab := abc) (z := z) ?_ hz ?_ ?_ ?_
        · rfl
        · exact fun _ => rfl
        · exact fun c H1 R q => ⟨_, rfl, c, abc, rfl, rfl, q⟩
        intro D H1 s1 hl
        refine ⟨D, _, rfl, SqL.of hl, ?_⟩
        have e : nameB z = ((tx z).map fun c => decide (c ∈ tx abc)).all id := by
          rw [all_map_id]
          unfold nameB
          rw [decide_eq_true (show 1 ≤ z.length by have := of_decide_eq_true h1; omega), decide_eq_true (show z.length ≤ 8 by have := of_decide_eq_true h2; omega)]
          rfl
        rw [← e]
        exact k H1 s1
      · have e : nameB z = false := by
          unfold nameB
          rw [decide_eq_false (show ¬ z.length ≤ 8 from fun q => h2 (decide_eq_true (by omega)))]
          simp
        have q := k H (Same.refl H)
        rw [e] at q
        exact q
    · have e : nameB z = false := by
        unfold nameB
        rw [decide_eq_false (show ¬ 1 ≤ z.length from fun q => h1 (decide_eq_true (by omega)))]
        simp
      have q := k H (Same.refl H)
      rw [e] at q
      exact ⟨_, rfl, q⟩
end
/-! ### numbers -/
def digB (z : Str) : Bool := (tx z).all fun c => decide (c ∈ tx dig)
/-- what a word tells as a number -/
def numOf (z : Str) : Option Nat := if (1 ≤ z.length ∧ z.length ≤ 9) ∧ digB z = true then (if 1 < z.length ∧ (tx z).head? = some 48 then none else some (NumText.digitsVal (tx z))) else none
theorem dig_mem {c : Nat} : c ∈ tx dig ↔ 48 ≤ c ∧ c ≤ 57 := by
  have e : tx dig = [48, 49, 50, 51, 52, 53, 54, 55, 56, 57] := by decide +kernel
  rw [e]
  simp only [List.mem_cons, List.not_mem_nil, or_false]
  omega
theorem foldl_ge (l : List Nat) (a : Nat) : a ≤ l.foldl (fun acc c => acc * 10 + (c - 48)) a := by
  induction l generalizing a with
  | nil => exact Nat.le_refl _
  | cons c l ih =>
    have := ih (a * 10 + (c - 48))
    rw [List.foldl_cons]
    omega
theorem numOf_small {z : Str} {n : Nat} (h : n < 10) : numOf z = some n ↔ tx z = [48 + n] := by
  have hl : z.length = (tx z).length := by
    show z.cps.size = z.cps.toList.length
    simp
  unfold numOf digB
  rw [hl]
  generalize tx z = l
  cases l with
  | nil => simp
  | cons c r =>
    cases r with
    | nil =>
      constructor
      · intro e
        by_cases q : (1 ≤ [c].length ∧ [c].length ≤ 9) ∧ ([c].all fun c => decide (c ∈ tx dig)) = true
        · rw [if_pos q, if_neg (by simp)] at e
          have hc : decide (c ∈ tx dig) = true := List.all_eq_true.mp q.2 c (by simp)
          have hc := dig_mem.mp (of_decide_eq_true hc)
          have e2 : 0 * 10 + (c - 48) = n := Option.some.inj e
          have : c = 48 + n := by omega
          rw [this]
        · rw [if_neg q] at e
          cases e
      · intro e
        have ec : c = 48 + n := (List.cons.inj e).1
        have hc : c ∈ tx dig := dig_mem.mpr (by omega)
        rw [if_pos ⟨by simp, List.all_eq_true.mpr fun d hd => by rw [List.mem_singleton.mp hd]; exact decide_eq_true hc⟩, if_neg (by simp)]
        show some (0 * 10 + (c - 48)) = some n
        congr 1
        omega
    | cons d r =>
      constructor
      · intro e
        by_cases q : (1 ≤ (c :: d :: r).length ∧ (c :: d :: r).length ≤ 9) ∧ ((c :: d :: r).all fun c => decide (c ∈ tx dig)) = true
        · rw [if_pos q] at e
          have hc : decide (c ∈ tx dig) = true := List.all_eq_true.mp q.2 c (by simp)
          have hc := dig_mem.mp (of_decide_eq_true hc)
          by_cases z0 : 1 < (c :: d :: r).length ∧ (c :: d :: r).head? = some 48
          · rw [if_pos z0] at e
            cases e
          · rw [if_neg z0] at e
            have e2 : (c :: d :: r).foldl (fun acc c => acc * 10 + (c - 48)) 0 = n := Option.some.inj e
            rw [List.foldl_cons, List.foldl_cons] at e2
            have := foldl_ge r ((0 * 10 + (c - 48)) * 10 + (d - 48))
            have c48 : c ≠ 48 := fun q => z0 ⟨by simp, by rw [q]; rfl⟩
            omega
        · rw [if_neg q] at e
          cases e
      · intro e
        exact absurd (List.cons.inj e).2 (by simp)
section
variable {base : Heap} {P : Program} {w : World} {K : PySem.W.Frag} {mg : Str → Option Value}
def resN (o : Option Nat) (Q : VK) (H : Hp) : Prop := match o with
  | none => Q .non H
  | some n => Q (.int (n : Int)) H
def spNum : Sp := fun vs H Q _ => ∃ z : Str, vs = [.str z] ∧ z.length ≤ 1000000 ∧ ∀ H', Same H H' → resN (numOf z) Q H'
abbrev nNum : List Str := ["word", "letter"]
theorem scNum : FnScope nNum ["word"] (defScope sNum) := ⟨rfl, rfl, rfl, by decide +kernel, rfl, by decide +kernel, by decide +kernel⟩
theorem ok_num {f : Addr} {fd : FuncData} (F : Fun K "number_of" "number_of" sNum f fd) (T : Txt2 K mg) : FnOk P w K mg base CX0 1 f fd ["word"] spNum := by
  refine F.ok scNum (fun vs H Q E h => ?_) (fun cdv A outer s H vs Q E hr h => ?_)
  · obtain ⟨z, rfl, _⟩ := h
    rfl
  · obtain ⟨z, rfl, hz, k⟩ := h
    obtain ⟨t1, g1⟩ := T.digits
    obtain ⟨t2, g2⟩ := T.mostD
    refine ⟨_, pss_cons (ps_if (PW.pt (pw_or (pt_not (pt_chain op_le op_le pe_int (pe_callB call_len_str (by rfl) T.len PySem.boot_len (pa_cons (pv 0) pa_nil)) (pe_glob (v := .int 9) (by rfl) g2 ⟨_, rfl⟩)))
        (pw_or1 (pt_not (pt_val (pe_callB (cr_all rfl) (by rfl) T.all (by decide +kernel) (pa_cons (pe_lc (own := [("letter", 1)]) (g := gName 1) (tt := tYes) rfl scNum.nd (pi_str (pv 0))
          (blkOk_by (N := nNum) (sc := defScope sNum) (by decide +kernel)) (fun _ _ _ _ _ => pg_name (i := 1) scNum.nd rfl (Or.inl rfl)) (fun _ _ _ _ _ => pts_nil)
          (fun _ _ _ _ _ => pe_cmpR op_in_sign (pv 1) (pe_glob (v := .str dig) (by rfl) g1 ⟨_, rfl⟩) (by rfl))) pa_nil))))))) (pss_one (ps_ret pe_non)) pss_nil)
      (pss_cons (ps_if (PW.pt (pw_and (pt_cmpR op_gt (pe_callB call_len_str (by rfl) T.len PySem.boot_len (pa_cons (pv 0) pa_nil)) pe_int (nomark _))
        (pw_and1 (pt_cmpR op_eq (pe_ix ix_str (pv 0) pe_int (fun _ _ => rfl)) pe_str (nomark _))))) (pss_one (ps_ret pe_non)) pss_nil)
      (pss_one (ps_ret (pe_callTy call_int_str (by rfl) T.int (by decide +kernel) (pa_cons (pv 0) pa_nil))))), ?_⟩
    have no : numOf z = none → ∀ H1, Same H H1 → Q .non H1 := fun e H1 s1 => by
      have q := k H1 s1
      rw [e] at q
      exact q
    have lz : z.length = (tx z).length := by
      show z.cps.size = z.cps.toList.length
      simp
    refine ⟨_, rfl, z, rfl, Nat.le_trans hz (by decide), _, _, rfl, rfl, _, rfl, ?_⟩
    refine ite2 (fun h1 => ?_) (fun h1 => ?_)
    · refine ⟨_, _, rfl, rfl, _, rfl, ?_⟩
      refine ite2 (fun h2 => ?_) (fun h2 => ?_)
      · refine no (if_neg fun q => ?_) H (Same.refl H)
        have h2' : (!decide ((z.length : Int) ≤ 9)) = true := h2
        rw [decide_eq_true (show (z.length : Int) ≤ 9 by have := q.1.2; omega)] at h2'
        cases h2'
      · have l1 : 1 ≤ z.length := by
          have := of_decide_eq_true h1
          omega
        have l9 : z.length ≤ 9 := by
          have h2' : ¬ (!decide ((z.length : Int) ≤ 9)) = true := h2
          by_cases c : (z.length : Int) ≤ 9
          · omega
          · exact absurd (by rw [decide_eq_false c]; rfl) h2'
        dsimp only [tNot, tB, tCB, tCons, List.map]
        refine signs_in (ab := dig) (z := z) ?_ hz ?_ ?_ ?_
        · rfl
        · exact fun _ => rfl
        · exact fun c H1 R q => ⟨_, rfl, c, dig, rfl, rfl, q⟩
        intro D H1 s1 hl
        refine ⟨D, _, rfl, SqL.of hl, _, rfl, ?_⟩
        have e : ((tx z).map fun c => decide (c ∈ tx dig)).all id = digB z := by
          rw [all_map_id]
          rfl
        rw [e]
        refine ite2 (fun h3 => ?_) (fun h3 => ?_)
        · refine no (if_neg fun q => ?_) H1 s1
          rw [q.2] at h3
          cases h3
        · have d1 : digB z = true := by
            cases c : digB z with
            | true => rfl
            | false =>
              rw [c] at h3
              exact absurd rfl h3
          obtain ⟨c, r, hc⟩ : ∃ c r, tx z = c :: r := by
            cases q : tx z with
            | nil =>
              rw [lz, q] at l1
              exact absurd l1 (by decide)
            | cons c r => exact ⟨c, r, rfl⟩
          have num : numOf z = if 1 < z.length ∧ (tx z).head? = some 48 then none else some (NumText.digitsVal (tx z)) := if_pos ⟨⟨l1, l9⟩, d1⟩
          have fin : ¬ (1 < z.length ∧ (tx z).head? = some 48) → PySem.intText? z = some ((NumText.digitsVal (tx z) : Nat) : Int) ∧ resN (numOf z) Q H1 := fun q => by
            refine ⟨PySem.intText_digits (fun c hc => ?_) (by rw [show z.cps.toList = tx z from rfl, hc]; exact fun q => nomatch q) (by omega), k H1 s1⟩
            exact dig_mem.mp (of_decide_eq_true (List.all_eq_true.mp d1 c hc))
          have ret : ¬ (1 < z.length ∧ (tx z).head? = some 48) → ∃ (a : Str) (n : Int), ([V.str z] : List V) = [.str a] ∧ PySem.intText? a = some n ∧ a.length ≤ 640 ∧ Q (.int n) H1 := fun q => by
            obtain ⟨f1, f2⟩ := fin q
            refine ⟨z, _, rfl, f1, by omega, ?_⟩
            rw [num, if_neg q] at f2
            exact f2
          refine ⟨_, rfl, z, rfl, Nat.le_trans hz (by decide), _, _, rfl, rfl, _, rfl, ?_⟩
          refine ite2 (fun h4 => ?_) (fun h4 => ?_)
          · refine ⟨_, rfl, z, 0, c, rfl, rfl, Nat.le_trans hz (by decide), atI_nat (j := 0) (by rw [show z.cps.toList = tx z from rfl, hc]; rfl), rfl, _, rfl, ?_⟩
            have l2 : 1 < z.length := by
              have := of_decide_eq_true h4
              omega
            refine ite2 (fun h5 => ?_) (fun h5 => ?_)
            · refine no ?_ H1 s1
              rw [num, if_pos]
              refine ⟨l2, ?_⟩
              have := V.str.inj (of_decide_eq_true h5)
              rw [hc]
              have e2 : tx (⟨#[c]⟩ : Str) = tx "0" := congrArg tx this
              have e3 : [c] = [48] := e2.trans (by decide +kernel)
              rw [(List.cons.inj e3).1]
              rfl
            · refine ⟨_, rfl, ret fun q => h5 ?_⟩
              have q2 := q.2
              rw [hc] at q2
              have e2 : c = 48 := Option.some.inj q2
              rw [e2]
              exact decide_eq_true (congrArg V.str (TL.ext_tl (by decide +kernel)))
          · refine ⟨_, rfl, ret fun q => h4 (decide_eq_true ?_)⟩
            have := q.1
            omega
    · refine ⟨_, rfl, ?_⟩
      refine ite2 (fun _ => ?_) (fun q => absurd rfl q)
      refine no (if_neg fun q => h1 (decide_eq_true ?_)) H (Same.refl H)
      have := q.1.1
      omega
end
end K01

namespace K01
open PySem L2
abbrev sKeyOf : Stmt := top 44
abbrev sReadKeys : Stmt := top 45
theorem get_new {H : Hp} {p q : Addr} {o u : HO} (h : H q = some u) (hn : H p = none) : upd H p o q = some u := by
  rw [upd_ne (ne_of_none h hn)]
  exact h
/-! ### texts of plain signs -/
def Asc (z : Str) : Prop := ∀ c ∈ tx z, c < 128
theorem asc_ok {z : Str} (h : Asc z) : PyData.canLay0 (.str z) = true := by
  have e : PyData.canLay0 (.str z) = z.cps.all (· < 0x110000) := by
    simp only [PyData.canLay0]
    rfl
  rw [e, ← Array.all_toList]
  exact List.all_eq_true.mpr fun c hc => decide_eq_true (Nat.lt_trans (h c hc) (by decide))
theorem texts_lay : ∀ {l : List Str}, (∀ z ∈ l, Asc z) → PyData.canLayAll0 (l.map PyData.str) = true
  | [], _ => rfl
  | a :: l, h => by
    show (PyData.canLay0 (.str a) && PyData.canLayAll0 (l.map PyData.str)) = true
    rw [texts_lay (l := l) fun z hz => h z (List.mem_cons_of_mem _ hz)]
    rw [asc_ok (h a List.mem_cons_self)]
    rfl
theorem texts_depth : ∀ l : List Str, PyData.depthAll (l.map PyData.str) = 0
  | [] => rfl
  | a :: l => by
    show max (PyData.depth (.str a)) (PyData.depthAll (l.map PyData.str)) = 0
    rw [texts_depth l]
    simp [PyData.depth]
theorem texts_shaped {l : List Str} (h : ∀ z ∈ l, Asc z) : SeqAt.shaped (.list (l.map PyData.str)) = true := by
  unfold SeqAt.shaped
  have h1 : PyData.canLay0 (.list (l.map PyData.str)) = true := by
    simpa [PyData.canLay0] using texts_lay h
  have h2 : PyData.depth (.list (l.map PyData.str)) = 1 := by
    simp [PyData.depth, texts_depth]
  rw [h1, h2]
  rfl
theorem texts_dp {K : PySem.W.Frag} {H : Hp} : ∀ l : List Str, DpAll K H (l.map V.str) (l.map PyData.str)
  | [] => .nil
  | a :: l => .cons (.str a) (texts_dp l)
abbrev sWordsN : List Str := ["line"]
theorem scWords : FnScope sWordsN ["line"] (defScope sWords) := ⟨rfl, rfl, rfl, by decide +kernel, rfl, by decide +kernel, by decide +kernel⟩
section
variable {base : Heap} {P : Program} {w : World} {K : PySem.W.Frag} {mg : Str → Option Value}
def blank : Str := " "
def wordsOf (z : Str) : List Str := Txt.split z blank
def spWords : Sp := fun vs H Q _ => ∃ z : Str, vs = [.str z] ∧ z.length ≤ 1000000 ∧ ∀ p H', H p = none → Same H H' → H' p = some (.lst ((wordsOf z).map V.str)) → Q (.ref p) H'
theorem ok_words {f : Addr} {fd : FuncData} (F : Fun K "words_of" "words_of" sWords f fd) : FnOk P w K mg base CX0 1 f fd ["line"] spWords := by
  refine F.ok scWords (fun vs H Q E h => ?_) (fun cdv A outer s H vs Q E hr h => ?_)
  · obtain ⟨z, rfl, _⟩ := h
    rfl
  · obtain ⟨z, rfl, hz, k⟩ := h
    refine ⟨_, pss_one (ps_ret (pe_split (pv 0) pe_str)), ?_⟩
    refine ⟨_, rfl, ⟨_, rfl⟩, _, _, rfl, rfl, by decide +kernel, Nat.le_trans (Nat.add_le_add_right hz 2) (by decide), fun p hp => ?_⟩
    exact k p _ hp (same_upd hp) upd_same
theorem sqT_any {K : PySem.W.Frag} {H : Hp} {p : Addr} {xs : List V} (h : SqT K (fun _ => none) p xs) : SqT K H p xs := by
  (rcases h with (h | ⟨o, h⟩) | h)
  · cases h
  · cases h
  · exact .inr h
theorem cut_from (xs : List V) (n : Nat) : cutV xs (some (n : Int)) none = xs.drop n := by
  unfold cutV
  rw [HT.sIx_nat, HT.sIx_none]
  by_cases h : n ≤ xs.length
  · rw [Nat.min_eq_left h]
    (exact List.take_of_length_le (by rw [List.length_drop]; omega))
  · have h1 : min n xs.length = xs.length := Nat.min_eq_right (by omega)
    rw [h1, List.drop_length, List.drop_of_length_le (by omega)]
    simp
theorem units65 {k : Nat} {A : Around} (hr : Room k A) : A.units + 65 < cLine := by
  have := hr.un
  omega
theorem mem_joinL {S : List Nat} {c : Nat} : ∀ {ps : List (List Nat)} {p : List Nat}, p ∈ ps → c ∈ p → c ∈ TL.joinL S ps
  | [q], p, h, hc => by
    rw [List.mem_singleton.mp h] at hc
    exact hc
  | q :: r :: l, p, h, hc => by
    show c ∈ q ++ (S ++ TL.joinL S (r :: l))
    (rcases List.mem_cons.mp h with e | h)
    · rw [e] at hc
      exact List.mem_append_left _ hc
    · exact List.mem_append_right _ (List.mem_append_right _ (mem_joinL h hc))
theorem len_joinL {S : List Nat} : ∀ {ps : List (List Nat)} {p : List Nat}, p ∈ ps → p.length ≤ (TL.joinL S ps).length
  | [q], p, h => by
    rw [List.mem_singleton.mp h]
    exact Nat.le_refl _
  | q :: r :: l, p, h => by
    show _ ≤ (q ++ (S ++ TL.joinL S (r :: l))).length
    rw [List.length_append, List.length_append]
    (rcases List.mem_cons.mp h with e | h)
    · rw [e]
      omega
    · have := len_joinL (S := S) h
      omega
theorem split_mem {z y p : Str} (h : p ∈ Txt.split z y) : (∀ c ∈ tx p, c ∈ tx z) ∧ p.length ≤ z.length := by
  have e : TL.tl (Str.join y (Txt.split z y)) = TL.tl z := by rw [StrLaws.join_split]
  rw [TL.tl_join] at e
  have hm : TL.tl p ∈ (Txt.split z y).map TL.tl := List.mem_map_of_mem h
  refine ⟨fun c hc => ?_, ?_⟩
  · have := mem_joinL (S := TL.tl y) hm hc
    rw [e] at this
    exact this
  · have := len_joinL (S := TL.tl y) hm
    rw [e] at this
    rw [TL.len_tl, TL.len_tl]
    exact this
theorem words_asc {z : Str} (h : Asc z) : ∀ p ∈ wordsOf z, Asc p := fun p hp c hc => h c ((split_mem hp).1 c hc)
theorem words_len {z : Str} {n : Nat} (h : z.length ≤ n) : ∀ p ∈ wordsOf z, p.length ≤ n := fun p hp => Nat.le_trans (split_mem hp).2 h
/-! ### a tuple of which it is known that no dict hangs on it -/
def TupD (H : Hp) (p : Addr) (xs : List V) : Prop := ∃ o : Obj, H p = some (.frz o (.tup xs)) ∧ o.dict = none
theorem TupD.sq {K : PySem.W.Frag} {H : Hp} {p : Addr} {xs : List V} (h : TupD H p xs) : SqT K H p xs := by
  obtain ⟨o, e, _⟩ := h
  exact .inl (.inr ⟨o, e⟩)
theorem TupD.same {H H' : Hp} {p : Addr} {xs : List V} (h : TupD H p xs) (s : Same H H') : TupD H' p xs := by
  obtain ⟨o, e, d⟩ := h
  exact ⟨o, s _ _ e, d⟩
def tyTupD (x : V) (H : Hp) : Prop := ∃ p xs, x = .ref p ∧ TupD H p xs
theorem ty_tupD {X : Cx} : TyOk X "tuple" tyTupD := by
  intro pins σ H s x v I r ty
  obtain ⟨p, xs, rfl, o, e, d⟩ := ty
  cases r
  have ho := (I.hok p _ e).1
  obtain ⟨its, _, ⟨o2, h2, c2, _⟩, _⟩ := I.tuple (X := X) (show SqT X.K H p xs from .inl (.inr ⟨o, e⟩))
  refine ⟨⟨o2, h2, c2⟩, fun a ea => ?_⟩
  cases ea
  exact ⟨o, ho, d⟩
/-- tuple(a list), no dict hanging on it -/
theorem call_tupD {X : Cx} : CallR X (.type "tuple") (fun xs H Q => ∃ p ys, xs = [.ref p] ∧ SqL X.K H p ys ∧ ∀ (l : Addr) (o : Obj), H l = none → o.dict = none → Q (.ref l) (upd H l (.frz o (.tup ys)))) := by
  intro pins s σ H xs us Q I r h
  obtain ⟨p, ys, rfl, hq, q⟩ := h
  cases r with
  | cons rx rr =>
    cases rr
    cases rx
    obtain ⟨its, r', pl, hz⟩ := I.list hq
    have hlen := r'.length
    refine PySem.call_tuple_list pl.isList (fun h' kp => ?_) (by simp only [List.size_toArray] <;> omega)
    have I1 : Inv X pins σ H { s with heap := h' } := I.kept (t' := s.toks) kp
    have I2 : Inv X pins σ (upd H h'.objs.size (.frz { cls := .type "tuple", data := .seq its.toArray } (.tup ys))) { s with heap := h'.push { cls := .type "tuple", data := .seq its.toArray } } :=
      I1.laid (t' := s.toks) (fun b o e => Heap.get?_push_of_some _ e) (Nat.le_refl _) (show ObjOk X.prog X.w _ _ _ (.frz _ (.tup ys)) from ⟨Heap.get?_push_size _ rfl, hz, its, r', PyProof.Rows.IsTup.new _ _⟩)
    exact ⟨.ref h'.objs.size, _, I2, rfl, q _ _ (I1.hok.fresh (Nat.le_refl _)) rfl⟩
/-! ### key_of -/
def wKey : Str := "key"
/-- what the words of a line of a key tell -/
def keyOf : List Str → Option (Str × Nat)
  | [a, b, c] => if a = wKey ∧ nameB b = true ∧ (numOf c = some 2 ∨ numOf c = some 3) then some (b, if numOf c = some 2 then 2 else 3) else none
  | _ => none
def resK (o : Option (Str × Nat)) (Q : VK) (H : Hp) : Prop := match o with
  | none => Q .non H
  | some (b, n) => ∀ p, H p = some (.tup [.str b, .int (n : Int)]) → Q (.ref p) H
def spKey : Sp := fun vs H Q _ => ∃ z : Str, vs = [.str z] ∧ z.length ≤ 1000000 ∧ ∀ H', Same H H' → resK (keyOf (wordsOf z)) Q H'
structure Txt3 (K : PySem.W.Frag) (mg : Str → Option Value) : Prop extends Txt2 K mg where
  sizes : ∃ p, mg "SIZES" = some (.ref p) ∧ SqT K (fun _ => none) p ([.int 2, .int 3] : List V)
  most : ∃ t, mg "MOST_KEYS" = some (.int 3 t)
  tuple : mg "tuple" = none
abbrev nKeyOf : List Str := ["line", "words", "size"]
theorem scKeyOf : FnScope nKeyOf ["line"] (defScope sKeyOf) := ⟨rfl, rfl, rfl, by decide +kernel, rfl, by decide +kernel, by decide +kernel⟩
theorem resN_at {o : Option Nat} {Q : VK} {H : Hp} (h0 : o = none → Q .non H) (h1 : ∀ n, o = some n → Q (.int (n : Int)) H) : resN o Q H := by
  cases o with
  | none => exact h0 rfl
  | some n => exact h1 n rfl
theorem ok_keyOf {f : Addr} {fd : FuncData} (F : Fun K "key_of" "key_of" sKeyOf f fd) (T : Txt3 K mg) (GW : Has P w K mg base "words_of" 1 ["line"] spWords) (GN : Has P w K mg base "is_name" 1 ["word"] spName) (GM : Has P w K mg base "number_of" 1 ["word"] spNum) :
    FnOk P w K mg base CX0 2 f fd ["line"] spKey := by
  refine F.ok scKeyOf (fun vs H Q E h => ?_) (fun cdv A outer s H vs Q E hr h => ?_)
  · obtain ⟨z, rfl, _⟩ := h
    rfl
  · obtain ⟨z, rfl, hz, k⟩ := h
    obtain ⟨wp, gw, hwp⟩ := T.sizes
    refine ⟨_, pss_cons (ps_set (i := 1) scKeyOf.nd rfl (.inl rfl) (pe_has GW hr (pa_cons (pv 0) pa_nil)))
      (pss_cons (ps_if (PW.pt (pw_or (pt_cmpR op_ne (pe_callB call_len_seq (by rfl) T.len PySem.boot_len (pa_cons (pv 1) pa_nil)) pe_int (nomark _))
          (pw_or (pt_cmpR op_ne (pe_ix ix_list (pv 1) pe_int (fun _ _ => rfl)) pe_str (nomark _))
          (pw_or1 (pt_not (pt_val (pe_has GN hr (pa_cons (pe_ix ix_list (pv 1) pe_int (fun _ _ => rfl)) pa_nil)))))))) (pss_one (ps_ret pe_non)) pss_nil)
      (pss_cons (ps_set (i := 2) scKeyOf.nd rfl (.inl rfl) (pe_has GM hr (pa_cons (pe_ix ix_list (pv 1) pe_int (fun _ _ => rfl)) pa_nil)))
      (pss_cons (ps_if (pt_cmpR op_notIn_seq (pv 2) (pe_glob (v := .ref wp) (by rfl) gw rfl) (by rfl)) (pss_one (ps_ret pe_non)) pss_nil)
      (pss_one (ps_ret (pe_tup (pa_cons (pe_ix ix_list (pv 1) pe_int (fun _ _ => rfl)) (pa_cons (pv 2) pa_nil)))))))), ?_⟩
    refine ⟨_, rfl, z, rfl, hz, fun p H1 np s1 hp => ?_⟩
    have wl := words_len hz
    generalize hws : wordsOf z = ws at hp wl k
    have none_of : keyOf ws = none → ∀ H2, Same H H2 → Q .non H2 := fun e H2 s2 => by
      have q := k H2 s2
      rw [e] at q
      exact q
    refine ⟨_, rfl, p, _, rfl, .inl (SqL.of hp), rfl, _, rfl, ?_⟩
    refine ite2 (fun h3 => ?_) (fun h3 => ?_)
    · refine none_of ?_ H1 s1
      match ws, h3 with
      | [], _ => rfl
      | [_], _ => rfl
      | [_, _], _ => rfl
      | [_, _, _], h => exact absurd (show (!decide (V.int 3 = V.int 3)) = true from h) (by decide)
      | _ :: _ :: _ :: _ :: _, _ => rfl
    · obtain ⟨a, b, c, rfl⟩ : ∃ a b c, ws = [a, b, c] := by
        match ws, h3 with
        | [], h => exact absurd (show (!decide (V.int 0 = V.int 3)) = true by decide) h
        | [_], h => exact absurd (show (!decide (V.int 1 = V.int 3)) = true by decide) h
        | [_, _], h => exact absurd (show (!decide (V.int 2 = V.int 3)) = true by decide) h
        | [a, b, c], _ => exact ⟨a, b, c, rfl⟩
        | a :: b :: c :: d :: r, h =>
          exfalso
          refine h ?_
          show (!decide (V.int (((a :: b :: c :: d :: r).map V.str).length : Int) = V.int 3)) = true
          rw [decide_eq_false (fun e => by
            have := V.int.inj e
            simp only [List.length_map, List.length_cons] at this
            omega)]
          rfl
      refine ⟨_, rfl, p, _, 0, .str a, rfl, rfl, SqL.of hp, atI_nat (j := 0) rfl, rfl, _, rfl, ?_⟩
      refine ite2 (fun ha => ?_) (fun ha => ?_)
      · refine none_of (if_neg fun q => ?_) H1 s1
        have ha' : (!decide (V.str a = V.str wKey)) = true := ha
        rw [q.1, decide_eq_true rfl] at ha'
        cases ha'
      have ea : a = wKey := by
        by_cases e : a = wKey
        · exact e
        · exfalso
          refine ha ?_
          show (!decide (V.str a = V.str wKey)) = true
          rw [decide_eq_false (fun q => e (V.str.inj q))]
          rfl
      refine ⟨_, rfl, p, _, 1, .str b, rfl, rfl, SqL.of hp, atI_nat (j := 1) rfl, b, rfl, wl b (by simp), fun H2 s2 => ⟨_, rfl, ?_⟩⟩
      have hp2 := s2 _ _ hp
      have s02 := s1.trans s2
      refine ite2 (fun hb => ?_) (fun hb => ?_)
      · refine none_of (if_neg fun q => ?_) H2 s02
        rw [q.2.1] at hb
        cases hb
      have eb : nameB b = true := by
        cases e : nameB b with
        | true => rfl
        | false =>
          rw [e] at hb
          exact absurd rfl hb
      refine ⟨_, rfl, p, _, 2, .str c, rfl, rfl, SqL.of hp2, atI_nat (j := 2) rfl, c, rfl, wl c (by simp), fun H3 s3 => ?_⟩
      have s03 := s02.trans s3
      have hp3 := s3 _ _ hp2
      refine resN_at (fun e => ?_) (fun n e => ?_)
      · refine ⟨_, rfl, wp, _, rfl, .inr (sqT_any hwp), rfl, rfl, _, rfl, ?_⟩
        refine none_of (if_neg fun q => ?_) H3 s03
        rw [e] at q
        rcases q.2.2 with q | q <;> cases q
      · refine ⟨_, rfl, wp, _, rfl, .inr (sqT_any hwp), rfl, rfl, _, rfl, ?_⟩
        refine ite2 (fun hc => ?_) (fun hc => ?_)
        · refine none_of (if_neg fun q => ?_) H3 s03
          have hc' : (!(((2 : Int) == (n : Int)) || ((3 : Int) == (n : Int) || false))) = true := hc
          rw [e] at q
          rcases q.2.2 with q | q
          · rw [Option.some.inj q] at hc'
            exact absurd hc' (by decide)
          · rw [Option.some.inj q] at hc'
            exact absurd hc' (by decide)
        · have e23 : n = 2 ∨ n = 3 := by
            by_cases c2 : n = 2
            · exact .inl c2
            by_cases c3 : n = 3
            · exact .inr c3
            exfalso
            refine hc ?_
            show (!(((2 : Int) == (n : Int)) || ((3 : Int) == (n : Int) || false))) = true
            rw [beq_eq_false_iff_ne.mpr (show (2 : Int) ≠ (n : Int) by omega), beq_eq_false_iff_ne.mpr (show (3 : Int) ≠ (n : Int) by omega)]
            rfl
          have ek : keyOf [a, b, c] = some (b, n) := by
            show (if _ then _ else _) = _
            rw [if_pos ⟨ea, eb, by rcases e23 with q | q <;> rw [e, q] <;> simp⟩, e]
            rcases e23 with q | q
            · rw [q, if_pos rfl]
            · rw [q, if_neg (by simp)]
          refine ⟨_, rfl, p, _, 1, .str b, rfl, rfl, SqL.of hp3, atI_nat (j := 1) rfl, _, rfl, (by show 2 ≤ sizeLine; decide), fun q nq => ?_⟩
          have r := k _ (s03.trans (same_upd (o := .tup [.str b, .int (n : Int)]) nq))
          rw [ek] at r
          exact r q upd_same
/-! ### read_keys -/
abbrev Key := Str × Nat
def keysOf (acc : List Key) : List Str → List Key
  | [] => acc
  | l :: r => match keyOf (wordsOf l) with
    | none => acc
    | some p => if p.1 ∈ acc.map (·.1) then acc else keysOf (acc ++ [p]) r
def namesV (ks : List Key) : List V := ks.map fun k => V.str k.1
def sizesV (ks : List Key) : List V := ks.map fun k => V.int (k.2 : Int)
theorem flats_names (ks : List Key) : (namesV ks).all flatV = true := by
  induction ks with
  | nil => rfl
  | cons r l ih =>
    show (flatV (.str r.1) && (namesV l).all flatV) = true
    rw [ih]
    rfl
theorem inV_names (b : Str) (ks : List Key) : inV (.str b) (namesV ks) = decide (b ∈ ks.map (·.1)) := by
  induction ks with
  | nil => rfl
  | cons r l ih =>
    show (eqV (.str r.1) (.str b) || inV (.str b) (namesV l)) = _
    rw [ih]
    show ((r.1 == b) || decide (b ∈ l.map (·.1))) = decide (b ∈ r.1 :: l.map (·.1))
    by_cases h : r.1 = b
    · rw [h, beq_self_eq_true, Bool.true_or]
      exact (decide_eq_true List.mem_cons_self).symm
    · rw [beq_eq_false_iff_ne.mpr h, Bool.false_or]
      exact decide_eq_decide.mpr ⟨fun z => List.mem_cons_of_mem _ z, fun z => (List.mem_cons.mp z).resolve_left fun e => h e.symm⟩
theorem cut_to (xs : List V) (n : Nat) : cutV xs none (some (n : Int)) = xs.take n := by
  unfold cutV
  rw [HT.sIx_nat, HT.sIx_none]
  show (xs.drop 0).take (min n xs.length - 0) = _
  rw [List.drop_zero, Nat.sub_zero]
  by_cases h : n ≤ xs.length
  · rw [Nat.min_eq_left h]
  · rw [Nat.min_eq_right (by omega), List.take_of_length_le (Nat.le_refl _), List.take_of_length_le (by omega)]
def spRKeys (K : PySem.W.Frag) : Sp := fun vs H Q _ => ∃ (a : Addr) (ls : List Str), vs = [.ref a] ∧ SqL K H a (ls.map V.str) ∧ (∀ l ∈ ls, l.length ≤ 1000000) ∧
  ∀ H' p q1 q2, Same H H' → H' p = some (.tup [.ref q1, .ref q2]) → TupD H' q1 (namesV (keysOf [] (ls.take 3))) → H' q2 = some (.tup (sizesV (keysOf [] (ls.take 3)))) → Q (.ref p) H'
abbrev nRKeys : List Str := ["lines", "names", "sizes", "line", "key"]
theorem scRKeys : FnScope nRKeys ["lines"] (defScope sReadKeys) := ⟨rfl, rfl, rfl, by decide +kernel, rfl, by decide +kernel, by decide +kernel⟩
theorem ok_readKeys {f : Addr} {fd : FuncData} (F : Fun K "read_keys" "read_keys" sReadKeys f fd) (T : Txt3 K mg) (GK : Has P w K mg base "key_of" 2 ["line"] spKey) : FnOk P w K mg base CX0 3 f fd ["lines"] (spRKeys K) := by
  refine F.ok scRKeys (fun vs H Q E h => ?_) (fun cdv A outer s H vs Q E hr h => ?_)
  · obtain ⟨a, ls, rfl, _⟩ := h
    rfl
  · obtain ⟨a, ls, rfl, hS, hl, k⟩ := h
    obtain ⟨t3, g3⟩ := T.most
    refine ⟨_, pss_cons (ps_set (i := 1) scRKeys.nd rfl (.inl rfl) (pe_lst pa_nil))
      (pss_cons (ps_set (i := 2) scRKeys.nd rfl (.inl rfl) (pe_lst pa_nil))
      (pss_cons (ps_for PassesOwn.never rfl (pi_list (pe_slice sl_list (pv 0) po_none (po_some (pe_glob (v := .int 3) (by rfl) g3 ⟨_, rfl⟩)))) (pg_name (i := 3) scRKeys.nd rfl (.inl rfl))
        (pss_cons (ps_set (i := 4) scRKeys.nd rfl (.inl rfl) (pe_has GK hr (pa_cons (pv 3) pa_nil)))
        (pss_cons (ps_if (PW.pt (pw_or (pt_cmpR op_isN (pv 4) pe_non (nomark _)) (pw_or1 (pt_cmpR op_in_seq (pe_ix ix_tup (pv 4) pe_int (fun _ _ => rfl)) (pv 1) (by rfl))))) (pss_one ps_break) pss_nil)
        (pss_cons (ps_expr (pe_bm PySem.F.plainAttrs_list PySem.F.slot_list_append PySem.F.type_list_append mt_append (pv 1) (pa_cons (pe_ix ix_tup (pv 4) pe_int (fun _ _ => rfl)) pa_nil)))
        (pss_one (ps_expr (pe_bm PySem.F.plainAttrs_list PySem.F.slot_list_append PySem.F.type_list_append mt_append (pv 2) (pa_cons (pe_ix ix_tup (pv 4) pe_int (fun _ _ => rfl)) pa_nil))))))))
      (pss_one (ps_ret (pe_tup (pa_cons (pe_callTy call_tupD (by rfl) T.tuple (by decide +kernel) (pa_cons (pv 1) pa_nil)) (pa_cons (pe_callTy call_tuple_of (by rfl) T.tuple (by decide +kernel) (pa_cons (pv 2) pa_nil)) pa_nil))))))), ?_⟩
    refine ⟨Nat.zero_le _, fun R1 nR1 => ⟨Nat.zero_le _, fun R2 nR2 => ?_⟩⟩
    have n12 : R1 ≠ R2 := fun e => by
      rw [← e, upd_same] at nR2
      cases nR2
    have sR : Same H (upd (upd H R1 (.lst [])) R2 (.lst [])) := (same_upd nR1).trans (same_upd nR2)
    -- behind the loop
    have fin : ∀ (acc : List Key) (v3 v4 : Option V) (H1 : Hp), keysOf [] (ls.take 3) = acc → Same H H1 → H1 R1 = some (.lst (namesV acc)) → H1 R2 = some (.lst (sizesV acc)) →
        (tRet (tTup (tCons (tCB (fun xs H Q => ∃ p ys, xs = [.ref p] ∧ SqL K H p ys ∧ ∀ (l : Addr) (o : Obj), H l = none → o.dict = none → Q (.ref l) (upd H l (.frz o (.tup ys)))) (tCons (tVar 1) tNil)) (tCons (tCB (fun xs H Q => ∃ p ys, xs = [.ref p] ∧ ((SqL K H p ys ∧ ∀ l, H l = none → Q (.ref l) (upd H l (.tup ys))) ∨ (SqT K H p ys ∧ Q (.ref p) H))) (tCons (tVar 2) tNil)) tNil))))
          { nx := fun _ H' => Q .non H', rt := Q } [some (.ref a), some (.ref R1), some (.ref R2), v3, v4] H1 := fun acc v3 v4 H1 e s1 h1 h2 => by
      refine ⟨_, rfl, R1, _, rfl, SqL.of h1, fun q1 o1 n1 d1 => ?_⟩
      refine ⟨_, rfl, R2, _, rfl, .inl ⟨SqL.of (get_new h2 n1), fun q2 n2 => ?_⟩⟩
      refine ⟨(by show 2 ≤ sizeLine; decide), fun p np => ?_⟩
      refine k _ p q1 q2 (((s1.trans (same_upd n1)).trans (same_upd n2)).trans (same_upd np)) upd_same ?_ ?_
      · rw [e]
        exact ⟨o1, get_new (get_new upd_same n2) np, d1⟩
      · rw [e]
        exact get_new upd_same np
    refine ⟨_, rfl, 3, rfl, a, _, rfl, sR.seq hS, fun L nL => ?_⟩
    have hcut : cutV (ls.map V.str) none (some 3) = (ls.take 3).map V.str := by
      have := cut_to (ls.map V.str) 3
      rw [List.map_take]
      exact this
    rw [hcut]
    have nL1 : L ≠ R1 := fun e => by
      rw [e, upd_ne n12, upd_same] at nL
      cases nL
    have nL2 : L ≠ R2 := fun e => by
      rw [e, upd_same] at nL
      cases nL
    refine ⟨L, rfl, ⟨_, SqL.of upd_same⟩, for_list (K := K) (a := L) (xs := (ls.take 3).map V.str) (fun i σ H1 => ∃ (acc : List Key) (v3 v4 : Option V), σ = [some (.ref a), some (.ref R1), some (.ref R2), v3, v4] ∧ Same H H1 ∧ H1 R1 = some (.lst (namesV acc)) ∧ H1 R2 = some (.lst (sizesV acc)) ∧
        H1 L = some (.lst ((ls.take 3).map V.str)) ∧ acc.length = i ∧ keysOf [] (ls.take 3) = keysOf acc ((ls.take 3).drop i))
      ⟨[], none, none, rfl, sR.trans (same_upd nL), by rw [upd_ne nL1.symm, upd_ne n12, upd_same]; rfl, by rw [upd_ne nL2.symm, upd_same]; rfl, upd_same, rfl, rfl⟩ (fun i σ H1 _ ⟨_, _, _, _, _, _, _, q, _⟩ => SqL.of q) ?_ ?_⟩
    · rintro i x σ H1 hx ⟨acc, v3, v4, rfl, s1, h1, h2, hL, ha, hk⟩
      rw [List.getElem?_map] at hx
      obtain ⟨l, hl1, rfl⟩ := Option.map_eq_some_iff.mp hx
      have i3 : i < 3 := by
        have := (List.getElem?_eq_some_iff.mp hl1).1
        rw [List.length_take] at this
        omega
      have lm1 := hl l (List.mem_of_mem_take (List.mem_of_getElem? hl1))
      have ed : (ls.take 3).drop i = l :: (ls.take 3).drop (i + 1) := by
        obtain ⟨hlt, hv⟩ := List.getElem?_eq_some_iff.mp hl1
        rw [List.drop_eq_getElem_cons hlt, hv]
      rw [ed] at hk
      refine ⟨_, rfl, l, rfl, lm1, fun H2 s2 => ?_⟩
      have s02 := s1.trans s2
      cases hp : keyOf (wordsOf l) with
      | none =>
        refine ⟨_, rfl, rfl, _, rfl, ?_⟩
        refine ite2 (fun _ => ?_) (fun q => absurd (decide_eq_true rfl) q)
        refine fin acc _ _ H2 ?_ s02 (s2 _ _ h1) (s2 _ _ h2)
        rw [hk]
        show (match keyOf (wordsOf l) with | none => acc | some p => _) = _
        rw [hp]
      | some row =>
        obtain ⟨b, n⟩ := row
        have hstep : keysOf [] (ls.take 3) = if b ∈ acc.map (·.1) then acc else keysOf (acc ++ [(b, n)]) ((ls.take 3).drop (i + 1)) := by
          rw [hk]
          show (match keyOf (wordsOf l) with | none => acc | some p => _) = _
          rw [hp]
        intro p hp2
        refine ⟨_, rfl, rfl, _, rfl, ?_⟩
        refine ite2 (fun z => by cases of_decide_eq_true z) (fun _ => ?_)
        refine ⟨_, rfl, p, _, 0, .str b, rfl, rfl, SqT.of hp2, atI_nat (j := 0) rfl, _, rfl, R1, _, rfl, .inl (SqL.of (s2 _ _ h1)), rfl, flats_names acc, _, rfl, ?_⟩
        have ein := inV_names b acc
        refine ite2 (fun c => ?_) (fun c => ?_)
        · have c' : inV (.str b) (namesV acc) = true := c
          rw [ein] at c'
          refine fin acc _ _ H2 ?_ s02 (s2 _ _ h1) (s2 _ _ h2)
          rw [hstep, if_pos (of_decide_eq_true c')]
        have nb : ¬ b ∈ acc.map (·.1) := fun e => c (by
          show inV (.str b) (namesV acc) = true
          rw [ein]
          exact decide_eq_true e)
        have h1' := s2 _ _ h1
        have np1 : p ≠ R1 := fun e => by
          rw [e, h1'] at hp2
          cases hp2
        have np2 : p ≠ R2 := fun e => by
          rw [e, s2 _ _ h2] at hp2
          cases hp2
        refine ⟨_, rfl, .inl ⟨rfl, _, SqL.of h1'⟩, _, rfl, p, _, 0, .str b, rfl, rfl, SqT.of hp2, atI_nat (j := 0) rfl, R1, _, _, rfl, rfl, h1', ?_, ?_⟩
        · show (acc.map _).length < sizeLine
          rw [List.length_map]
          exact small1000 (by omega)
        have h2' : (upd H2 R1 (.lst (namesV acc ++ [V.str b]))) R2 = some (.lst (sizesV acc)) := by
          rw [upd_ne n12.symm]
          exact s2 _ _ h2
        refine ⟨_, rfl, .inl ⟨rfl, _, SqL.of h2'⟩, _, rfl, p, _, 1, .int (n : Int), rfl, rfl, SqT.of (by rw [upd_ne np1]; exact hp2), atI_nat (j := 1) rfl, R2, _, _, rfl, rfl, h2', ?_, ?_⟩
        · show (acc.map _).length < sizeLine
          rw [List.length_map]
          exact small1000 (by omega)
        have nf : ∀ x, H x = none → ∀ o', Same H H2 → Same H (upd H2 x o') := fun x hx o' q => same_new q hx
        refine ⟨acc ++ [(b, n)], _, _, rfl, ?_, ?_, ?_, ?_, by rw [List.length_append, ha]; rfl, ?_⟩
        · refine same_new (same_new s02 nR1) ?_
          exact (same_upd nR1).free nR2
        · rw [upd_ne n12, upd_same]
          unfold namesV
          rw [List.map_append]
          rfl
        · rw [upd_same]
          unfold sizesV
          rw [List.map_append]
          rfl
        · rw [upd_ne nL2, upd_ne nL1]
          exact s2 _ _ hL
        · rw [hstep, if_neg nb]
    · rintro σ H1 ⟨acc, v3, v4, rfl, s1, h1, h2, hL, ha, hk⟩
      refine fin acc _ _ H1 ?_ s1 h1 h2
      rw [hk, List.length_map, List.drop_length]
      rfl
end
end K01

namespace K01
open PySem L2
abbrev sLitOf : Stmt := top 22
abbrev sLitsOf : Stmt := top 23
abbrev sIsSo : Stmt := top 24
abbrev sTruth : Stmt := top 25
/-! ### lits -/
abbrev Lit := Nat × Bool × Nat
def wEq : Str := "="
def wNe : Str := "!="
def wRule : Str := "rule"
def wOr : Str := "or"
def litV (l : Lit) : List V := [.int (l.1 : Int), .bl l.2.1, .int (l.2.2 : Int)]
def idxS (a : Str) : List Key → Nat
  | [] => 0
  | k :: r => if k.1 = a then 0 else idxS a r + 1
theorem idxS_at {a : Str} : ∀ {ks : List Key}, a ∈ ks.map (·.1) → ∃ n, ks[idxS a ks]? = some (a, n)
  | [], h => nomatch h
  | k :: r, h => by
    by_cases e : k.1 = a
    · refine ⟨k.2, ?_⟩
      unfold idxS
      rw [if_pos e, ← e]
      rfl
    · obtain ⟨n, q⟩ := idxS_at (ks := r) ((List.mem_cons.mp h).resolve_left fun z => e z.symm)
      refine ⟨n, ?_⟩
      unfold idxS
      rw [if_neg e]
      exact q
theorem idxS_first {a : Str} : ∀ {ks : List Key} {m : Nat}, m < idxS a ks → ∀ k, ks[m]? = some k → k.1 ≠ a
  | [], m, h, k, _ => absurd h (Nat.not_lt_zero _)
  | k0 :: r, m, h, k, hk => by
    unfold idxS at h
    by_cases e : k0.1 = a
    · rw [if_pos e] at h
      exact absurd h (Nat.not_lt_zero _)
    · rw [if_neg e] at h
      cases m with
      | zero =>
        cases hk
        exact e
      | succ m => exact idxS_first (ks := r) (m := m) (by omega) k hk
/-- what three words tell -/
def litOf (ks : List Key) (a b c : Str) : Option Lit :=
  if a ∈ ks.map (·.1) ∧ (b = wEq ∨ b = wNe) then
    match numOf c with
    | none => none
    | some n => if n < (ks.getD (idxS a ks) (a, 0)).2 then some (idxS a ks, decide (b = wEq), n) else none
  else none
def resL (o : Option Lit) (Q : VK) (H : Hp) : Prop := match o with
  | none => Q .non H
  | some l => ∀ p, H p = some (.tup (litV l)) → Q (.ref p) H
def spLit (K : PySem.W.Frag) : Sp := fun vs H Q _ => ∃ (wp np sp : Addr) (a b c : Str) (ks : List Key), vs = [.ref wp, .ref np, .ref sp] ∧ SqL K H wp ([a, b, c].map V.str) ∧ TupD H np (namesV ks) ∧ SqT K H sp (sizesV ks) ∧ c.length ≤ 1000000 ∧
  ∀ H', Same H H' → resL (litOf ks a b c) Q H'
theorem sqT_same {K : PySem.W.Frag} {H H' : Hp} {p : Addr} {xs : List V} (s : Same H H') (h : SqT K H p xs) : SqT K H' p xs := by
  rcases h with (h | ⟨o, h⟩) | h
  · exact .inl (.inl (s _ _ h))
  · exact .inl (.inr ⟨o, s _ _ h⟩)
  · exact .inr h
abbrev nLitOf : List Str := ["words", "names", "sizes", "name", "sign", "word", "worth", "place"]
theorem scLitOf : FnScope nLitOf ["words", "names", "sizes"] (defScope sLitOf) := ⟨rfl, rfl, rfl, by decide +kernel, rfl, by decide +kernel, by decide +kernel⟩
section
variable {base : Heap} {P : Program} {w : World} {K : PySem.W.Frag} {mg : Str → Option Value}
theorem ok_litOf {f : Addr} {fd : FuncData} (F : Fun K "lit_of" "lit_of" sLitOf f fd) (GM : Has P w K mg base "number_of" 1 ["word"] spNum) : FnOk P w K mg base CX0 2 f fd ["words", "names", "sizes"] (spLit K) := by
  refine F.ok scLitOf (fun vs H Q E h => ?_) (fun cdv A outer s H vs Q E hr h => ?_)
  · obtain ⟨wp, np, sp, a, b, c, ks, rfl, _⟩ := h
    rfl
  · obtain ⟨wp, np, sp, a, b, c, ks, rfl, hw, hn, hs, hc, k⟩ := h
    refine ⟨_, pss_cons (ps_asg (pv 0) (pg_unl rfl (pgs_cons (pg_name (i := 3) scLitOf.nd rfl (.inl rfl)) (pgs_cons (pg_name (i := 4) scLitOf.nd rfl (.inl rfl)) (pgs_cons (pg_name (i := 5) scLitOf.nd rfl (.inl rfl)) pgs_nil)))))
      (pss_cons (ps_set (i := 6) scLitOf.nd rfl (.inl rfl) (pe_has GM hr (pa_cons (pv 5) pa_nil)))
      (pss_cons (ps_if (PW.pt (pw_or (pt_cmpR op_notIn_seq (pv 3) (pv 1) (by rfl)) (pw_or (pt_cmpR op_notIn_seq (pv 4) (pe_tup (pa_cons pe_str (pa_cons pe_str pa_nil))) (by rfl)) (pw_or1 (pt_cmpR op_isN (pv 6) pe_non (nomark _)))))) (pss_one (ps_ret pe_non)) pss_nil)
      (pss_cons (ps_set (i := 7) scLitOf.nd rfl (.inl rfl) (pe_mG ty_tupD PySem.F.plainAttrs_tuple PySem.F.slot_tuple_index PySem.F.type_tuple_index mt_tup_index (pv 1) (pa_cons (pv 3) pa_nil)))
      (pss_cons (ps_if (pt_cmpR op_ge (pv 6) (pe_ix ix_tup (pv 2) (pv 7) (fun _ _ => rfl)) (nomark _)) (pss_one (ps_ret pe_non)) pss_nil)
      (pss_one (ps_ret (pe_tup (pa_cons (pv 7) (pa_cons (pe_cmpR op_eq (pv 4) pe_str (nomark _)) (pa_cons (pv 6) pa_nil)))))))))), ?_⟩
    have none_of : litOf ks a b c = none → ∀ H2, Same H H2 → Q .non H2 := fun e H2 s2 => by
      have q := k H2 s2
      rw [e] at q
      exact q
    refine ⟨_, rfl, ?_⟩
    refine ⟨wp, _, rfl, hw, rfl, .str a, _, rfl, .str b, _, rfl, .str c, _, rfl, rfl, ?_⟩
    refine ⟨_, rfl, c, rfl, hc, fun H1 s1 => ?_⟩
    have ein := inV_names a ks
    refine resN_at (fun e => ?_) (fun n e => ?_)
    · have e0 : litOf ks a b c = none := by
        unfold litOf
        rw [e]
        split <;> rfl
      refine ⟨_, rfl, _, rfl, np, _, rfl, .inr (hn.same s1).sq, rfl, flats_names ks, _, rfl, ?_⟩
      refine ite2 (fun _ => none_of e0 H1 s1) (fun _ => ?_)
      refine ⟨_, rfl, (by show 2 ≤ sizeLine; decide), fun t nt => ?_⟩
      refine ⟨t, _, rfl, .inr (SqT.of upd_same), rfl, rfl, _, rfl, ?_⟩
      have s2 := s1.trans (same_upd (o := .tup [V.str "=", V.str "!="]) nt)
      refine ite2 (fun _ => none_of e0 _ s2) (fun _ => ?_)
      refine ⟨_, rfl, rfl, _, rfl, ?_⟩
      refine ite2 (fun _ => none_of e0 _ s2) (fun q => absurd (decide_eq_true rfl) q)
    · refine ⟨_, rfl, _, rfl, np, _, rfl, .inr (hn.same s1).sq, rfl, flats_names ks, _, rfl, ?_⟩
      refine ite2 (fun h1 => ?_) (fun h1 => ?_)
      · refine none_of (if_neg fun q => ?_) H1 s1
        have h1' : (!inV (.str a) (namesV ks)) = true := h1
        rw [ein, decide_eq_true q.1] at h1'
        cases h1'
      have ha : a ∈ ks.map (·.1) := by
        by_cases q : a ∈ ks.map (·.1)
        · exact q
        · exfalso
          refine h1 ?_
          show (!inV (.str a) (namesV ks)) = true
          rw [ein, decide_eq_false q]
          rfl
      refine ⟨_, rfl, (by show 2 ≤ sizeLine; decide), fun t nt => ?_⟩
      refine ⟨t, _, rfl, .inr (SqT.of upd_same), rfl, rfl, _, rfl, ?_⟩
      have s2 := s1.trans (same_upd (o := .tup [V.str "=", V.str "!="]) nt)
      have eb : inV (.str b) [.str "=", .str "!="] = decide (b = wEq ∨ b = wNe) := by
        show ((wEq == b) || ((wNe == b) || false)) = _
        by_cases q : b = wEq
        · rw [q]
          simp
        · by_cases q2 : b = wNe
          · rw [q2]
            simp
          · rw [beq_eq_false_iff_ne.mpr fun z => q z.symm, beq_eq_false_iff_ne.mpr fun z => q2 z.symm, decide_eq_false fun z => z.elim q q2]
            rfl
      refine ite2 (fun h2 => ?_) (fun h2 => ?_)
      · refine none_of (if_neg fun q => ?_) _ s2
        have h2' : (!inV (.str b) [.str "=", .str "!="]) = true := h2
        rw [eb, decide_eq_true q.2] at h2'
        cases h2'
      have hb : b = wEq ∨ b = wNe := by
        by_cases q : b = wEq ∨ b = wNe
        · exact q
        · exfalso
          refine h2 ?_
          show (!inV (.str b) [.str "=", .str "!="]) = true
          rw [eb, decide_eq_false q]
          rfl
      refine ⟨_, rfl, rfl, _, rfl, ?_⟩
      refine ite2 (fun z => by cases of_decide_eq_true z) (fun _ => ?_)
      obtain ⟨sz, hat⟩ := idxS_at ha
      have hat2 : (ks.map (·.1))[idxS a ks]? = some a := by
        rw [List.getElem?_map, hat]
        rfl
      have hn2 : SqT K (upd H1 t (.tup [V.str "=", V.str "!="])) np ((ks.map (·.1)).map V.str) := by
        have e : (ks.map (·.1)).map V.str = namesV ks := by
          unfold namesV
          rw [List.map_map]
          rfl
        rw [e]
        exact (hn.same s2).sq
      refine ⟨_, rfl, ⟨np, _, rfl, hn.same s2⟩, _, rfl, np, ks.map (fun k : Key => k.1), a, idxS a ks, rfl, rfl, hn2, hat2, fun m hm q => ?_, ?_⟩
      · rw [List.getElem?_map] at q
        obtain ⟨k0, q1, q2⟩ := Option.map_eq_some_iff.mp q
        exact idxS_first hm k0 q1 q2
      have hsz : atI (sizesV ks) ((idxS a ks : Nat) : Int) = some (.int (sz : Int)) := atI_nat (by
        unfold sizesV
        rw [List.getElem?_map, hat]
        rfl)
      have hgd : ks.getD (idxS a ks) (a, 0) = (a, sz) := by
        rw [List.getD_eq_getElem?_getD, hat]
        rfl
      have el : litOf ks a b c = if n < sz then some (idxS a ks, decide (b = wEq), n) else none := by
        unfold litOf
        rw [if_pos ⟨ha, hb⟩, e, hgd]
      refine ⟨_, rfl, _, rfl, _, rfl, sp, _, _, _, rfl, rfl, sqT_same s2 hs, hsz, _, _, rfl, rfl, _, rfl, ?_⟩
      refine ite2 (fun h3 => ?_) (fun h3 => ?_)
      · refine none_of ?_ _ s2
        have h3' := of_decide_eq_true h3
        rw [el, if_neg (by omega)]
      have hlt : n < sz := by
        by_cases q : n < sz
        · exact q
        · exact absurd (decide_eq_true (by omega)) h3
      refine ⟨_, rfl, _, rfl, rfl, _, rfl, (by show 3 ≤ sizeLine; decide), fun p np2 => ?_⟩
      have q := k _ (s2.trans (same_upd (o := .tup [V.int ((idxS a ks : Nat) : Int), V.bl (decide (V.str b = V.str "=")), V.int (n : Int)]) np2))
      rw [el, if_pos hlt] at q
      refine q p ?_
      rw [upd_same]
      have ed : decide (V.str b = V.str "=") = decide (b = wEq) := decide_eq_decide.mpr ⟨V.str.inj, congrArg V.str⟩
      rw [ed]
      rfl
end
end K01

namespace K01
open L2 PySem PySem.Spec PyProof.Rows
/-! ### slices with a step -/
def pickI {α : Type} (xs : List α) (ix : List Nat) : List α := ix.filterMap fun i => xs[i]?
def pickV (xs : List V) (lo hi st : Option Int) : List V := pickI xs (sliceRange (sliceBounds lo hi st xs.length).1 (sliceBounds lo hi st xs.length).2.1 (sliceBounds lo hi st xs.length).2.2)
theorem vals_at : ∀ {xs : List V} {us : List Value} (i : Nat), Vals xs us → (∃ x u, xs[i]? = some x ∧ us[i]? = some u ∧ RelV x u) ∨ (xs[i]? = none ∧ us[i]? = none)
  | _, _, _, .nil => .inr ⟨by simp, by simp⟩
  | _, _, 0, .cons r _ => .inl ⟨_, _, rfl, rfl, r⟩
  | _, _, i + 1, .cons _ rs => by
    rcases vals_at i rs with ⟨x, u, a, b, c⟩ | ⟨a, b⟩
    · exact .inl ⟨x, u, a, b, c⟩
    · exact .inr ⟨a, b⟩
theorem vals_pick {xs : List V} {us : List Value} (r : Vals xs us) : ∀ ix : List Nat, Vals (pickI xs ix) (pickI us ix)
  | [] => .nil
  | i :: ix => by
    unfold pickI
    rcases vals_at i r with ⟨x, u, a, b, c⟩ | ⟨a, b⟩
    · rw [List.filterMap_cons, List.filterMap_cons, a, b]
      exact .cons c (vals_pick r ix)
    · rw [List.filterMap_cons, List.filterMap_cons, a, b]
      exact vals_pick r ix
section
variable {X : Cx}
def tSlSt (K : PySem.W.Frag) (te : TE) (tl ts : L2.St → Hp → (Option Int → Hp → Prop) → Prop) : TE := fun σ H Q => te σ H fun x H1 => tl σ H1 fun lo H2 => ts σ H2 fun st H3 => ∃ a xs, x = .ref a ∧ SqL K H3 a xs ∧ st ≠ some 0 ∧ (pickV xs lo none st).length ≤ sizeLine ∧
  ∀ p, H3 p = none → Q (.ref p) (upd H3 p (.lst (pickV xs lo none st)))
theorem pe_slSt {e : Expr} {te : TE} {lo : Option Expr} {st : Expr} {tl ts : L2.St → Hp → (Option Int → Hp → Prop) → Prop} {p3 pos : Pos} (he : PE X e te) (hl : PO X lo tl) (hs : PO X (some st) ts) : PE X (.Subscript e (.Slice lo none (some st) p3) pos) (tSlSt X.K te tl ts) := by
  refine ⟨fun pins s σ H Q I h => ?_⟩
  refine Subscript_ (thn (he.run pins s σ H _ I h) fun v s1 ⟨x, H1, I1, r1, q1⟩ => ?_)
  refine wpAny_Slice (thn (hl.run pins s1 σ H1 _ I1 q1) fun vl s2 ⟨l, H2, I2, pl, q2⟩ => ?_)
  refine thn (po_none.run pins s2 σ H2 (fun o H3 => o = none ∧ H3 = H2) I2 ⟨rfl, rfl⟩) fun vu s3 ⟨u, H3, I3, pu, eu, e3⟩ => ?_
  subst eu e3
  refine thn (hs.run pins s3 σ _ _ I3 q2) fun vs s4 ⟨o, H4, I4, ps, a, xs, ex, hx, n0, hz2, q⟩ => ?_
  subst ex
  cases r1
  have I5 : Inv X pins σ H4 { s4 with heap := s4.heap.push { cls := .type "slice", data := .fields #[vl, vu, vs] } } := I4.kept (t' := s4.toks) fun b ob q => Heap.get?_push_of_some _ q
  obtain ⟨its, r, ht, hz⟩ := I5.list hx
  have hlen := r.length
  show wpAny (model X.prog X.w) X.A (subscriptTail e (.Slice lo none (some st) p3) (.ref a) (.ref s4.heap.objs.size)) (EP X pins σ Q) X.xe { s4 with heap := s4.heap.push { cls := .type "slice", data := .fields #[vl, vu, vs] } }
  refine tail_any (ops := [.ref a, .ref s4.heap.objs.size]) ht.isList.typeIs (PySem.slot_list_getitem.lookup) ?_ (by with_unfolding_all rfl)
  refine wpAny_getItem_list_slice ht.isList (Heap.IsSliceOf.new _ vl vu vs) pl pu ps n0 ?_ (by rw [List.size_toArray]; omega)
  have ep : slicePick its.toArray l none o = (pickI its (sliceRange (sliceBounds l none o xs.length).1 (sliceBounds l none o xs.length).2.1 (sliceBounds l none o xs.length).2.2)).toArray := by
    unfold slicePick pickI
    rw [List.size_toArray, ← hlen]
    congr 1
    congr 1
    funext i
    simp
  rw [ep]
  refine ⟨.ref _, _, I5.laid (t' := s4.toks) (o := .lst (pickV xs l none o)) (fun b ob q => Heap.get?_push_of_some _ q) (Nat.le_refl _) ?_, rfl, q _ (I5.hok.fresh (Nat.le_refl _))⟩
  exact ⟨hz2, _, 0, vals_pick r _, Heap.get?_push_size _ rfl⟩
end
end K01

namespace K01
open PySem L2
/-! ### the lits of a line -/
def tripL (ks : List Key) (ws : List Str) (i : Nat) : Option Lit := litOf ks (ws.getD (4 * i + 1) Str.empty) (ws.getD (4 * i + 2) Str.empty) (ws.getD (4 * i + 3) Str.empty)
def ors (ws : List Str) : List Str := (List.range (ws.length / 4 - 1)).map fun i => ws.getD (4 * i + 4) Str.empty
def orsB (ws : List Str) : Bool := (ors ws).all fun y => decide (y = wOr)
def formB (ws : List Str) : Bool := decide (ws.head? = some wRule) && (decide (ws.length = 4 ∨ ws.length = 8 ∨ ws.length = 12) && orsB ws)
def litsOs (ks : List Key) (ws : List Str) : List (Option Lit) := (List.range (ws.length / 4)).map (tripL ks ws)
def litsOf (ks : List Key) (ws : List Str) : Option (List Lit) := if formB ws = true then (if none ∈ litsOs ks ws then none else some ((litsOs ks ws).filterMap id)) else none
def LitsAt (H : Hp) (p : Addr) (ls : List Lit) : Prop := ∃ ts : List Addr, H p = some (.tup (ts.map V.ref)) ∧ Paired (fun (t : Addr) (l : Lit) => H t = some (.tup (litV l))) ts ls
theorem LitsAt.same {H H' : Hp} {p : Addr} {ls : List Lit} (h : LitsAt H p ls) (s : Same H H') : LitsAt H' p ls := by
  obtain ⟨ts, e, q⟩ := h
  exact ⟨ts, s _ _ e, Paired.mapP q fun t l e => s _ _ e⟩
theorem split_ne (z y : Str) : Txt.split z y ≠ [] := fun e => by
  have h := congrArg List.length e
  unfold Txt.split at h
  split at h
  · simp at h
  · split at h
    · simp at h
    · rw [length_partsBetween] at h
      simp at h
theorem get_str {ws : List Str} {i : Nat} (h : i < ws.length) : ws[i]? = some (ws.getD i Str.empty) := by
  rw [List.getD_eq_getElem?_getD, List.getElem?_eq_getElem h]
  rfl
theorem pick_ors {ws : List Str} (h : ws.length = 4 ∨ ws.length = 8 ∨ ws.length = 12) : pickV (ws.map V.str) (some 4) none (some 4) = (ors ws).map V.str := by
  have gs : ∀ i, i < ws.length → (ws.map V.str)[i]? = some (V.str (ws.getD i Str.empty)) := fun i hi => by
    rw [List.getElem?_map, get_str hi]
    rfl
  unfold pickV ors
  rw [List.length_map]
  rcases h with h | h | h
  · rw [h]
    have e : sliceRange (sliceBounds (some 4) none (some 4) 4).1 (sliceBounds (some 4) none (some 4) 4).2.1 (sliceBounds (some 4) none (some 4) 4).2.2 = [] := by decide +kernel
    rw [e]
    rfl
  · have g4 := gs 4 (by omega)
    rw [h]
    have e : sliceRange (sliceBounds (some 4) none (some 4) 8).1 (sliceBounds (some 4) none (some 4) 8).2.1 (sliceBounds (some 4) none (some 4) 8).2.2 = [4] := by decide +kernel
    rw [e]
    unfold pickI
    rw [List.filterMap_cons, g4]
    rfl
  · have g4 := gs 4 (by omega)
    have g8 := gs 8 (by omega)
    rw [h]
    have e : sliceRange (sliceBounds (some 4) none (some 4) 12).1 (sliceBounds (some 4) none (some 4) 12).2.1 (sliceBounds (some 4) none (some 4) 12).2.2 = [4, 8] := by decide +kernel
    rw [e]
    unfold pickI
    rw [List.filterMap_cons, g4, List.filterMap_cons, g8]
    rfl
theorem cut_mid (xs : List V) (a b : Nat) (hb : b ≤ xs.length) : cutV xs (some (a : Int)) (some (b : Int)) = (xs.drop (min a xs.length)).take (b - min a xs.length) := by
  unfold cutV
  rw [HT.sIx_nat, HT.sIx_nat, Nat.min_eq_left hb]
theorem cut_trip {ws : List Str} {i : Nat} (h : 4 * i + 4 ≤ ws.length) : cutV (ws.map V.str) (some (1 + (i : Int) * 4)) (some (1 + (i : Int) * 4 + 3)) = [ws.getD (4 * i + 1) Str.empty, ws.getD (4 * i + 2) Str.empty, ws.getD (4 * i + 3) Str.empty].map V.str := by
  have e1 : (1 + (i : Int) * 4) = ((4 * i + 1 : Nat) : Int) := by omega
  have e2 : (1 + (i : Int) * 4 + 3) = ((4 * i + 4 : Nat) : Int) := by omega
  rw [e2, e1, cut_mid _ _ _ (by rw [List.length_map]; exact h), List.length_map, Nat.min_eq_left (by omega), ← List.map_drop, ← List.map_take]
  congr 1
  have d : ∀ j, j < ws.length → ws.drop j = ws.getD j Str.empty :: ws.drop (j + 1) := fun j hj => by
    rw [List.drop_eq_getElem_cons hj]
    congr 1
    have := get_str hj
    rw [List.getElem?_eq_getElem hj] at this
    exact Option.some.inj this
  rw [d (4 * i + 1) (by omega), d (4 * i + 1 + 1) (by omega), d (4 * i + 1 + 1 + 1) (by omega)]
  have e3 : 4 * i + 4 - (4 * i + 1) = 3 := by omega
  rw [e3]
  rfl
/-! ### none among lits -/
def litD (o : Option Lit) : PyData := match o with
  | none => .none
  | some l => .tuple [.int (l.1 : Int), .bool l.2.1, .int (l.2.2 : Int)]
def LitO (H : Hp) (v : V) (o : Option Lit) : Prop := match o with
  | none => v = .non
  | some l => ∃ t, v = .ref t ∧ H t = some (.tup (litV l))
theorem litO_same {H H' : Hp} {v : V} {o : Option Lit} (s : Same H H') (h : LitO H v o) : LitO H' v o := by
  cases o with
  | none => exact h
  | some l =>
    obtain ⟨t, e, q⟩ := h
    exact ⟨t, e, s _ _ q⟩
theorem lits_dp {K : PySem.W.Frag} {H : Hp} : ∀ {vs : List V} {os : List (Option Lit)}, Paired (LitO H) vs os → DpAll K H vs (os.map litD)
  | _, _, .nil => .nil
  | v :: vs, o :: os, .cons h k => by
    refine .cons ?_ (lits_dp k)
    cases o with
    | none =>
      cases h
      exact .non
    | some l =>
      obtain ⟨t, rfl, e⟩ := h
      exact .tup (SqT.of e) (.cons (.int _) (.cons (.bl _) (.cons (.int _) .nil)))
theorem lits_lay : ∀ os : List (Option Lit), PyData.canLayAll0 (os.map litD) = true ∧ PyData.depthAll (os.map litD) ≤ 1
  | [] => ⟨rfl, Nat.zero_le _⟩
  | o :: os => by
    obtain ⟨a, b⟩ := lits_lay os
    have c : (litD o).canLay0 = true ∧ (litD o).depth ≤ 1 := by
      cases o with
      | none => exact ⟨rfl, by simp [litD, PyData.depth]⟩
      | some l => exact ⟨by simp [litD, PyData.canLay0, PyData.canLayAll0], by simp [litD, PyData.depth, PyData.depthAll]⟩
    constructor
    · show ((litD o).canLay0 && PyData.canLayAll0 (os.map litD)) = true
      rw [c.1, a]
      rfl
    · show max (litD o).depth (PyData.depthAll (os.map litD)) ≤ 1
      have := c.2
      omega
theorem lits_shaped (os : List (Option Lit)) : SeqAt.shaped (.list (os.map litD)) = true := by
  obtain ⟨a, b⟩ := lits_lay os
  unfold SeqAt.shaped
  have h1 : PyData.canLay0 (.list (os.map litD)) = true := by
    simpa [PyData.canLay0] using a
  have h2 : PyData.depth (.list (os.map litD)) ≤ 64 := by
    simp only [PyData.depth]
    omega
  rw [h1, decide_eq_true h2]
  rfl
theorem lits_none (os : List (Option Lit)) : ((os.map litD).any fun z => PyData.eqv z .none) = decide (none ∈ os) := by
  induction os with
  | nil => rfl
  | cons o os ih =>
    rw [List.map_cons, List.any_cons, ih]
    cases o with
    | none =>
      have e : PyData.eqv (litD none) .none = true := by simp [litD, PyData.eqv]
      rw [e, Bool.true_or]
      exact (decide_eq_true List.mem_cons_self).symm
    | some l =>
      have e : PyData.eqv (litD (some l)) .none = false := by simp [litD, PyData.eqv]
      rw [e, Bool.false_or]
      exact decide_eq_decide.mpr ⟨fun z => List.mem_cons_of_mem _ z, fun z => (List.mem_cons.mp z).resolve_left fun q => nomatch q⟩
theorem lits_all {H : Hp} : ∀ {vs : List V} {os : List (Option Lit)}, Paired (LitO H) vs os → none ∉ os → ∃ ts : List Addr, vs = ts.map V.ref ∧ Paired (fun (t : Addr) (l : Lit) => H t = some (.tup (litV l))) ts (os.filterMap id)
  | _, _, .nil, _ => ⟨[], rfl, .nil⟩
  | v :: vs, o :: os, .cons h k, n => by
    obtain ⟨ts, e, q⟩ := lits_all k fun z => n (List.mem_cons_of_mem _ z)
    cases o with
    | none => exact absurd List.mem_cons_self n
    | some l =>
      obtain ⟨t, e2, q2⟩ := h
      refine ⟨t :: ts, by rw [e2, e]; rfl, ?_⟩
      show Paired _ (t :: ts) (l :: os.filterMap id)
      exact .cons q2 q
theorem litO_snoc {H : Hp} {v : V} {o : Option Lit} : ∀ {vs : List V} {os : List (Option Lit)}, Paired (LitO H) vs os → LitO H v o → Paired (LitO H) (vs ++ [v]) (os ++ [o])
  | _, _, .nil, last => .cons last .nil
  | _, _, .cons h k, e => .cons h (litO_snoc k e)
/-- [word == .. for word in a list of texts] -/
theorem eqs_lc {K : PySem.W.Frag} {σ : L2.St} {H : Hp} {Q : VK} {te ti : TE} {ys : List Str} {y : Str} {i : Nat} (hti : ∀ R : V → Hp → Prop, (∀ q H1, Same H H1 → H1 q = some (.lst (ys.map V.str)) → R (.ref q) H1) → ti σ H R) (hl : ys.length ≤ 100) (hw : ∀ x : V, wipe ((wipe σ [i]).set i (some x)) [i] = wipe σ [i])
    (he : ∀ (x : Str) (H1 : Hp) (R : VK), R (.bl (decide (x = y))) H1 → te ((wipe σ [i]).set i (some (.str x))) H1 R)
    (k : ∀ D H', Same H H' → H' D = some (.lst ((ys.map fun x => decide (x = y)).map V.bl)) → Q (.ref D) H') : tLc (iList K ti) (gName i) tYes te [i] σ H Q := by
  refine hti _ fun q H1 s1 hq => ⟨q, rfl, ⟨_, SqL.of hq⟩, fun D nD => ?_⟩
  refine lc_list (xs := ys.map V.str) (fun j H' => Same H1 H' ∧ H' D = some (.lst (((ys.take j).map fun x => decide (x = y)).map V.bl))) ⟨same_upd nD, upd_same⟩ (fun i H' _ z => SqL.of (z.1 _ _ hq)) ?_ ?_
  · rintro j x H' hx ⟨s2, hD⟩
    rw [List.getElem?_map] at hx
    obtain ⟨x1, hx1, rfl⟩ := Option.map_eq_some_iff.mp hx
    have ilt : j < ys.length := (List.getElem?_eq_some_iff.mp hx1).1
    refine ⟨hw _, ?_⟩
    show te _ H' _
    refine he x1 H' _ ⟨_, hD, ?_, same_new s2 nD, ?_⟩
    · rw [List.length_map, List.length_map, List.length_take]
      exact small1000 (by omega)
    · rw [upd_same, take_one hx1, List.map_append, List.map_append]
      rfl
  · rintro H' ⟨s2, hD⟩
    rw [List.length_map, List.take_length] at hD
    exact k D H' (s1.trans s2) hD
end K01

namespace K01
open PySem L2
structure Txt4 (K : PySem.W.Frag) (mg : Str → Option Value) : Prop extends Txt3 K mg where
  lens : ∃ p, mg "RULE_LENGTHS" = some (.ref p) ∧ SqT K (fun _ => none) p ([.int 4, .int 8, .int 12] : List V)
  step : ∃ t, mg "LIT_STEP" = some (.int 4 t)
theorem rgc4 {n m : Nat} (h : n = 4 ∧ m = 1 ∨ n = 8 ∧ m = 2 ∨ n = 12 ∧ m = 3) : RgC 1 (n : Int) 4 m := by
  rcases h with ⟨rfl, rfl⟩ | ⟨rfl, rfl⟩ | ⟨rfl, rfl⟩ <;> exact ⟨by decide, by decide, by decide +kernel, by decide +kernel⟩
theorem litO_upd {H : Hp} {L : Addr} {xs ys : List V} {v : V} {o : Option Lit} (hL : H L = some (.lst xs)) (h : LitO H v o) : LitO (upd H L (.lst ys)) v o := by
  cases o with
  | none => exact h
  | some l =>
    obtain ⟨t, e, q⟩ := h
    refine ⟨t, e, ?_⟩
    rw [upd_ne (ne_of q hL (by simp))]
    exact q
theorem all_bl {α : Type} (l : List α) (p : α → Bool) : (l.map p).all id = l.all p := by
  rw [List.all_map]
  rfl
section
variable {base : Heap} {P : Program} {w : World} {K : PySem.W.Frag} {mg : Str → Option Value}
def spLits (K : PySem.W.Frag) : Sp := fun vs H Q _ => ∃ (np sp : Addr) (z : Str) (ks : List Key), vs = [.str z, .ref np, .ref sp] ∧ TupD H np (namesV ks) ∧ SqT K H sp (sizesV ks) ∧ z.length ≤ 1000000 ∧
  ∀ H' p, Same H H' → LitsAt H' p ((litsOf ks (wordsOf z)).getD []) → Q (.ref p) H'
abbrev nLits : List Str := ["line", "names", "sizes", "words", "lits", "word", "at"]
theorem scLits : FnScope nLits ["line", "names", "sizes"] (defScope sLitsOf) := ⟨rfl, rfl, rfl, by decide +kernel, rfl, by decide +kernel, by decide +kernel⟩
theorem ok_lits {f : Addr} {fd : FuncData} (F : Fun K "lits_of" "lits_of" sLitsOf f fd) (T : Txt4 K mg) (GW : Has P w K mg base "words_of" 1 ["line"] spWords) (GL : Has P w K mg base "lit_of" 2 ["words", "names", "sizes"] (spLit K)) : FnOk P w K mg base CX0 3 f fd ["line", "names", "sizes"] (spLits K) := by
  refine F.ok scLits (fun vs H Q E h => ?_) (fun cdv A outer s H vs Q E hr h => ?_)
  · obtain ⟨np, sp, z, ks, rfl, _⟩ := h
    rfl
  · obtain ⟨np, sp, z, ks, rfl, hn, hs, hz, k⟩ := h
    obtain ⟨rp, gr, hrp⟩ := T.lens
    obtain ⟨t4, g4⟩ := T.step
    have r1 : Room 1 _ := hr.mono (by decide)
    refine ⟨_, pss_cons (ps_set (i := 3) scLits.nd rfl (.inr rfl) (pe_has GW r1 (pa_cons (pv 0) pa_nil)))
      (pss_cons (ps_if (PW.pt (pw_or (pt_cmpR op_ne (pe_ix ix_list (pv 3) pe_int (fun _ _ => rfl)) pe_str (nomark _))
          (pw_or1 (pt_cmpR op_notIn_seq (pe_callB call_len_seq (by rfl) T.len PySem.boot_len (pa_cons (pv 3) pa_nil)) (pe_glob (v := .ref rp) (by rfl) gr rfl) (by rfl))))) (pss_one (ps_ret (pe_tup pa_nil))) pss_nil)
      (pss_cons (ps_if (pt_not (pt_val (pe_callB (cr_all rfl) (by rfl) T.all (by decide +kernel) (pa_cons (pe_lc (own := [("word", 5)]) (g := gName 5) (tt := tYes) rfl scLits.nd
            (pi_list (pe_slSt (pv 3) (po_some (pe_glob (v := .int 4) (by rfl) g4 ⟨_, rfl⟩)) (po_some (pe_glob (v := .int 4) (by rfl) g4 ⟨_, rfl⟩))))
            (blkOk_by (N := nLits) (sc := defScope sLitsOf) (by decide +kernel)) (fun _ _ _ _ _ => pg_name (i := 5) scLits.nd rfl (Or.inl rfl)) (fun _ _ _ _ _ => pts_nil)
            (fun _ _ _ _ _ => pe_cmpR op_eq (pv 5) pe_str (nomark _))) pa_nil)))) (pss_one (ps_ret (pe_tup pa_nil))) pss_nil)
      (pss_cons (ps_setLc (i := 4) (own := [("at", 6)]) (g := gName 6) (tt := tYes) rfl scLits.nd rfl rfl rfl (pi_range3 (by rfl) T.range (pa_cons pe_int (pa_cons (pe_callB call_len_seq (by rfl) T.len PySem.boot_len (pa_cons (pv 3) pa_nil)) (pa_cons (pe_glob (v := .int 4) (by rfl) g4 ⟨_, rfl⟩) pa_nil))))
            (blkOk_by (N := nLits) (sc := defScope sLitsOf) (by decide +kernel)) (fun _ _ _ _ _ => pg_name (i := 6) scLits.nd rfl (Or.inl rfl)) (fun _ _ _ _ _ => pts_nil)
            (fun _ _ _ _ _ => pe_has GL hr (pa_cons (pe_slice (r := rSlL K) sl_list (pv 3) (po_some (pv 6)) (po_some (pe_op op_add (pv 6) pe_int))) (pa_cons (pv 1) (pa_cons (pv 2) pa_nil)))))
      (pss_cons (ps_if (pt_cmpR (op_inD (units65 hr)) pe_non (pv 4) (by rfl)) (pss_one (ps_ret (pe_tup pa_nil))) pss_nil)
      (pss_one (ps_ret (pe_callTy call_tuple_of (by rfl) T.tuple (by decide +kernel) (pa_cons (pv 4) pa_nil)))))))), ?_⟩
    refine ⟨_, rfl, z, rfl, hz, fun p H1 np1 s1 hp => ?_⟩
    have wl := words_len hz
    have wn : wordsOf z ≠ [] := split_ne z blank
    generalize hws : wordsOf z = ws at hp wl wn k
    have none_of : litsOf ks ws = none → ∀ H2, Same H H2 → (0 ≤ sizeLine ∧ ∀ q, H2 q = none → Q (.ref q) (upd H2 q (.tup []))) := fun e H2 s2 => by
      refine ⟨Nat.zero_le _, fun q nq => k _ q (s2.trans (same_upd nq)) ?_⟩
      rw [e]
      exact ⟨[], upd_same, .nil⟩
    obtain ⟨a, r, rfl⟩ : ∃ a r, ws = a :: r := by
      cases ws with
      | nil => exact absurd rfl wn
      | cons a r => exact ⟨a, r, rfl⟩
    refine ⟨_, rfl, p, _, 0, .str a, rfl, rfl, SqL.of hp, atI_nat (j := 0) rfl, rfl, _, rfl, ?_⟩
    refine ite2 (fun ha => ?_) (fun ha => ?_)
    · refine none_of (if_neg fun q => ?_) H1 s1
      have q1 : decide ((a :: r).head? = some wRule) = true := by
        unfold formB at q
        rw [Bool.and_eq_true] at q
        exact q.1
      have ea : a = wRule := Option.some.inj (of_decide_eq_true q1)
      have ha' : (!decide (V.str a = V.str wRule)) = true := ha
      rw [ea, decide_eq_true rfl] at ha'
      cases ha'
    have ea : a = wRule := by
      by_cases e : a = wRule
      · exact e
      · exfalso
        refine ha ?_
        show (!decide (V.str a = V.str wRule)) = true
        rw [decide_eq_false (fun q => e (V.str.inj q))]
        rfl
    generalize hW : a :: r = ws at hp wl k none_of
    have hh : ws.head? = some wRule := by rw [← hW, ← ea]; rfl
    refine ⟨_, rfl, p, _, rfl, .inl (SqL.of hp), rp, _, rfl, .inr (sqT_any hrp), rfl, rfl, _, rfl, ?_⟩
    have elen : inV (.int ((ws.map V.str).length : Int)) [.int 4, .int 8, .int 12] = decide (ws.length = 4 ∨ ws.length = 8 ∨ ws.length = 12) := by
      rw [List.length_map]
      show (((4 : Int) == (ws.length : Int)) || (((8 : Int) == (ws.length : Int)) || (((12 : Int) == (ws.length : Int)) || false))) = _
      rw [Bool.eq_iff_iff]
      simp only [Bool.or_eq_true, beq_iff_eq, decide_eq_true_eq, Bool.false_eq_true, or_false]
      omega
    refine ite2 (fun hl => ?_) (fun hl => ?_)
    · refine none_of (if_neg fun q => ?_) H1 s1
      have hl' : (!inV (.int ((ws.map V.str).length : Int)) [.int 4, .int 8, .int 12]) = true := hl
      unfold formB at q
      rw [Bool.and_eq_true, Bool.and_eq_true] at q
      rw [elen, q.2.1] at hl'
      cases hl'
    have len : ws.length = 4 ∨ ws.length = 8 ∨ ws.length = 12 := by
      by_cases q : ws.length = 4 ∨ ws.length = 8 ∨ ws.length = 12
      · exact q
      · exfalso
        refine hl ?_
        show (!inV (.int ((ws.map V.str).length : Int)) [.int 4, .int 8, .int 12]) = true
        rw [elen, decide_eq_false q]
        rfl
    have orl : (ors ws).length ≤ 2 := by
      unfold ors
      rw [List.length_map, List.length_range]
      omega
    dsimp only [tNext, tSeq, tIfS, tNot, tB, tCB, tCons, List.map]
    refine eqs_lc (ys := ors ws) (y := wOr) ?_ (by omega) ?_ ?_ ?_
    · intro R hR
      refine ⟨_, rfl, 4, rfl, 4, rfl, p, ws.map V.str, rfl, SqL.of hp, by simp, ?_, fun q nq => ?_⟩
      · rw [pick_ors len, List.length_map]
        exact Nat.le_trans orl (by decide)
      · refine hR q _ (same_upd nq) ?_
        rw [upd_same, pick_ors len]
    · exact fun _ => rfl
    · intro x H2 R q
      refine ⟨_, rfl, rfl, ?_⟩
      have e : decide (V.str x = V.str "or") = decide (x = wOr) := decide_eq_decide.mpr ⟨V.str.inj, congrArg V.str⟩
      rw [e]
      exact q
    intro D H2 s2 hD
    refine ⟨D, _, rfl, SqL.of hD, _, rfl, ?_⟩
    rw [all_bl]
    have s02 := s1.trans s2
    refine ite2 (fun ho => ?_) (fun ho => ?_)
    · refine none_of (if_neg fun q => ?_) H2 s02
      unfold formB at q
      rw [Bool.and_eq_true, Bool.and_eq_true] at q
      have q2 : ((ors ws).all fun x => decide (x = wOr)) = true := q.2.2
      rw [q2] at ho
      cases ho
    have hor : orsB ws = true := by
      unfold orsB
      cases c : (ors ws).all fun x => decide (x = wOr) with
      | true => rfl
      | false =>
        rw [c] at ho
        exact absurd rfl ho
    have form : formB ws = true := by
      unfold formB
      rw [decide_eq_true hh, decide_eq_true len, hor]
      rfl
    have eL : litsOf ks ws = if none ∈ litsOs ks ws then none else some ((litsOs ks ws).filterMap id) := if_pos form
    obtain ⟨m, hm, hm3⟩ : ∃ m, ws.length = 4 * m ∧ m ≤ 3 := by
      rcases len with q | q | q
      · exact ⟨1, by omega, by decide⟩
      · exact ⟨2, by omega, by decide⟩
      · exact ⟨3, by omega, by decide⟩
    have hm4 : ws.length / 4 = m := by omega
    have eos : litsOs ks ws = (List.range m).map (tripL ks ws) := by
      unfold litsOs
      rw [hm4]
    have hp2 := s2 _ _ hp
    dsimp only [tNext, tSeq, tAsg, tLc, iRng3, List.map]
    refine ⟨_, rfl, p, _, rfl, .inl (SqL.of hp2), 1, _, 4, m, rfl, ?_, fun L nL => ?_⟩
    · rw [List.length_map]
      exact rgc4 (by omega)
    refine lc_it (walk_rangeC (lo := 1) (c := 4) (n := m)) (fun i H' => ∃ vs : List V, Paired (LitO H') vs ((List.range i).map (tripL ks ws)) ∧ H' L = some (.lst vs) ∧ Same H2 H' ∧ vs.length = i) ⟨[], .nil, upd_same, same_upd nL, rfl⟩ (fun _ _ _ _ => trivial) ?_ ?_
    · rintro i x H3 H4 hi ⟨vs, pr, hL, s3, lv⟩ ⟨rfl, rfl⟩
      have hp4 := s3 _ _ hp2
      refine ⟨rfl, _, rfl, _, rfl, _, rfl, _, rfl, _, _, rfl, rfl, _, rfl, p, _, rfl, SqL.of hp4, fun q nq => ?_⟩
      have s04 := (s02.trans s3).trans (same_upd (o := .lst (cutV (ws.map V.str) (some (1 + (i : Int) * 4)) (some (1 + (i : Int) * 4 + 3)))) nq)
      refine ⟨_, rfl, _, rfl, q, np, sp, _, _, _, ks, rfl, SqL.of (by rw [upd_same, cut_trip (by omega)]), hn.same s04, sqT_same s04 hs, ?_, fun H5 s5 => ?_⟩
      · refine wl _ (List.mem_of_getElem? (get_str (by omega)))
      have s35 := (same_upd (o := .lst (cutV (ws.map V.str) (some (1 + (i : Int) * 4)) (some (1 + (i : Int) * 4 + 3)))) nq).trans s5
      have hL5 := s35 _ _ hL
      have fin : ∀ v : V, LitO H5 v (tripL ks ws i) → ∃ acc, H5 L = some (.lst acc) ∧ acc.length < sizeLine ∧ ∃ vs : List V, Paired (LitO (upd H5 L (.lst (acc ++ [v])))) vs ((List.range (i + 1)).map (tripL ks ws)) ∧ (upd H5 L (.lst (acc ++ [v]))) L = some (.lst vs) ∧ Same H2 (upd H5 L (.lst (acc ++ [v]))) ∧ vs.length = i + 1 := fun v hv => by
        refine ⟨vs, hL5, small1000 (by omega), vs ++ [v], ?_, upd_same, same_new (s3.trans s35) nL, by rw [List.length_append, lv]; rfl⟩
        rw [List.range_succ, List.map_append]
        exact litO_snoc (Paired.mapP pr fun v o z => litO_upd hL5 (litO_same s35 z)) (litO_upd hL5 hv)
      show resL (tripL ks ws i) _ H5
      cases ho : tripL ks ws i with
      | none => exact fin .non (by rw [ho]; exact rfl)
      | some l => exact fun t ht => fin (.ref t) (by rw [ho]; exact ⟨t, rfl, ht⟩)
    · rintro H3 ⟨vs, pr, hL, s3, lv⟩
      rw [← eos] at pr
      have s03 := s02.trans s3
      refine ⟨_, rfl, .none, (litsOs ks ws).map litD, .non, .lst (SqL.of hL) (lits_dp pr), rfl, lits_shaped _, _, rfl, ?_⟩
      rw [lits_none]
      refine ite2 (fun hc => ?_) (fun hc => ?_)
      · refine none_of ?_ H3 s03
        rw [eL, if_pos (of_decide_eq_true hc)]
      have hc' : none ∉ litsOs ks ws := fun q => hc (decide_eq_true q)
      obtain ⟨ts, rfl, pr2⟩ := lits_all pr hc'
      refine ⟨_, rfl, L, _, rfl, .inl ⟨SqL.of hL, fun l nl => ?_⟩⟩
      refine k _ l (s03.trans (same_upd nl)) ?_
      rw [eL, if_neg hc']
      exact ⟨ts, upd_same, Paired.mapP pr2 fun t l e => get_new e nl⟩
end
end K01

namespace K01
open PySem L2
abbrev sWorths : Stmt := top 26
/-! ### whether lits are so -/
def rowV (r : List Nat) : List V := r.map fun (n : Nat) => V.int (n : Int)
def soB (r : List Nat) (l : Lit) : Bool := decide (r.getD l.1 0 = l.2.2) == l.2.1
theorem row_at {r : List Nat} {i : Nat} (h : i < r.length) : (rowV r)[i]? = some (V.int ((r.getD i 0 : Nat) : Int)) := by
  unfold rowV
  rw [List.getElem?_map, List.getD_eq_getElem?_getD, List.getElem?_eq_getElem h]
  rfl
section
variable {base : Heap} {P : Program} {w : World} {K : PySem.W.Frag} {mg : Str → Option Value}
def spSo (K : PySem.W.Frag) : Sp := fun vs H Q _ => ∃ (t q : Addr) (l : Lit) (r : List Nat), vs = [.ref t, .ref q] ∧ H t = some (.tup (litV l)) ∧ SqT K H q (rowV r) ∧ l.1 < r.length ∧ Q (.bl (soB r l)) H
abbrev nSo : List Str := ["lit", "worths", "place", "is_same", "worth"]
theorem scSo : FnScope nSo ["lit", "worths"] (defScope sIsSo) := ⟨rfl, rfl, rfl, by decide +kernel, rfl, by decide +kernel, by decide +kernel⟩
theorem ok_so {f : Addr} {fd : FuncData} (F : Fun K "is_so" "is_so" sIsSo f fd) : FnOk P w K mg base CX0 1 f fd ["lit", "worths"] (spSo K) := by
  refine F.ok scSo (fun vs H Q E h => ?_) (fun cdv A outer s H vs Q E hr h => ?_)
  · obtain ⟨t, q, l, r, rfl, _⟩ := h
    rfl
  · obtain ⟨t, q, l, r, rfl, ht, hq, hl, k⟩ := h
    refine ⟨_, pss_cons (ps_asg (pv 0) (pg_tup rfl (pgs_cons (pg_name (i := 2) scSo.nd rfl (.inl rfl)) (pgs_cons (pg_name (i := 3) scSo.nd rfl (.inl rfl)) (pgs_cons (pg_name (i := 4) scSo.nd rfl (.inl rfl)) pgs_nil)))))
      (pss_cons (ps_if (pt_cmpR op_isN (pe_ix ix_tup (pv 1) (pv 2) (fun _ _ => rfl)) pe_non (nomark _)) (pss_one (ps_ret pe_non)) pss_nil)
      (pss_one (ps_ret (pe_cmpR op_eq (pe_cmpR op_eq (pe_ix ix_tup (pv 1) (pv 2) (fun _ _ => rfl)) (pv 4) (nomark _)) (pv 3) (nomark _))))), ?_⟩
    have at1 : atI (rowV r) ((l.1 : Nat) : Int) = some (V.int ((r.getD l.1 0 : Nat) : Int)) := atI_nat (row_at hl)
    refine ⟨_, rfl, t, _, rfl, SqT.of ht, rfl, .int (l.1 : Int), _, rfl, .bl l.2.1, _, rfl, .int (l.2.2 : Int), _, rfl, rfl, ?_⟩
    refine ⟨_, rfl, _, rfl, q, _, _, _, rfl, rfl, hq, at1, rfl, _, rfl, ?_⟩
    refine ite2 (fun z => by cases of_decide_eq_true z) (fun _ => ?_)
    refine ⟨_, rfl, _, rfl, q, _, _, _, rfl, rfl, hq, at1, _, rfl, rfl, _, rfl, rfl, ?_⟩
    have e : decide (V.bl (decide (V.int ((r.getD l.1 0 : Nat) : Int) = V.int (l.2.2 : Int))) = V.bl l.2.1) = soB r l := by
      have e1 : decide (V.int ((r.getD l.1 0 : Nat) : Int) = V.int (l.2.2 : Int)) = decide (r.getD l.1 0 = l.2.2) := decide_eq_decide.mpr ⟨fun z => by have := V.int.inj z; omega, fun z => by rw [z]⟩
      unfold soB
      rw [e1, Bool.eq_iff_iff]
      simp
    rw [e]
    exact k
/-! ### truth -/
def spTruth (K : PySem.W.Frag) : Sp := fun vs H Q _ => ∃ (p q : Addr) (ls : List Lit) (r : List Nat), vs = [.ref p, .ref q] ∧ LitsAt H p ls ∧ SqT K H q (rowV r) ∧ (∀ l ∈ ls, l.1 < r.length) ∧ ls.length ≤ 100 ∧ ∀ H', Same H H' → Q (.bl (ls.any (soB r))) H'
abbrev nTruth : List Str := ["lits", "worths", "told", "lit"]
theorem scTruth : FnScope nTruth ["lits", "worths"] (defScope sTruth) := ⟨rfl, rfl, rfl, by decide +kernel, rfl, by decide +kernel, by decide +kernel⟩
theorem flats_bl (l : List Bool) : (l.map V.bl).all flatV = true := by
  induction l with
  | nil => rfl
  | cons r l ih =>
    show (flatV (.bl r) && (l.map V.bl).all flatV) = true
    rw [ih]
    rfl
theorem inV_true (l : List Bool) : inV (.bl true) (l.map V.bl) = l.any id := by
  induction l with
  | nil => rfl
  | cons r l ih =>
    show (eqV (.bl r) (.bl true) || inV (.bl true) (l.map V.bl)) = (r || l.any id)
    rw [ih]
    show ((r == true) || _) = _
    cases r <;> rfl
theorem inV_non (l : List Bool) : inV .non (l.map V.bl) = false := by
  induction l with
  | nil => rfl
  | cons r l ih =>
    show (eqV (.bl r) .non || inV .non (l.map V.bl)) = false
    rw [ih]
    rfl
theorem paired_get {α β : Type} {R : α → β → Prop} : ∀ {xs : List α} {ys : List β}, Paired R xs ys → ∀ {i : Nat} {x : α}, xs[i]? = some x → ∃ y, ys[i]? = some y ∧ R x y
  | _, _, .cons h _, 0, x, e => by
    cases e
    exact ⟨_, rfl, h⟩
  | _, _, .cons _ k, i + 1, x, e => by
    obtain ⟨y, e1, e2⟩ := paired_get k (i := i) (x := x) e
    exact ⟨y, e1, e2⟩
theorem ok_truth {f : Addr} {fd : FuncData} (F : Fun K "truth" "truth" sTruth f fd) (GS : Has P w K mg base "is_so" 1 ["lit", "worths"] (spSo K)) : FnOk P w K mg base CX0 2 f fd ["lits", "worths"] (spTruth K) := by
  refine F.ok scTruth (fun vs H Q E h => ?_) (fun cdv A outer s H vs Q E hr h => ?_)
  · obtain ⟨p, q, ls, r, rfl, _⟩ := h
    rfl
  · obtain ⟨p, q, ls, r, rfl, ⟨ts, hp, pr⟩, hq, hl, hn, k⟩ := h
    refine ⟨_, pss_cons (ps_setLc (i := 2) (own := [("lit", 3)]) (g := gName 3) (tt := tYes) rfl scTruth.nd rfl rfl rfl (pi_tup (pv 0))
          (blkOk_by (N := nTruth) (sc := defScope sTruth) (by decide +kernel)) (fun _ _ _ _ _ => pg_name (i := 3) scTruth.nd rfl (Or.inl rfl)) (fun _ _ _ _ _ => pts_nil)
          (fun _ _ _ _ _ => pe_has GS hr (pa_cons (pv 3) (pa_cons (pv 1) pa_nil))))
      (pss_cons (ps_if (pt_cmpR op_in_seq pe_bl (pv 2) (by rfl)) (pss_one (ps_ret pe_bl)) pss_nil)
      (pss_cons (ps_if (pt_cmpR op_in_seq pe_non (pv 2) (by rfl)) (pss_one (ps_ret pe_non)) pss_nil)
      (pss_one (ps_ret pe_bl)))), ?_⟩
    have lt : ts.length = ls.length := Paired.length pr
    refine ⟨_, rfl, p, rfl, ⟨_, SqT.of hp⟩, fun D nD => ?_⟩
    refine lc_tup (K := K) (xs := ts.map V.ref) (fun i H' => Same H H' ∧ H' D = some (.lst (((ls.take i).map (soB r)).map V.bl))) ⟨same_upd nD, upd_same⟩ (fun i H' _ z => sqT_same z.1 (SqT.of hp)) ?_ ?_
    · rintro i x H' hx ⟨s1, hD⟩
      rw [List.getElem?_map] at hx
      obtain ⟨t, ht, rfl⟩ := Option.map_eq_some_iff.mp hx
      obtain ⟨l, hl1, hl2⟩ := paired_get pr ht
      refine ⟨rfl, _, rfl, _, rfl, t, q, l, r, rfl, s1 _ _ hl2, sqT_same s1 hq, hl l (List.mem_of_getElem? hl1), _, hD, ?_, same_new s1 nD, ?_⟩
      · rw [List.length_map, List.length_map, List.length_take]
        exact small1000 (by omega)
      · rw [upd_same, take_one hl1, List.map_append, List.map_append]
        rfl
    · rintro H' ⟨s1, hD⟩
      rw [List.length_map, lt, List.take_length] at hD
      refine ⟨_, rfl, D, _, rfl, .inl (SqL.of hD), rfl, flats_bl _, _, rfl, ?_⟩
      have ea : ((ls.map (soB r)).any id) = ls.any (soB r) := by
        rw [List.any_map]
        rfl
      have q1 := k H' s1
      refine ite2 (fun h1 => ?_) (fun h1 => ?_)
      · have h1' : inV (.bl true) ((ls.map (soB r)).map V.bl) = true := h1
        rw [inV_true, ea] at h1'
        rw [h1'] at q1
        exact q1
      · have h1' : ¬ inV (.bl true) ((ls.map (soB r)).map V.bl) = true := h1
        rw [inV_true, ea] at h1'
        rw [Bool.not_eq_true] at h1'
        rw [h1'] at q1
        refine ⟨_, rfl, D, _, rfl, .inl (SqL.of hD), rfl, flats_bl _, _, rfl, ?_⟩
        refine ite2 (fun h2 => ?_) (fun _ => q1)
        have h2' : inV .non ((ls.map (soB r)).map V.bl) = true := h2
        rw [inV_non] at h2'
        cases h2'
/-! ### all worths -/
def ext (s : Nat) (r : List Nat) : List (List Nat) := (List.range s).map fun w => r ++ [w]
def stepR (rows : List (List Nat)) (s : Nat) : List (List Nat) := rows.flatMap (ext s)
def worthsOf (ss : List Nat) : List (List Nat) := ss.foldl stepR [[]]
def RowsAt (K : PySem.W.Frag) (H : Hp) (p : Addr) (rows : List (List Nat)) : Prop := ∃ ts : List Addr, H p = some (.lst (ts.map V.ref)) ∧ Paired (fun (t : Addr) (r : List Nat) => SqT K H t (rowV r)) ts rows
theorem RowsAt.same {H H' : Hp} {p : Addr} {rows : List (List Nat)} (h : RowsAt K H p rows) (s : Same H H') : RowsAt K H' p rows := by
  obtain ⟨ts, e, q⟩ := h
  exact ⟨ts, s _ _ e, Paired.mapP q fun t l e => sqT_same s e⟩
theorem stepR_len {rows : List (List Nat)} {s : Nat} : (stepR rows s).length = rows.length * s := by
  unfold stepR
  induction rows with
  | nil => simp
  | cons r l ih =>
    rw [List.flatMap_cons, List.length_append, ih]
    unfold ext
    rw [List.length_map, List.length_range, List.length_cons, Nat.add_mul]
    omega
theorem paired_snoc {α β : Type} {R : α → β → Prop} {x : α} {y : β} : ∀ {xs : List α} {ys : List β}, Paired R xs ys → R x y → Paired R (xs ++ [x]) (ys ++ [y])
  | _, _, .nil, last => .cons last .nil
  | _, _, .cons h k, e => .cons h (paired_snoc k e)
theorem sqT_upd {K : PySem.W.Frag} {H : Hp} {L t : Addr} {xs ys zs : List V} (hL : H L = some (.lst xs)) (h : SqT K H t zs) : SqT K (upd H L (.lst ys)) t zs := by
  rcases h with (h | ⟨o, h⟩) | h
  · exact .inl (.inl (by rw [upd_ne (ne_of h hL (by simp))]; exact h))
  · exact .inl (.inr ⟨o, by rw [upd_ne (ne_of h hL (by simp))]; exact h⟩)
  · exact .inr h
/-- [.. for r in a list for w in range(n)] -/
theorem lc2_lr {K : PySem.W.Frag} {a : Addr} {xs : List V} {n k : Nat} {g g1 : TG} {te : TE} {vs vs1 : List Nat} {σ : L2.St} {H1 : Hp} {D : Addr} {Qd : Hp → Prop} (Po : Nat → Hp → Prop) (Pi : Nat → Nat → Hp → Prop) (h0 : Po 0 (upd H1 D (.lst []))) (hl : ∀ i H, Po i H → SqL K H a xs) (hsm : (n : Int) < 2 ^ 62)
    (hs : ∀ i x H, xs[i]? = some x → Po i H → g x (wipe σ vs) H fun σ2 H2 => wipe σ2 vs = wipe σ vs ∧ σ2[k]? = some (some (.int (n : Int))) ∧ Pi i 0 H2 ∧ ∀ j H, j < n → Pi i j H → g1 (.int (0 + (j : Int))) (wipe σ2 vs1) H fun σ3 H5 => wipe σ3 vs1 = wipe σ2 vs1 ∧ te σ3 H5 fun y H7 => ∃ acc, H7 D = some (.lst acc) ∧ acc.length < sizeLine ∧ Pi i (j + 1) (upd H7 D (.lst (acc ++ [y]))))
    (hmono : ∀ x σ H (R R' : L2.St → Hp → Prop), (∀ σ' H', R σ' H' → R' σ' H') → g x σ H R → g x σ H R') (hmono1 : ∀ x σ H (R R' : L2.St → Hp → Prop), (∀ σ' H', R σ' H' → R' σ' H') → g1 x σ H R → g1 x σ H R')
    (hn : ∀ i H, i < xs.length → Pi i n H → Po (i + 1) H) (hd : ∀ H, Po xs.length H → Qd H) :
    ∃ W : Nat → Nat → Hp → Prop, (∃ m, W 0 m (upd H1 D (.lst []))) ∧ ∀ i m H, W i m H →
      ((Itl K a).stop i H ∧ Qd H) ∨ ((Itl K a).go i H ∧ ∃ Nx : Hp → Prop, (∀ H', Nx H' → ∃ m', m' < m ∧ W (i + 1) m' H') ∧ ∀ x H', (Itl K a).yld i H x H' → g x (wipe σ vs) H' fun σ2 H2 => wipe σ2 vs = wipe σ vs ∧ tYes σ2 H2 fun b H3 =>
        if b = true then iRng1 (tCons (tVar k) tNil) σ2 H3 fun J1 H4 => ∃ W1 : Nat → Nat → Hp → Prop, (∃ m, W1 0 m H4) ∧ ∀ j k H, W1 j k H →
          (J1.stop j H ∧ Nx H) ∨ (J1.go j H ∧ ∃ Nx1 : Hp → Prop, (∀ H', Nx1 H' → ∃ k', k' < k ∧ W1 (j + 1) k' H') ∧ ∀ x H', J1.yld j H x H' → g1 x (wipe σ2 vs1) H' fun σ3 H5 => wipe σ3 vs1 = wipe σ2 vs1 ∧ tYes σ3 H5 fun b H6 =>
            if b = true then te σ3 H6 fun y H7 => ∃ acc, H7 D = some (.lst acc) ∧ acc.length < sizeLine ∧ Nx1 (upd H7 D (.lst (acc ++ [y]))) else Nx1 H6)
        else Nx H3) := by
  refine ⟨fun i m H => m = xs.length - i ∧ i ≤ xs.length ∧ Po i H, ⟨xs.length, by simp, Nat.zero_le _, h0⟩, ?_⟩
  rintro i m H ⟨rfl, hi, p⟩
  have q := hl i H p
  by_cases hlt : i < xs.length
  · refine .inr ⟨⟨xs, xs[i], q, by simp [hlt]⟩, Po (i + 1), fun H' p' => ⟨xs.length - (i + 1), by omega, rfl, hlt, p'⟩, fun x H' y => ?_⟩
    obtain ⟨e, y⟩ := y
    subst e
    refine hmono _ _ _ _ _ (fun σ2 H2 z => ?_) (hs i x _ (y xs q) p)
    obtain ⟨z1, z2, z3, z4⟩ := z
    refine ⟨z1, ?_⟩
    refine ⟨.int (n : Int), z2, (n : Int), rfl, by omega, hsm, ?_⟩
    refine ⟨fun j m H => m = n - j ∧ j ≤ n ∧ Pi i j H, ⟨n, by simp, Nat.zero_le _, z3⟩, ?_⟩
    rintro j m H3 ⟨rfl, hj, pj⟩
    by_cases hjl : j < n
    · refine .inr ⟨(show j < (n : Int).toNat by omega), Pi i (j + 1), fun H' p' => ⟨n - (j + 1), by omega, rfl, hjl, p'⟩, fun x1 H4 y1 => ?_⟩
      obtain ⟨e1, e2⟩ := y1
      subst e1 e2
      refine hmono1 _ _ _ _ _ (fun σ3 H5 z => ?_) (z4 j _ hjl pj)
      exact ⟨z.1, z.2⟩
    · have ej : j = n := by omega
      subst ej
      exact .inl ⟨(show (j : Int).toNat ≤ j by omega), hn i H3 hlt pj⟩
  · have e : i = xs.length := by omega
    subst e
    exact .inl ⟨⟨xs, q, Nat.le_refl _⟩, hd H p⟩
end
end K01

namespace K01
open PySem L2
theorem gName_mono {i : Nat} : ∀ (x : V) (σ : L2.St) (H : Hp) (R R' : L2.St → Hp → Prop), (∀ σ' H', R σ' H' → R' σ' H') → gName i x σ H R → gName i x σ H R' := fun _ _ _ _ _ h z => h _ _ z
theorem ext_at {s j : Nat} {r : List Nat} (h : j < s) : (ext s r).take (j + 1) = (ext s r).take j ++ [r ++ [j]] := by
  refine take_one ?_
  unfold ext
  rw [List.getElem?_map, List.getElem?_range h]
  rfl
theorem stepR_take {rows : List (List Nat)} {s i : Nat} {r : List Nat} (h : rows[i]? = some r) : stepR (rows.take (i + 1)) s = stepR (rows.take i) s ++ ext s r := by
  rw [take_one h]
  unfold stepR
  rw [List.flatMap_append]
  simp
theorem ext_len {s : Nat} {r : List Nat} : (ext s r).length = s := by
  unfold ext
  rw [List.length_map, List.length_range]
theorem worths_row : ∀ {ss : List Nat} {r : List Nat}, r ∈ worthsOf ss → r.length = ss.length := by
  have key : ∀ (ss : List Nat) (acc : List (List Nat)) (n : Nat), (∀ r ∈ acc, r.length = n) → ∀ r ∈ ss.foldl stepR acc, r.length = n + ss.length := by
    intro ss
    induction ss with
    | nil => exact fun acc n h r hr => h r hr
    | cons s l ih =>
      intro acc n h r hr
      rw [List.foldl_cons] at hr
      rw [ih (stepR acc s) (n + 1) (fun x hx => ?_) r hr, List.length_cons]
      · omega
      · unfold stepR at hx
        obtain ⟨a, ha, hx⟩ := List.mem_flatMap.mp hx
        unfold ext at hx
        obtain ⟨w, _, rfl⟩ := List.mem_map.mp hx
        rw [List.length_append, h a ha]
        rfl
  intro ss r h
  have := key ss [[]] 0 (fun r hr => by rw [List.mem_singleton.mp hr]; rfl) r h
  omega
/-- (*row, x) -/
theorem pe_tupStar {K : PySem.W.Frag} {X : Cx} {e f : Expr} {te tf : TE} {x1 : Nat} {p pos : Pos} (he : PE X e te) (hf : PE X f tf) (hK : X.K = K := by rfl)
    (hs : starEach [.Starred e p, f] X.env = (true, eval e X.env) :: starEach [f] X.env := by rfl) (hs2 : starEach [f] X.env = (false, eval f X.env) :: starEach [] X.env := by rfl) :
    PE X (.Tuple [.Starred e p, f] x1 pos) (tTup (StX.tStar K te (tCons tf tNil))) := by
  subst hK
  exact pe_tup (StX.pa_star he (pa_cons hf pa_nil hs2) hs)
section
variable {base : Heap} {P : Program} {w : World} {K : PySem.W.Frag} {mg : Str → Option Value}
def spWorths (K : PySem.W.Frag) : Sp := fun vs H Q _ => ∃ (p : Addr) (ss : List Nat), vs = [.ref p] ∧ SqT K H p (rowV ss) ∧ ss.length ≤ 3 ∧ (∀ s ∈ ss, s ≤ 3) ∧ ∀ H' q, Same H H' → H q = none → RowsAt K H' q (worthsOf ss) → Q (.ref q) H'
abbrev nWorths : List Str := ["sizes", "rows", "size", "row", "worth"]
theorem scWorths : FnScope nWorths ["sizes"] (defScope sWorths) := ⟨rfl, rfl, rfl, by decide +kernel, rfl, by decide +kernel, by decide +kernel⟩
theorem worths_take {ss : List Nat} {i s : Nat} (h : ss[i]? = some s) : worthsOf (ss.take (i + 1)) = stepR (worthsOf (ss.take i)) s := by
  rw [take_one h]
  unfold worthsOf
  rw [List.foldl_append]
  rfl
theorem worths_len : ∀ (ss : List Nat), (∀ s ∈ ss, s ≤ 3) → (worthsOf ss).length ≤ 3 ^ ss.length := by
  intro ss
  have key : ∀ (ss : List Nat) (acc : List (List Nat)), (∀ s ∈ ss, s ≤ 3) → (ss.foldl stepR acc).length ≤ acc.length * 3 ^ ss.length := by
    intro ss
    induction ss with
    | nil =>
      intro acc _
      simp
    | cons s l ih =>
      intro acc h
      rw [List.foldl_cons]
      have a := ih (stepR acc s) fun x hx => h x (List.mem_cons_of_mem _ hx)
      rw [stepR_len] at a
      have b := h s List.mem_cons_self
      have c : acc.length * s * 3 ^ l.length ≤ acc.length * 3 * 3 ^ l.length := Nat.mul_le_mul_right _ (Nat.mul_le_mul_left _ b)
      rw [List.length_cons, Nat.pow_succ]
      have d : acc.length * (3 ^ l.length * 3) = acc.length * 3 * 3 ^ l.length := by
        rw [Nat.mul_comm (3 ^ l.length) 3, Nat.mul_assoc]
      omega
  intro h
  have := key ss [[]] h
  rw [List.length_singleton, Nat.one_mul] at this
  exact this
theorem worths_small {ss : List Nat} (h1 : ss.length ≤ 3) (h : ∀ s ∈ ss, s ≤ 3) (i : Nat) : (worthsOf (ss.take i)).length ≤ 27 := by
  have a := worths_len (ss.take i) fun s hs => h s (List.mem_of_mem_take hs)
  have b : (ss.take i).length ≤ 3 := by
    rw [List.length_take]
    omega
  have c : 3 ^ (ss.take i).length ≤ 3 ^ 3 := Nat.pow_le_pow_right (by decide) b
  omega
theorem ok_worths {f : Addr} {fd : FuncData} (F : Fun K "all_worths" "all_worths" sWorths f fd) (T : Txt4 K mg) : FnOk P w K mg base CX0 1 f fd ["sizes"] (spWorths K) := by
  refine F.ok scWorths (fun vs H Q E h => ?_) (fun cdv A outer s H vs Q E hr h => ?_)
  · obtain ⟨p, ss, rfl, _⟩ := h
    rfl
  · obtain ⟨p, ss, rfl, hp, hl, h3, k⟩ := h
    refine ⟨_, pss_cons (ps_set (i := 1) scWorths.nd rfl (.inl rfl) (pe_lst (pa_cons (pe_tup pa_nil) pa_nil)))
      (pss_cons (ps_for PassesOwn.never rfl (pi_tup (pv 0)) (pg_name (i := 2) scWorths.nd rfl (.inr rfl))
        (pss_one (ps_setLc2 (i := 1) (own := [("row", 3), ("worth", 4)]) (vs1 := [4]) (g := gName 3) (tt := tYes) (g1 := gName 4) (tt1 := tYes) rfl scWorths.nd rfl rfl rfl (pi_list (pv 1))
          (blkOk_by (N := nWorths) (sc := defScope sWorths) (by decide +kernel)) (by decide) (fun _ _ _ _ _ => pg_name (i := 3) scWorths.nd rfl (Or.inl rfl)) (fun _ _ _ _ _ => pts_nil)
          (fun _ _ _ _ _ => pi_range1 (by rfl) T.range (pa_cons (pv 2) pa_nil)) (fun _ _ _ _ _ => pg_name (i := 4) scWorths.nd rfl (Or.inl rfl)) (fun _ _ _ _ _ => pts_nil)
          (fun _ _ _ _ _ => pe_tupStar (K := K) (pv 3) (pv 4)))))
      (pss_one (ps_ret (pv 1)))), ?_⟩
    refine ⟨Nat.zero_le _, fun e ne => ⟨(by show 1 ≤ sizeLine; decide), fun R nR => ?_⟩⟩
    have s0 := (same_upd (o := .tup []) ne).trans (same_upd (o := .lst [V.ref e]) nR)
    refine ⟨_, rfl, p, rfl, ⟨_, sqT_same s0 hp⟩, for_it (walk_tup (xs := rowV ss)) (fun i σ H1 => ∃ (R : Addr) (v2 : Option V), σ = [some (.ref p), some (.ref R), v2, none, none] ∧ Same H H1 ∧ RowsAt K H1 R (worthsOf (ss.take i)) ∧ H R = none)
      ⟨R, none, rfl, s0, ⟨[e], upd_same, .cons (SqT.of (get_new upd_same nR)) .nil⟩, (same_upd ne).free nR⟩ (fun i σ H1 _ ⟨_, _, _, s1, _⟩ => sqT_same s1 hp) ?_ ?_⟩
    · rintro i x σ H1 H2 hi ⟨R1, v2, rfl, s1, hR, fR⟩ ⟨rfl, hx⟩
      unfold rowV at hx
      rw [List.getElem?_map] at hx
      obtain ⟨sz, hsz, rfl⟩ := Option.map_eq_some_iff.mp hx
      have sz3 := h3 sz (List.mem_of_getElem? hsz)
      have wsm := worths_small hl h3 i
      obtain ⟨ts, hR1, pr⟩ := hR
      have rl : ∀ r ∈ worthsOf (ss.take i), r.length = (ss.take i).length := fun r hr => worths_row hr
      generalize hrows : worthsOf (ss.take i) = rows at pr wsm rl
      have lts : ts.length = rows.length := Paired.length pr
      refine ⟨_, rfl, R1, rfl, ⟨_, SqL.of hR1⟩, fun D nD => ?_⟩
      refine lc2_lr (K := K) (xs := ts.map V.ref) (n := sz) (fun i H' => Same H2 H' ∧ RowsAt K H' D (stepR (rows.take i) sz)) (fun i j H' => Same H2 H' ∧ ∃ r, rows[i]? = some r ∧ RowsAt K H' D (stepR (rows.take i) sz ++ (ext sz r).take j))
        ⟨same_upd nD, [], upd_same, .nil⟩ (fun i H' z => SqL.of (z.1 _ _ hR1)) (by omega) ?_ gName_mono gName_mono ?_ ?_
      · rintro i' x' H' hx' ⟨s2, hD⟩
        rw [List.getElem?_map] at hx'
        obtain ⟨t, ht, rfl⟩ := Option.map_eq_some_iff.mp hx'
        obtain ⟨r, hr1, hr2⟩ := paired_get pr ht
        refine ⟨rfl, rfl, ⟨s2, r, hr1, by rw [List.take_zero, List.append_nil]; exact hD⟩, ?_⟩
        rintro j H3 hj ⟨s3, r', hr', ts3, hD3, pr3⟩
        rw [hr1] at hr'
        cases hr'
        refine ⟨rfl, _, rfl, t, _, rfl, .inl (sqT_same s3 hr2), _, rfl, ?_, fun q nq => ?_⟩
        · show (rowV r ++ [V.int (0 + (j : Int))]).length ≤ sizeLine
          rw [List.length_append]
          unfold rowV
          rw [List.length_map, rl r (List.mem_of_getElem? hr1), List.length_take]
          exact Nat.le_trans (show min i ss.length + 1 ≤ 4 by omega) (by decide)
        have l3 : ts3.length ≤ 1000 := by
          rw [Paired.length pr3, List.length_append, stepR_len, List.length_take, List.length_take, ext_len]
          have a1 : min i' rows.length * sz ≤ 27 * 3 := Nat.mul_le_mul (by omega) sz3
          omega
        have er : rowV r ++ [V.int (0 + (j : Int))] = rowV (r ++ [j]) := by
          unfold rowV
          rw [List.map_append, Int.zero_add]
          rfl
        have hD4 := get_new (o := .tup (rowV r ++ [V.int (0 + (j : Int))])) hD3 nq
        refine ⟨_, hD4, by rw [List.length_map]; exact small1000 (by omega), same_new (s3.trans (same_upd nq)) nD, r, hr1, ts3 ++ [q], ?_, ?_⟩
        · rw [upd_same, List.map_append]
          rfl
        · rw [ext_at hj, ← List.append_assoc]
          refine paired_snoc (Paired.mapP pr3 fun t l e => sqT_upd hD4 (sqT_same (same_upd nq) e)) (sqT_upd hD4 (SqT.of ?_))
          rw [upd_same, er]
      · rintro i' H' hi' ⟨s2, r, hr1, hD⟩
        refine ⟨s2, ?_⟩
        rw [stepR_take hr1]
        have : (ext sz r).take sz = ext sz r := List.take_of_length_le (by rw [ext_len]; exact Nat.le_refl _)
        rw [this] at hD
        exact hD
      · rintro H' ⟨s2, hD⟩
        rw [List.length_map, lts, List.take_length] at hD
        refine ⟨D, _, rfl, s1.trans s2, ?_, s1.free nD⟩
        rw [worths_take hsz, hrows]
        exact hD
    · rintro σ H1 ⟨R1, v2, rfl, s1, hR, fR⟩
      refine ⟨_, rfl, k H1 R1 s1 fR ?_⟩
      have : ss.take (rowV ss).length = ss := by
        unfold rowV
        rw [List.length_map, List.take_length]
      rw [this] at hR
      exact hR
end
end K01

namespace K01
open PySem L2
abbrev sEInit : Stmt := inClass (top 2) 0
abbrev sReadRules : Stmt := top 46
/-! ### the errors -/
def fV (v : V) : List (Str × V) := [("value", v)]
def spEI (K : PySem.W.Frag) : Sp := fun vs H Q _ => ∃ (a C : Addr) (y : V), vs = [.ref a, y] ∧ OexC K C ∧ PySem.W.findIn K (.ref C) "value" = some none ∧ H a = some (exo a C none) ∧
  ∀ dx, H dx = none → dx ≠ a → Q .non (upd (upd H dx (exd dx (fV y))) a (exo a C (some dx)))
/-- what is known of the class of BadText at CB -/
structure Err (P : Program) (w : World) (K : PySem.W.Frag) (mg : Str → Option Value) (base : Heap) (CB : Addr) : Prop where
  ox : OexC K CB
  gB : mg "BadText" = some (.ref CB)
  nv : PySem.W.findIn K (.ref CB) "value" = some none
  init : ∃ (fI : Addr) (fd : FuncData), PySem.W.findIn K (.ref CB) "__init__" = some (some (.ref fI)) ∧ PySem.W.typeIn K (.ref fI) = some (.type "function") ∧ FnOk P w K mg base CX0 1 fI fd ["self", "value"] (spEI K) ∧ Binds K fd ["self", "value"] []
section
variable {base : Heap} {P : Program} {w : World} {K : PySem.W.Frag} {mg : Str → Option Value}
theorem scEInit : FnScope ["self", "value"] ["self", "value"] (defScope sEInit) := ⟨rfl, rfl, rfl, by decide +kernel, rfl, by decide +kernel, by decide +kernel⟩
theorem ok_einit {f : Addr} {fd : FuncData} (F : Fun K "__init__" "SettledError.__init__" sEInit f fd) : FnOk P w K mg base CX0 1 f fd ["self", "value"] (spEI K) := by
  refine F.ok scEInit (fun vs H Q E h => ?_) (fun cdv A outer s H vs Q E hr h => ?_)
  · obtain ⟨a, C, y, rfl, _⟩ := h
    rfl
  · obtain ⟨a, C, y, rfl, T, nv, ha, k⟩ := h
    refine ⟨_, pss_one (ps_ost (pv 0) (pv 1)), ?_⟩
    exact ⟨_, rfl, _, rfl, a, C, rfl, T, nv, .inl ⟨ha, fun dx hd ne => k dx hd ne⟩⟩
/-- what a raised BadText leaves -/
def Bad (H : Hp) (CB : Addr) (n : Int) (E : XK) : Prop := ∀ d H', Same H H' → H d = none → H' d = some (.xd (fV (.int n))) → E (.ref CB) (some d) H'
theorem Bad.same {H H1 : Hp} {CB : Addr} {n : Int} {E : XK} (s : Same H H1) (h : Bad H CB n E) : Bad H1 CB n E := fun d H' s' hd e => h d H' (s.trans s') (s.free hd) e
/-- raise BadText(e) in a def that errors leave -/
theorem ps_bad {X : Cx} {CB : Addr} {W : WX} {e : Expr} {te : TE} {p pos pos2 : Pos} (B : Err X.prog X.w X.K X.mg X.base CB) (hc : X.calm = true) (tk : L2.Takes X W) (hr : Room 2 X.A) (he : PE X e te) (hg : Gl X "BadText" := by rfl)
    (hst : starEach (e :: []) X.env = (false, eval e X.env) :: starEach [] X.env := by rfl) (hpl : (backTo pos (starEach [] X.env)).any (·.1) = false := by rfl) :
    PS X (.Raise (some (.Call (.Name "BadText" p) [e] [] pos)) none pos2) (fun _ σ H => tMkO CB (spEI X.K) [] (tCons te tNil) σ H fun cls d H' => W cls d σ H') := by
  obtain ⟨fI, fd, iC, tI, F1, hb⟩ := B.init
  exact ps_raise (W := W) (pos := pos2) hc tk (pmk_oex (pos := pos) (p := p) (ta := tCons te tNil) (dvs := []) B.ox iC tI F1 hr hb .nil pass0 hg B.gB (pa_cons he pa_nil hst) (by decide) hst hpl)
/-- its reading, behind e's -/
theorem bad_made {CB : Addr} {n : Int} {H1 : Hp} {R : XK} (B : Err P w K mg base CB) (h : Bad H1 CB n R) : ([V.int n] : List V).length ≤ 1000 ∧ ∀ a, H1 a = none → spEI K (.ref a :: ([V.int n] ++ [])) (upd H1 a (exo a CB none))
    (fun v H2 => v = .non ∧ ∃ (d : Addr) (fs : List (Str × V)), H2 a = some (exo a CB (some d)) ∧ H2 d = some (exd d fs) ∧ H1 d = none ∧ R (.ref CB) (some d) (upd (del H2 a) d (.xd fs))) (fun _ _ _ => False) := by
  refine ⟨(by show 1 ≤ 1000; decide), fun a ha => ⟨a, CB, .int n, rfl, B.ox, B.nv, upd_same, fun dx hdx ne => ⟨rfl, dx, fV (.int n), upd_same, ?_, ?_, ?_⟩⟩⟩
  · rw [upd_ne ne, upd_same]
  · rw [upd_ne ne] at hdx
    exact hdx
  · have d1 : H1 dx = none := by
      rw [upd_ne ne] at hdx
      exact hdx
    refine h dx _ (fun b o e => ?_) d1 upd_same
    have nba : b ≠ a := ne_of_none e ha
    have nbd : b ≠ dx := ne_of_none e d1
    rw [upd_ne nbd, del_ne nba, upd_ne nba, upd_ne nbd, upd_ne nba]
    exact e
/-! ### lines_of -/
def nl : Str := "\n"
def linesOf (z : Str) : List Str := Txt.split z nl
/-- what is no string -/
def NotStr (K : PySem.W.Frag) (H : Hp) (x : V) : Prop := ∃ t, TyX K H x t ∧ PySem.W.kitOne K t (.type "str") = some false
def spLines (K : PySem.W.Frag) (CB : Addr) : Sp := fun vs H Q E => ∃ x : V, vs = [x] ∧
  ((∃ z : Str, x = .str z ∧ z.length ≤ 1000000 ∧ ∀ p H', H p = none → Same H H' → H' p = some (.lst ((linesOf z).map V.str)) → Q (.ref p) H') ∨ (NotStr K H x ∧ Bad H CB (-1) E))
theorem scLines : FnScope ["text"] ["text"] (defScope sLines) := ⟨rfl, rfl, rfl, by decide +kernel, rfl, by decide +kernel, by decide +kernel⟩
theorem ok_lines {f CB : Addr} {fd : FuncData} (F : Fun K "lines_of" "lines_of" sLines f fd) (T : Txt3 K mg) (B : Err P w K mg base CB) : FnOk P w K mg base (L2.CX P w) 3 f fd ["text"] (spLines K CB) := by
  refine F.okX scLines (fun vs H Q E h => ?_) (fun cdv A outer s H vs Q E hr h => ?_)
  · obtain ⟨x, rfl, _⟩ := h
    rfl
  · obtain ⟨x, rfl, h⟩ := h
    refine ⟨_, pss_cons (ps_if (pt_not (pt_val (pe_callB call_isi (by rfl) T.isinst (by decide +kernel) (pa_cons (pv 0) (pa_cons (pe_bltn (v := .ty "str") (by rfl) T.str PyProof.Rows.boot_str rfl) pa_nil)))))
        (pss_one (ps_bad B rfl (takes_of rfl rfl rfl rfl) hr (pe_un un_neg pe_int))) pss_nil)
      (pss_one (ps_ret (pe_split (pv 0) pe_str))), ?_⟩
    rcases h with ⟨z, rfl, hz, k⟩ | ⟨⟨t, ty, kt⟩, bad⟩
    · refine ⟨_, rfl, _, _, _, _, true, rfl, .ty "str", .base (.str z), kit_ty (by decide +kernel), _, rfl, ?_⟩
      exact ⟨_, rfl, ⟨_, rfl⟩, _, _, rfl, rfl, by decide +kernel, Nat.le_trans (Nat.add_le_add_right hz 2) (by decide), fun p hp => k p _ hp (same_upd hp) upd_same⟩
    · refine ⟨_, rfl, _, _, _, _, false, rfl, .ty "str", ty, kt, _, rfl, ?_⟩
      exact ⟨1, rfl, bad_made B bad⟩
end
end K01

namespace K01
open L2 PySem PySem.Spec PyProof.Rows
/-! ### a class made where what is raised is wished for at the slots -/
section
variable {X : Cx} {k : Nat} {f C : Addr} {fd : FuncData} {ps : List Str} {sp : Sp} {E : L2.St → XK} {x : Str} {p pos : Pos} {e : Expr} {es : List Expr} {t : TA}
def tMakeS (C : Addr) (sp : Sp) (E : L2.St → XK) (t : TA) : TE := fun σ H Q => t σ H fun vs H1 => ∀ x dx, H1 x = none → H1 dx = none → dx ≠ x → sp (.ref x :: vs) (upd (upd H1 dx (.own x)) x (.ins C dx [])) (fun v H2 => v = .non ∧ Q (.ref x) H2) (E σ)
theorem pe_makeS {CXX : CXT} (M : Mk X.K C f) (F : FnOk X.prog X.w X.K X.mg X.base CXX k f fd ps sp) (hr : Room (k + 1) X.A) (hg : Gl X x) (hm : X.mg x = some (.ref C)) (hb : Binds X.K fd ps []) (hx : ∀ σ, PassesAt CXX X σ (E σ))
    (ha : PA X (e :: es) t) (hdb : (x == ("__debug__" : Str)) = false := by (decide)) (he : starEach (e :: es) X.env = (false, eval e X.env) :: starEach es X.env := by rfl) (hpl : (backTo pos (starEach es X.env)).any (·.1) = false := by rfl) :
    PE X (.Call (.Name x p) (e :: es) [] pos) (tMakeS C sp E t) := by
  refine ⟨fun pins s σ H Q I h => wpAny_Call_Name_kw (ld_glob I hg hm ?_ hdb)⟩
  (refine PySem.W.callWith_K (h₀ := X.base) I.ok.mod.kin M.kp (thn (ha.run pos pins s σ H _ I h) fun us s1 ⟨vs, H1, I1, r, q⟩ => ⟨I1.kIn, ?_⟩) he hpl)
  have q1 := q (s1.heap.objs.size + 1) s1.heap.objs.size (I1.hok.fresh (Nat.le_succ _)) (I1.hok.fresh (Nat.le_refl _)) (Nat.ne_of_lt (Nat.lt_succ_self _))
  have J := Inv.made (C := C) I1
  have rr : Vals (V.ref (s1.heap.objs.size + 1) :: vs) (Value.ref (s1.heap.objs.size + 1) :: us) := .cons rfl r
  have count : (Value.ref (s1.heap.objs.size + 1) :: us ++ []).length = ps.length := by
    rw [List.append_nil, ← rr.length]
    exact F.len _ _ _ _ q1
  have bound := hb _ (Value.ref (s1.heap.objs.size + 1) :: us) J.kIn count
  rw [List.append_nil] at bound
  refine wpAny_call (make_map (f := f) I1.kIn M.makes M.init (beq_iff_eq.mp M.fn) (codeAny_mono (F.run _ X.stack _ _ ⟨Value.ref (s1.heap.objs.size + 1) :: us, []⟩ (Value.ref (s1.heap.objs.size + 1) :: us) _ _ (E σ) (hr.make C us [])
    (J.env0.make C us []) bound rr q1) fun r s' out => ?_))
  cases r with
  | error er => exact hx σ pins _ _ er s' J out
  | ok fl =>
    cases fl with
    | ret u =>
      obtain ⟨v, H', I3, rv, ev, q3⟩ := J.after out
      subst ev
      exact ⟨rv, ⟨V.ref (s1.heap.objs.size + 1), H', I3, rfl, q3⟩⟩
    | next => exact False.elim out
    | brk => exact False.elim out
    | cont => exact False.elim out
end
def HasX (P : Program) (w : World) (K : PySem.W.Frag) (mg : Str → Option Value) (base : Heap) (nm : Str) (k : Nat) (ps : List Str) (sp : Sp) : Prop :=
  ∃ (f : Addr) (fd : FuncData), FnOk P w K mg base (L2.CX P w) k f fd ps sp ∧ mg nm = some (.ref f) ∧ PySem.W.keepIn K (.ref f) = true ∧ Binds K fd ps []
theorem pe_hasX {X : Cx} {nm : Str} {k : Nat} {ps : List Str} {sp : Sp} {W : WX} {e : Expr} {es : List Expr} {t : TA} {p pos : Pos} (h : HasX X.prog X.w X.K X.mg X.base nm k ps sp) (tk : L2.Takes X W) (hr : Room k X.A) (ha : PA X (e :: es) t) (hg : Gl X nm := by rfl)
    (hdb : (nm == ("__debug__" : Str)) = false := by decide) (he : starEach (e :: es) X.env = (false, eval e X.env) :: starEach es X.env := by rfl) (hpl : (backTo pos (starEach es X.env)).any (·.1) = false := by rfl) :
    PE X (.Call (.Name nm p) (e :: es) [] pos) (tCallS sp (WE W) t) := by
  obtain ⟨f, fd, F, hm, hk, hb⟩ := h
  exact pe_callS F hr hg hm hk hb (fun σ => passAt tk σ) ha hdb he hpl
end K01

namespace K01
open PySem L2
/-! ### read_rules -/
abbrev RuleL := Str × List Lit
def litsIn (ks : List Key) (l : Str) : List Lit := (litsOf ks (wordsOf l)).getD []
def keepR (ls : List Lit) (eds : List (List Nat)) : List (List Nat) := eds.filter fun r => ls.any (soB r)
/-- the number of the first wrong line, or what all tell -/
def rulesOf (ks : List Key) (k : Nat) (acc : List RuleL) (eds : List (List Nat)) : List Str → Sum Nat (List RuleL × List (List Nat))
  | [] => .inr (acc, eds)
  | l :: r => if acc.length = 4 ∨ litsIn ks l = [] ∨ keepR (litsIn ks l) eds = [] then .inl k else rulesOf ks (k + 1) (acc ++ [(l, litsIn ks l)]) (keepR (litsIn ks l) eds) r
def RulesAt (H : Hp) (q : Addr) (rows : List RuleL) : Prop := ∃ ts : List Addr, H q = some (.lst (ts.map V.ref)) ∧ Paired (fun (t : Addr) (r : RuleL) => ∃ l, H t = some (.tup [.str r.1, .ref l]) ∧ LitsAt H l r.2) ts rows
theorem idxS_lt {a : Str} {ks : List Key} (h : a ∈ ks.map (·.1)) : idxS a ks < ks.length := by
  obtain ⟨n, e⟩ := idxS_at h
  exact (List.getElem?_eq_some_iff.mp e).1
theorem litOf_lt {ks : List Key} {a b c : Str} {l : Lit} (h : litOf ks a b c = some l) : l.1 < ks.length := by
  unfold litOf at h
  split at h
  · rename_i hc
    have := idxS_lt hc.1
    split at h
    · cases h
    · split at h
      · cases h
        exact this
      · cases h
  · cases h
theorem litsIn_lt {ks : List Key} {z : Str} {l : Lit} (h : l ∈ litsIn ks z) : l.1 < ks.length := by
  unfold litsIn litsOf at h
  split at h
  · split at h
    · exact nomatch h
    · have h' : l ∈ (litsOs ks (wordsOf z)).filterMap id := h
      obtain ⟨o, ho, e⟩ := List.mem_filterMap.mp h'
      unfold litsOs at ho
      obtain ⟨i, _, rfl⟩ := List.mem_map.mp ho
      exact litOf_lt e
  · exact nomatch h
theorem litsIn_len {ks : List Key} {z : Str} : (litsIn ks z).length ≤ 3 := by
  unfold litsIn litsOf
  split
  · rename_i hf
    split
    · exact Nat.zero_le _
    · show ((litsOs ks (wordsOf z)).filterMap id).length ≤ 3
      refine Nat.le_trans (List.length_filterMap_le _ _) ?_
      unfold litsOs
      rw [List.length_map, List.length_range]
      unfold formB at hf
      rw [Bool.and_eq_true, Bool.and_eq_true] at hf
      have := of_decide_eq_true hf.2.1
      omega
  · exact Nat.zero_le _
theorem LitsAt.len {H : Hp} {p : Addr} {ls : List Lit} (h : LitsAt H p ls) : ∃ ts : List Addr, H p = some (.tup (ts.map V.ref)) ∧ ts.length = ls.length := by
  obtain ⟨ts, e, q⟩ := h
  exact ⟨ts, e, Paired.length q⟩
theorem litsAt_upd {H : Hp} {R p : Addr} {xs ys : List V} {ls : List Lit} (hR : H R = some (.lst xs)) (h : LitsAt H p ls) : LitsAt (upd H R (.lst ys)) p ls := by
  obtain ⟨ts, e, q⟩ := h
  refine ⟨ts, by rw [upd_ne (ne_of e hR (by simp))]; exact e, Paired.mapP q fun t l e => ?_⟩
  rw [upd_ne (ne_of e hR (by simp))]
  exact e
theorem RulesAt.keep {H H' : Hp} {q : Addr} {rows : List RuleL} (h : RulesAt H q rows) (s : Same H H') : RulesAt H' q rows := by
  obtain ⟨ts, e, p⟩ := h
  exact ⟨ts, s _ _ e, Paired.mapP p fun t r ⟨l, e1, e2⟩ => ⟨l, s _ _ e1, e2.same s⟩⟩
theorem filter_take {α : Type} {l : List α} {p : α → Bool} {i : Nat} {x : α} (h : l[i]? = some x) : (l.take (i + 1)).filter p = (l.take i).filter p ++ (if p x = true then [x] else []) := by
  rw [take_one h, List.filter_append]
  congr 1
  cases c : p x <;> simp [c]
theorem rules_snoc {H : Hp} {R t l : Addr} {ts : List Addr} {rows : List RuleL} {z : Str} {ls : List Lit} (hR : H R = some (.lst (ts.map V.ref))) (pr : Paired (fun (t : Addr) (r : RuleL) => ∃ l, H t = some (.tup [.str r.1, .ref l]) ∧ LitsAt H l r.2) ts rows) (ht : H t = some (.tup [.str z, .ref l])) (hl : LitsAt H l ls) :
    RulesAt (upd H R (.lst (ts.map V.ref ++ [V.ref t]))) R (rows ++ [(z, ls)]) := by
  refine ⟨ts ++ [t], by rw [upd_same, List.map_append]; rfl, paired_snoc (Paired.mapP pr fun t r ⟨l, e1, e2⟩ => ⟨l, ?_, litsAt_upd hR e2⟩) ⟨l, ?_, litsAt_upd hR hl⟩⟩
  · rw [upd_ne (ne_of e1 hR (by simp))]
    exact e1
  · rw [upd_ne (ne_of ht hR (by simp))]
    exact ht
structure Txt5 (K : PySem.W.Frag) (mg : Str → Option Value) : Prop extends Txt4 K mg where
  mostR : ∃ t, mg "MOST_RULES" = some (.int 4 t)
section
variable {base : Heap} {P : Program} {w : World} {K : PySem.W.Frag} {mg : Str → Option Value}
def spRules (K : PySem.W.Frag) (CB : Addr) : Sp := fun vs H Q E => ∃ (a np sp : Addr) (ls : List Str) (ks : List Key), vs = [.ref a, .ref np, .ref sp] ∧ SqL K H a (ls.map V.str) ∧ ls.length ≤ 1000000 ∧ (∀ l ∈ ls, l.length ≤ 1000000) ∧ TupD H np (namesV ks) ∧ SqT K H sp (sizesV ks) ∧
  ks.length ≤ 3 ∧ (∀ k ∈ ks, k.2 ≤ 3) ∧
  (∀ n : Nat, rulesOf ks ks.length [] (worthsOf (ks.map (·.2))) (ls.drop ks.length) = .inl n → Bad H CB (n : Int) E) ∧
  (∀ rows eds, rulesOf ks ks.length [] (worthsOf (ks.map (·.2))) (ls.drop ks.length) = .inr (rows, eds) → ∀ p q1 q2 H', Same H H' → H' p = some (.tup [.ref q1, .ref q2]) → RulesAt H' q1 rows → RowsAt K H' q2 eds → Q (.ref p) H')
abbrev nRules : List Str := ["lines", "names", "sizes", "rows", "editions", "number", "lits", "worths"]
theorem scRules : FnScope nRules ["lines", "names", "sizes"] (defScope sReadRules) := ⟨rfl, rfl, rfl, by decide +kernel, rfl, by decide +kernel, by decide +kernel⟩
theorem ok_rules {f CB : Addr} {fd : FuncData} (F : Fun K "read_rules" "read_rules" sReadRules f fd) (T : Txt5 K mg) (B : Err P w K mg base CB) (GW : Has P w K mg base "all_worths" 1 ["sizes"] (spWorths K)) (GL : Has P w K mg base "lits_of" 3 ["line", "names", "sizes"] (spLits K)) (GT : Has P w K mg base "truth" 2 ["lits", "worths"] (spTruth K)) :
    FnOk P w K mg base (L2.CX P w) 4 f fd ["lines", "names", "sizes"] (spRules K CB) := by
  refine F.okX scRules (fun vs H Q E h => ?_) (fun cdv A outer s H vs Q E hr h => ?_)
  · obtain ⟨a, np, sp, ls, ks, rfl, _⟩ := h
    rfl
  · obtain ⟨a, np, sp, ls, ks, rfl, hS, hl, hok, hn, hs, k3, kz, kB, kO⟩ := h
    obtain ⟨t4, g4⟩ := T.mostR
    have r1 : Room 1 _ := hr.mono (by decide)
    have r2 : Room 2 _ := hr.mono (by decide)
    refine ⟨_, pss_cons (ps_set (i := 3) scRules.nd rfl (.inl rfl) (pe_lst pa_nil))
      (pss_cons (ps_set (i := 4) scRules.nd rfl (.inl rfl) (pe_has GW r1 (pa_cons (pv 2) pa_nil)))
      (pss_cons (ps_for (passes_of rfl) rfl (pi_range2 (by rfl) T.range (pa_cons (pe_callB call_len_seq (by rfl) T.len PySem.boot_len (pa_cons (pv 1) pa_nil)) (pa_cons (pe_callB call_len_seq (by rfl) T.len PySem.boot_len (pa_cons (pv 0) pa_nil)) pa_nil))) (pg_name (i := 5) scRules.nd rfl (.inl rfl))
        (pss_cons (ps_set (i := 6) scRules.nd rfl (.inr rfl) (pe_has GL hr (pa_cons (pe_ix ix_list (pv 0) (pv 5) (fun _ _ => rfl)) (pa_cons (pv 1) (pa_cons (pv 2) pa_nil)))))
        (pss_cons (ps_setLc (i := 4) (own := [("worths", 7)]) (g := gName 7) rfl scRules.nd rfl rfl rfl (pi_list (pv 4))
            (blkOk_by (N := nRules) (sc := defScope sReadRules) (by decide +kernel)) (fun _ _ _ _ _ => pg_name (i := 7) scRules.nd rfl (Or.inl rfl)) (fun _ _ _ _ _ => pts_one (pt_val (pe_has GT r2 (pa_cons (pv 6) (pa_cons (pv 7) pa_nil)))))
            (fun _ _ _ _ _ => pv 7))
        (pss_cons (ps_if (PW.pt (pw_or (pt_cmpR op_eq (pe_callB call_len_seq (by rfl) T.len PySem.boot_len (pa_cons (pv 3) pa_nil)) (pe_glob (v := .int 4) (by rfl) g4 ⟨_, rfl⟩) (nomark _))
            (pw_or (pt_not (pt_truth (pv 6) (fun _ => rfl))) (pw_or1 (pt_not (pt_truth (pv 4) (fun _ => rfl)))))))
          (pss_one (ps_bad B rfl (takes_of rfl rfl rfl rfl) (hr.mono (by decide)) (pv 5))) pss_nil)
        (pss_one (ps_expr (pe_bm PySem.F.plainAttrs_list PySem.F.slot_list_append PySem.F.type_list_append mt_append (pv 3) (pa_cons (pe_tup (pa_cons (pe_ix ix_list (pv 0) (pv 5) (fun _ _ => rfl)) (pa_cons (pv 6) pa_nil))) pa_nil))))))))
      (pss_one (ps_ret (pe_tup (pa_cons (pv 3) (pa_cons (pv 4) pa_nil))))))), ?_⟩
    have esz : sizesV ks = rowV (ks.map (·.2)) := by
      unfold sizesV rowV
      rw [List.map_map]
      rfl
    have e1 : (namesV ks).length = ks.length := by
      unfold namesV
      rw [List.length_map]
    have kz' : ∀ s ∈ ks.map (·.2), s ≤ 3 := fun s hs => by
      obtain ⟨k, hk, rfl⟩ := List.mem_map.mp hs
      exact kz k hk
    refine ⟨Nat.zero_le _, fun R nR => ?_⟩
    have sR : Same H (upd H R (.lst [])) := same_upd nR
    refine ⟨_, rfl, sp, ks.map (·.2), rfl, by rw [← esz]; exact sqT_same sR hs, by rw [List.length_map]; exact k3, kz', fun H1 D0 s1 fD hD => ?_⟩
    have s01 := sR.trans s1
    have nDR : D0 ≠ R := fun e => by
      rw [e, upd_same] at fD
      cases fD
    have w27 : (worthsOf (ks.map (·.2))).length ≤ 27 := by
      have := worths_small (ss := ks.map (·.2)) (by rw [List.length_map]; exact k3) kz' (ks.map (·.2)).length
      rw [List.take_length] at this
      exact this
    refine ⟨_, rfl, np, _, rfl, .inr (hn.same s01).sq, _, rfl, a, _, rfl, .inl (s01.seq hS), _, _, rfl, ⟨?_, ?_, ?_, ?_⟩, for_range (lo := ((namesV ks).length : Int)) (n := (((ls.map V.str).length : Int) - ((namesV ks).length : Int)).toNat) (fun i σ H2 => ∃ (D : Addr) (rows : List RuleL) (eds : List (List Nat)) (v5 v6 : Option V),
      σ = [some (.ref a), some (.ref np), some (.ref sp), some (.ref R), some (.ref D), v5, v6, none] ∧ Same H H2 ∧ RulesAt H2 R rows ∧ RowsAt K H2 D eds ∧ D ≠ R ∧ rows.length ≤ 4 ∧ eds.length ≤ 27 ∧ (∀ r ∈ eds, r.length = ks.length) ∧
      rulesOf ks ks.length [] (worthsOf (ks.map (·.2))) (ls.drop ks.length) = rulesOf ks (ks.length + i) rows eds (ls.drop (ks.length + i)))
      ⟨D0, [], _, none, none, rfl, s01, ⟨[], s1 _ _ upd_same, .nil⟩, hD, nDR, Nat.zero_le _, w27, fun r hr => by rw [worths_row hr, List.length_map], rfl⟩ ?_ ?_⟩
    · rw [e1]
      omega
    · rw [e1]
      omega
    · rw [List.length_map]
      omega
    · rw [List.length_map]
      omega
    · rintro i σ H2 hi ⟨D, rows, eds, v5, v6, rfl, s2, hR, hD2, nDR2, lr, le, rl, heq⟩
      rw [e1, List.length_map] at hi
      have en : ((namesV ks).length : Int) + (i : Int) = ((ks.length + i : Nat) : Int) := by
        rw [e1]
        omega
      rw [en]
      have hlt : ks.length + i < ls.length := by omega
      obtain ⟨l, hl1⟩ : ∃ l, ls[ks.length + i]? = some l := ⟨_, List.getElem?_eq_getElem hlt⟩
      have ed : ls.drop (ks.length + i) = l :: ls.drop (ks.length + i + 1) := by
        obtain ⟨hlt, hv⟩ := List.getElem?_eq_some_iff.mp hl1
        rw [List.drop_eq_getElem_cons hlt, hv]
      rw [ed] at heq
      have hat : atI (ls.map V.str) ((ks.length + i : Nat) : Int) = some (.str l) := atI_nat (by rw [List.getElem?_map, hl1]; rfl)
      have lm := hok l (List.mem_of_getElem? hl1)
      have hstep : rulesOf ks ks.length [] (worthsOf (ks.map (·.2))) (ls.drop ks.length) = if rows.length = 4 ∨ litsIn ks l = [] ∨ keepR (litsIn ks l) eds = [] then .inl (ks.length + i) else rulesOf ks (ks.length + i + 1) (rows ++ [(l, litsIn ks l)]) (keepR (litsIn ks l) eds) (ls.drop (ks.length + i + 1)) := heq
      refine ⟨_, rfl, _, rfl, a, _, _, .str l, rfl, rfl, s2.seq hS, hat, _, rfl, _, rfl, np, sp, l, ks, rfl, hn.same s2, sqT_same s2 hs, lm, fun H3 p s3 hp => ?_⟩
      have hp' : LitsAt H3 p (litsIn ks l) := hp
      have s23 := s2.trans s3
      obtain ⟨ts, hD3, prD⟩ := hD2.same s3
      have lts : ts.length = eds.length := Paired.length prD
      dsimp only [tSeq, tAsg, tLc, iList, List.map]
      refine ⟨_, rfl, D, rfl, ⟨_, SqL.of hD3⟩, fun E2 nE => ?_⟩
      refine lc_list (K := K) (xs := ts.map V.ref) (fun j H' => Same H3 H' ∧ ∃ ts', H' E2 = some (.lst (ts'.map V.ref)) ∧ Paired (fun (t : Addr) (r : List Nat) => SqT K H' t (rowV r)) ts' (keepR (litsIn ks l) (eds.take j)) ∧ ts'.length ≤ j)
        ⟨same_upd nE, [], upd_same, .nil, Nat.zero_le _⟩ (fun j H' _ z => SqL.of (z.1 _ _ hD3)) ?_ ?_
      · rintro j x H' hx ⟨s4, ts', hE, pr', lt'⟩
        rw [List.getElem?_map] at hx
        obtain ⟨t, ht, rfl⟩ := Option.map_eq_some_iff.mp hx
        obtain ⟨r, hr1, hr2⟩ := paired_get prD ht
        have jlt : j < ts.length := (List.getElem?_eq_some_iff.mp ht).1
        have rlen := rl r (List.mem_of_getElem? hr1)
        refine ⟨rfl, _, rfl, _, rfl, p, t, litsIn ks l, r, rfl, hp'.same s4, sqT_same s4 hr2, fun l1 hl1 => by rw [rlen]; exact litsIn_lt hl1, Nat.le_trans litsIn_len (by decide), fun H5 s5 => ⟨_, rfl, ?_⟩⟩
        have kp : keepR (litsIn ks l) (eds.take (j + 1)) = keepR (litsIn ks l) (eds.take j) ++ (if (litsIn ks l).any (soB r) = true then [r] else []) := filter_take hr1
        refine ite2 (fun hb => ?_) (fun hb => ?_)
        · have hE5 := s5 _ _ hE
          refine ⟨_, rfl, _, hE5, by rw [List.length_map]; exact small1000 (by omega), same_new (s4.trans s5) nE, ts' ++ [t], by rw [upd_same, List.map_append]; rfl, ?_, by rw [List.length_append]; show _ + 1 ≤ _; omega⟩
          rw [kp, if_pos hb]
          exact paired_snoc (Paired.mapP pr' fun t l e => sqT_upd hE5 (sqT_same s5 e)) (sqT_upd hE5 (sqT_same (s4.trans s5) hr2))
        · refine ⟨s4.trans s5, ts', s5 _ _ hE, ?_, by omega⟩
          rw [kp, if_neg hb, List.append_nil]
          exact Paired.mapP pr' fun t l e => sqT_same s5 e
      · rintro H4 ⟨s4, ts', hE, pr', lt'⟩
        rw [List.length_map, lts, List.take_length] at pr'
        have s24 := s23.trans s4
        have hR4 := (hR.keep s3).keep s4
        have hp4 := hp'.same s4
        obtain ⟨tr, hRr, prR⟩ := hR4
        have ltr : tr.length = rows.length := Paired.length prR
        obtain ⟨tl, htl, ltl⟩ := hp4.len
        have lte : ts'.length = (keepR (litsIn ks l) eds).length := Paired.length pr'
        have bad : (rows.length = 4 ∨ litsIn ks l = [] ∨ keepR (litsIn ks l) eds = []) → Bad H4 CB ((ks.length + i : Nat) : Int) E := fun c => (kB (ks.length + i) (by rw [hstep, if_pos c])).same s24
        refine ⟨_, rfl, R, _, rfl, .inl (SqL.of hRr), rfl, _, rfl, ?_⟩
        refine ite2 (fun c => ?_) (fun c => ?_)
        · refine ⟨_, rfl, bad_made B (bad (.inl ?_))⟩
          have := V.int.inj (of_decide_eq_true c)
          rw [List.length_map] at this
          omega
        have c4 : rows.length ≠ 4 := fun q => c (decide_eq_true (by rw [List.length_map, ltr, q]; rfl))
        refine ⟨_, rfl, _, .inr (.inl ⟨_, SqT.of htl, rfl⟩), ?_⟩
        refine ite2 (fun c => ?_) (fun c => ?_)
        · refine ⟨_, rfl, bad_made B (bad (.inr (.inl ?_)))⟩
          cases q : litsIn ks l with
          | nil => rfl
          | cons x y =>
            rw [q] at ltl
            cases tl with
            | nil => cases ltl
            | cons x' y' => cases (show (!(!false)) = true from c)
        have cl : litsIn ks l ≠ [] := fun q => c (by
          rw [q] at ltl
          cases tl with
          | nil => rfl
          | cons x' y' => cases ltl)
        refine ⟨_, rfl, _, .inl ⟨_, SqL.of hE, rfl⟩, ?_⟩
        refine ite2 (fun c => ?_) (fun c => ?_)
        · refine ⟨_, rfl, bad_made B (bad (.inr (.inr ?_)))⟩
          cases q : keepR (litsIn ks l) eds with
          | nil => rfl
          | cons x y =>
            rw [q] at lte
            cases ts' with
            | nil => cases lte
            | cons x' y' => cases (show (!(!false)) = true from c)
        have ce : keepR (litsIn ks l) eds ≠ [] := fun q => c (by
          rw [q] at lte
          cases ts' with
          | nil => rfl
          | cons x' y' => cases lte)
        refine ⟨_, rfl, .inl ⟨rfl, _, SqL.of hRr⟩, _, rfl, _, rfl, a, _, _, .str l, rfl, rfl, s24.seq hS, hat, _, rfl, (by show 2 ≤ sizeLine; decide), fun t nt => ?_⟩
        have st := same_upd (o := .tup [.str l, .ref p]) nt
        refine ⟨R, _, _, rfl, rfl, st _ _ hRr, by rw [List.length_map]; exact small1000 (by omega), ?_⟩
        have nER : E2 ≠ R := fun e => by
          rw [e, s3 _ _ (hR.choose_spec.1)] at nE
          cases nE
        refine ⟨E2, rows ++ [(l, litsIn ks l)], keepR (litsIn ks l) eds, _, _, rfl, same_new (s24.trans st) nR, ?_, ?_, nER, ?_, ?_, ?_, ?_⟩
        · exact rules_snoc (st _ _ hRr) (Paired.mapP prR fun t r ⟨l, e1, e2⟩ => ⟨l, st _ _ e1, e2.same st⟩) upd_same (hp4.same st)
        · refine ⟨ts', by rw [upd_ne nER]; exact st _ _ hE, Paired.mapP pr' fun t l e => sqT_upd (st _ _ hRr) (sqT_same st e)⟩
        · rw [List.length_append]
          show _ + 1 ≤ 4
          omega
        · exact Nat.le_trans (List.length_filter_le _ _) le
        · exact fun r hr => rl r (List.mem_filter.mp hr).1
        · rw [hstep, if_neg (fun q => by
            rcases q with q | q | q
            · exact c4 q
            · exact cl q
            · exact ce q)]
          rfl
    · rintro σ H2 ⟨D, rows, eds, v5, v6, rfl, s2, hR, hD2, nDR2, lr, le, rl, heq⟩
      rw [e1, List.length_map] at heq
      have ed : ls.drop (ks.length + (((ls.length : Int) - (ks.length : Int)).toNat)) = [] := List.drop_of_length_le (by omega)
      rw [ed] at heq
      refine ⟨_, rfl, _, rfl, (by show 2 ≤ sizeLine; decide), fun p np2 => ?_⟩
      exact kO rows eds heq p R D _ (s2.trans (same_upd np2)) upd_same (hR.keep (same_upd np2)) (hD2.same (same_upd np2))
end
end K01

namespace K01
open L2 PySem PySem.Spec
abbrev sRInit : Stmt := inClass (top 37) 0
abbrev sRText : Stmt := inClass (top 37) 1
abbrev sSInit : Stmt := inClass (top 43) 0
abbrev sSText : Stmt := inClass (top 43) 1
abbrev sSNames : Stmt := inClass (top 43) 2
abbrev sSSizes : Stmt := inClass (top 43) 3
abbrev sSRules : Stmt := inClass (top 43) 4
abbrev sSEds : Stmt := inClass (top 43) 5
abbrev sSEq : Stmt := inClass (top 43) 6
/-! ### Rule -/
def rf (p : V) (z : V) (l : V) : List (Str × V) := putF "lits" l (putF "_text" z (putF "_sheet" p []))
structure RuleT (K : PySem.W.Frag) (mg : Str → Option Value) (CR : Addr) : Prop where
  cl : Cls K CR
  gR : mg "Rule" = some (.ref CR)
  n1 : NoAttr K CR "_sheet"
  n2 : NoAttr K CR "_text"
  n3 : NoAttr K CR "lits"
section
variable {base : Heap} {P : Program} {w : World} {K : PySem.W.Frag} {mg : Str → Option Value}
theorem putF_len {f : Str} {y : V} : ∀ fs : List (Str × V), (putF f y fs).length ≤ fs.length + 1
  | [] => Nat.le_refl _
  | (g, x) :: r => by
    show (if g = f then (g, y) :: r else (g, x) :: putF f y r).length ≤ r.length + 1 + 1
    by_cases h : g = f
    · rw [if_pos h]
      exact Nat.le_succ _
    · rw [if_neg h]
      exact Nat.succ_le_succ (putF_len r)
def spRI (CR : Addr) : Sp := fun vs H Q _ => ∃ (p dx : Addr) (s t l : V), vs = [.ref p, s, t, l] ∧ H p = some (.ins CR dx []) ∧ Q .non (upd H p (.ins CR dx (rf s t l)))
theorem scRInit : FnScope ["self", "sheet", "text", "lits"] ["self", "sheet", "text", "lits"] (defScope sRInit) := ⟨rfl, rfl, rfl, by decide +kernel, rfl, by decide +kernel, by decide +kernel⟩
theorem ok_rinit {f CR : Addr} {fd : FuncData} (F : Fun K "__init__" "Rule.__init__" sRInit f fd) (T : RuleT K mg CR) : FnOk P w K mg base CX0 1 f fd ["self", "sheet", "text", "lits"] (spRI CR) := by
  refine F.ok scRInit (fun vs H Q E h => ?_) (fun cdv A outer s H vs Q E hr h => ?_)
  · obtain ⟨p, dx, s, t, l, rfl, _⟩ := h
    rfl
  · obtain ⟨p, dx, s, t, l, rfl, hp, k⟩ := h
    refine ⟨_, pss_cons (ps_fld (pv 0) (pv 1) rfl) (pss_cons (ps_fld (pv 0) (pv 2) rfl) (pss_one (ps_fld (pv 0) (pv 3) rfl))), ?_⟩
    have l1 := putF_len (f := "_sheet") (y := s) []
    have l2 := putF_len (f := "_text") (y := t) (putF "_sheet" s [])
    refine ⟨_, rfl, _, rfl, p, CR, dx, [], rfl, hp, T.cl, T.n1, by decide, ?_⟩
    refine ⟨_, rfl, _, rfl, p, CR, dx, _, rfl, upd_same, T.cl, T.n2, Nat.lt_of_le_of_lt l1 (by decide), ?_⟩
    refine ⟨_, rfl, _, rfl, p, CR, dx, _, rfl, upd_same, T.cl, T.n3, Nat.lt_of_le_of_lt l2 (Nat.lt_of_le_of_lt (Nat.succ_le_succ l1) (by decide)), ?_⟩
    show Q .non _
    rw [upd_upd, upd_upd]
    exact k
/-- a Rule's __init__, as makers know it -/
structure RuleC (P : Program) (w : World) (K : PySem.W.Frag) (mg : Str → Option Value) (base : Heap) (CR : Addr) : Prop extends RuleT K mg CR where
  init : ∃ (fI : Addr) (fd : FuncData), Mk K CR fI ∧ FnOk P w K mg base CX0 1 fI fd ["self", "sheet", "text", "lits"] (spRI CR) ∧ Binds K fd ["self", "sheet", "text", "lits"] []
/-! ### Sheet -/
def sf (z : Str) (n s e r : Addr) : List (Str × V) := putF "_rules" (.ref r) (putF "_editions" (.ref e) (putF "_sizes" (.ref s) (putF "_names" (.ref n) (putF "_text" (.str z) []))))
structure SheetT (K : PySem.W.Frag) (mg : Str → Option Value) (C : Addr) : Prop where
  cl : Cls K C
  gS : mg "Sheet" = some (.ref C)
  n1 : NoAttr K C "_text"
  n2 : NoAttr K C "_names"
  n3 : NoAttr K C "_sizes"
  n4 : NoAttr K C "_editions"
  n5 : NoAttr K C "_rules"
  tuple : mg "tuple" = none
  isinst : mg "isinstance" = none
  len : mg "len" = none
  word : ∃ t, mg "RULE_WORD" = some (.str "rule " t)
def readS (z : Str) : Sum Nat (List Key × List RuleL × List (List Nat)) :=
  match rulesOf (keysOf [] ((linesOf z).take 3)) (keysOf [] ((linesOf z).take 3)).length [] (worthsOf ((keysOf [] ((linesOf z).take 3)).map (·.2))) ((linesOf z).drop (keysOf [] ((linesOf z).take 3)).length) with
  | .inl n => .inl n
  | .inr (rows, eds) => .inr (keysOf [] ((linesOf z).take 3), rows, eds)
def EdsAt (K : PySem.W.Frag) (H : Hp) (e : Addr) (eds : List (List Nat)) : Prop := ∃ ts : List Addr, H e = some (.tup (ts.map V.ref)) ∧ Paired (fun (t : Addr) (r : List Nat) => SqT K H t (rowV r)) ts eds
def RuleAt (CR p : Addr) (H : Hp) (t : Addr) (r : RuleL) : Prop := ∃ dx l : Addr, H t = some (.ins CR dx (rf (.ref p) (.str (cutS r.1 (some 5) none)) (.ref l))) ∧ LitsAt H l r.2
def RulesOb (CR p : Addr) (H : Hp) (q : Addr) (rows : List RuleL) : Prop := ∃ ts : List Addr, H q = some (.tup (ts.map V.ref)) ∧ Paired (RuleAt CR p H) ts rows
def spSI (K : PySem.W.Frag) (C CB CR : Addr) : Sp := fun vs H Q E => ∃ (p dx : Addr) (x : V), vs = [.ref p, x] ∧ H p = some (.ins C dx []) ∧
  ((NotStr K H x ∧ Bad H CB (-1) E) ∨ ∃ z : Str, x = .str z ∧ z.length ≤ 100000 ∧ (∀ n : Nat, readS z = .inl n → Bad H CB (n : Int) E) ∧
    (∀ ks rows eds, readS z = .inr (ks, rows, eds) → ∀ (H' : Hp) (n s e r : Addr), Keep p H H' → H' p = some (.ins C dx (sf z n s e r)) → TupD H' n (namesV ks) → H' s = some (.tup (sizesV ks)) → EdsAt K H' e eds → RulesOb CR p H' r rows → Q .non H'))
theorem split_count (z y : Str) (hy : (tx y).length = 1) : (Txt.split z y).length ≤ z.length + 1 := by
  have e : TL.tl (Str.join y (Txt.split z y)) = TL.tl z := by rw [StrLaws.join_split]
  rw [TL.tl_join] at e
  have count : ∀ ps : List (List Nat), ps.length ≤ (TL.joinL (TL.tl y) ps).length + 1 := by
    intro ps
    induction ps with
    | nil => exact Nat.zero_le _
    | cons p r ih =>
      cases r with
      | nil => exact Nat.succ_le_succ (Nat.zero_le _)
      | cons q l =>
        show (q :: l).length + 1 ≤ (p ++ (TL.tl y ++ TL.joinL (TL.tl y) (q :: l))).length + 1
        rw [List.length_append, List.length_append]
        have : (TL.tl y).length = 1 := hy
        omega
  have := count ((Txt.split z y).map TL.tl)
  rw [e, List.length_map] at this
  rw [TL.len_tl z]
  exact this
theorem keysOf_len : ∀ {ls : List Str} {acc : List Key}, (keysOf acc ls).length ≤ acc.length + ls.length
  | [], acc => Nat.le_refl _
  | l :: r, acc => by
    show (match keyOf (wordsOf l) with | none => acc | some p => if p.1 ∈ acc.map (fun q : Key => q.1) then acc else keysOf (acc ++ [p]) r).length ≤ _
    cases keyOf (wordsOf l) with
    | none => exact Nat.le_add_right _ _
    | some p =>
      show (if p.1 ∈ acc.map (fun q : Key => q.1) then acc else keysOf (acc ++ [p]) r).length ≤ _
      split
      · exact Nat.le_add_right _ _
      · have := keysOf_len (ls := r) (acc := acc ++ [p])
        rw [List.length_append] at this
        rw [List.length_cons]
        simp only [List.length_cons, List.length_nil] at this
        omega
theorem keyOf_size {ws : List Str} {k : Key} (h : keyOf ws = some k) : k.2 = 2 ∨ k.2 = 3 := by
  unfold keyOf at h
  split at h
  · split at h
    · cases h
      split
      · exact .inl rfl
      · exact .inr rfl
    · cases h
  · cases h
theorem keysOf_size : ∀ {ls : List Str} {acc : List Key}, (∀ k ∈ acc, k.2 = 2 ∨ k.2 = 3) → ∀ k ∈ keysOf acc ls, k.2 = 2 ∨ k.2 = 3
  | [], acc, h => h
  | l :: r, acc, h => by
    show ∀ k ∈ (match keyOf (wordsOf l) with | none => acc | some p => if p.1 ∈ acc.map (fun q : Key => q.1) then acc else keysOf (acc ++ [p]) r), _
    cases e : keyOf (wordsOf l) with
    | none => exact h
    | some p =>
      show ∀ k ∈ (if p.1 ∈ acc.map (fun q : Key => q.1) then acc else keysOf (acc ++ [p]) r), _
      split
      · exact h
      · refine keysOf_size (ls := r) fun k hk => ?_
        rcases List.mem_append.mp hk with hk | hk
        · exact h k hk
        · rw [List.mem_singleton.mp hk]
          exact keyOf_size e
theorem rulesOf_texts {ks : List Key} : ∀ {ls : List Str} {k : Nat} {acc rows : List RuleL} {e0 eds : List (List Nat)}, rulesOf ks k acc e0 ls = .inr (rows, eds) → rows.map (·.1) = acc.map (·.1) ++ ls
  | [], k, acc, rows, e0, eds, h => by
    cases h
    rw [List.append_nil]
  | l :: r, k, acc, rows, e0, eds, h => by
    have h' : (if acc.length = 4 ∨ litsIn ks l = [] ∨ keepR (litsIn ks l) e0 = [] then Sum.inl k else rulesOf ks (k + 1) (acc ++ [(l, litsIn ks l)]) (keepR (litsIn ks l) e0) r) = .inr (rows, eds) := h
    split at h'
    · cases h'
    · rw [rulesOf_texts h', List.map_append, List.append_assoc]
      rfl
theorem keep_of {p : Addr} {H H' : Hp} {o u : HO} {x : Addr} (k : Keep p H H') (hp : H p = some u) (h : H x = some o) (no : o ≠ u) : H' x = some o := k _ _ (ne_of h hp no) h
theorem sqT_keep {K : PySem.W.Frag} {p : Addr} {H H' : Hp} {C dx : Addr} {fs : List (Str × V)} {t : Addr} {xs : List V} (k : Keep p H H') (hp : H p = some (.ins C dx fs)) (h : SqT K H t xs) : SqT K H' t xs := by
  rcases h with (h | ⟨o, h⟩) | h
  · exact .inl (.inl (keep_of k hp h (by simp)))
  · exact .inl (.inr ⟨o, keep_of k hp h (by simp)⟩)
  · exact .inr h
theorem litsAt_keep {p : Addr} {H H' : Hp} {C dx : Addr} {fs : List (Str × V)} {t : Addr} {ls : List Lit} (k : Keep p H H') (hp : H p = some (.ins C dx fs)) (h : LitsAt H t ls) : LitsAt H' t ls := by
  obtain ⟨ts, e, q⟩ := h
  exact ⟨ts, keep_of k hp e (by simp), Paired.mapP q fun t l e => keep_of k hp e (by simp)⟩
theorem rulesAt_keep {p : Addr} {H H' : Hp} {C dx : Addr} {fs : List (Str × V)} {t : Addr} {rows : List RuleL} (k : Keep p H H') (hp : H p = some (.ins C dx fs)) (h : RulesAt H t rows) : RulesAt H' t rows := by
  obtain ⟨ts, e, q⟩ := h
  exact ⟨ts, keep_of k hp e (by simp), Paired.mapP q fun t r ⟨l, e1, e2⟩ => ⟨l, keep_of k hp e1 (by simp), litsAt_keep k hp e2⟩⟩
theorem rowsAt_keep {K : PySem.W.Frag} {p : Addr} {H H' : Hp} {C dx : Addr} {fs : List (Str × V)} {t : Addr} {rows : List (List Nat)} (k : Keep p H H') (hp : H p = some (.ins C dx fs)) (h : RowsAt K H t rows) : RowsAt K H' t rows := by
  obtain ⟨ts, e, q⟩ := h
  exact ⟨ts, keep_of k hp e (by simp), Paired.mapP q fun t r e => sqT_keep k hp e⟩
theorem ruleAt_same {CR p : Addr} {H H' : Hp} {t : Addr} {r : RuleL} (s : Same H H') (h : RuleAt CR p H t r) : RuleAt CR p H' t r := by
  obtain ⟨dx, l, e, q⟩ := h
  exact ⟨dx, l, s _ _ e, q.same s⟩
theorem ruleAt_upd {CR p : Addr} {H : Hp} {L t : Addr} {xs ys : List V} {r : RuleL} (hL : H L = some (.lst xs)) (h : RuleAt CR p H t r) : RuleAt CR p (upd H L (.lst ys)) t r := by
  obtain ⟨dx, l, e, q⟩ := h
  exact ⟨dx, l, by rw [upd_ne (ne_of e hL (by simp))]; exact e, litsAt_upd hL q⟩
abbrev nSInit : List Str := ["self", "text", "lines", "names", "sizes", "rows", "editions", "line", "lits"]
theorem scSInit : FnScope nSInit ["self", "text"] (defScope sSInit) := ⟨rfl, rfl, rfl, by decide +kernel, rfl, by decide +kernel, by decide +kernel⟩
theorem ok_sinit {f C CB CR : Addr} {fd : FuncData} (F : Fun K "__init__" "Sheet.__init__" sSInit f fd) (T : SheetT K mg C) (TR : RuleC P w K mg base CR) (GL : HasX P w K mg base "lines_of" 3 ["text"] (spLines K CB)) (GK : Has P w K mg base "read_keys" 3 ["lines"] (spRKeys K)) (GR : HasX P w K mg base "read_rules" 4 ["lines", "names", "sizes"] (spRules K CB)) :
    FnOk P w K mg base (L2.CX P w) 5 f fd ["self", "text"] (spSI K C CB CR) := by
  refine F.okX scSInit (fun vs H Q E h => ?_) (fun cdv A outer s H vs Q E hr h => ?_)
  · obtain ⟨p, dx, x, rfl, _⟩ := h
    rfl
  · obtain ⟨p, dx, x, rfl, hp, h⟩ := h
    obtain ⟨fI, fdI, MR, FR, bR⟩ := TR.init
    obtain ⟨tw, gw⟩ := T.word
    have r3 : Room 3 _ := hr.mono (by decide)
    have r2 : Room 2 _ := hr.mono (by decide)
    refine ⟨_, pss_cons (ps_set (i := 2) scSInit.nd rfl (.inl rfl) (pe_hasX GL (takes_of rfl rfl rfl rfl) r3 (pa_cons (pv 1) pa_nil)))
      (pss_cons (ps_asg (pe_has GK r3 (pa_cons (pv 2) pa_nil)) (pg_tup rfl (pgs_cons (pg_name (i := 3) scSInit.nd rfl (.inl rfl)) (pgs_cons (pg_name (i := 4) scSInit.nd rfl (.inl rfl)) pgs_nil))))
      (pss_cons (ps_asg (pe_hasX GR (takes_of rfl rfl rfl rfl) hr (pa_cons (pv 2) (pa_cons (pv 3) (pa_cons (pv 4) pa_nil)))) (pg_tup rfl (pgs_cons (pg_name (i := 5) scSInit.nd rfl (.inl rfl)) (pgs_cons (pg_name (i := 6) scSInit.nd rfl (.inl rfl)) pgs_nil))))
      (pss_cons (ps_fld (pv 0) (pv 1) rfl) (pss_cons (ps_fld (pv 0) (pv 3) rfl) (pss_cons (ps_fld (pv 0) (pv 4) rfl)
      (pss_cons (ps_fld (pv 0) (pe_callTy call_tuple_of (by rfl) T.tuple (by decide +kernel) (pa_cons (pv 6) pa_nil)) rfl)
      (pss_one (ps_fld (pv 0) (pe_callTy call_tuple_of (by rfl) T.tuple (by decide +kernel) (pa_cons (pe_lc (own := [("line", 7), ("lits", 8)]) (g := gTup K 2 (gCons (gName 7) (gCons (gName 8) gNil))) (tt := tYes) rfl scSInit.nd (pi_list (pv 5))
          (blkOk_by (N := nSInit) (sc := defScope sSInit) (by decide +kernel)) (fun _ _ _ _ _ => pg_tup rfl (pgs_cons (pg_name (i := 7) scSInit.nd rfl (Or.inl rfl)) (pgs_cons (pg_name (i := 8) scSInit.nd rfl (Or.inl rfl)) pgs_nil))) (fun _ _ _ _ _ => pts_nil)
          (fun _ _ _ _ _ => pe_make (dvs := []) (ds := []) MR FR r2 rfl TR.gR bR .nil pass0 (pa_cons (pv 0) (pa_cons (pe_slice (r := rSlS) sl_str (pv 7) (po_some (pe_callB call_len_str (by rfl) T.len PySem.boot_len (pa_cons (pe_glob (v := .str "rule ") (by rfl) gw ⟨_, rfl⟩) pa_nil))) po_none) (pa_cons (pv 8) pa_nil))))) pa_nil)) rfl)))))))), ?_⟩
    rcases h with ⟨ns, bad⟩ | ⟨z, rfl, hz, kB, kO⟩
    · exact ⟨_, rfl, x, rfl, .inr ⟨ns, bad⟩⟩
    have cnt : (linesOf z).length ≤ 1000000 := Nat.le_trans (split_count z nl (by decide +kernel)) (by omega)
    have lens : ∀ l ∈ linesOf z, l.length ≤ 1000000 := fun l hl => Nat.le_trans (split_mem hl).2 (Nat.le_trans hz (by decide))
    refine ⟨_, rfl, _, rfl, .inl ⟨z, rfl, Nat.le_trans hz (by decide), fun a H1 na s1 h1 => ?_⟩⟩
    refine ⟨_, rfl, a, linesOf z, rfl, SqL.of h1, lens, fun H2 p2 q1 q2 s2 hp2 hq1 hq2 => ?_⟩
    refine ⟨p2, _, rfl, SqT.of hp2, rfl, .ref q1, _, rfl, .ref q2, _, rfl, rfl, ?_⟩
    generalize hks : keysOf [] ((linesOf z).take 3) = ks at hq1 hq2
    have k3 : ks.length ≤ 3 := by
      have := keysOf_len (ls := (linesOf z).take 3) (acc := [])
      rw [hks, List.length_take] at this
      simp only [List.length_nil] at this
      omega
    have kz : ∀ k ∈ ks, k.2 = 2 ∨ k.2 = 3 := by
      rw [← hks]
      exact keysOf_size fun k hk => nomatch hk
    have eS : readS z = match rulesOf ks ks.length [] (worthsOf (ks.map (·.2))) ((linesOf z).drop ks.length) with | .inl n => .inl n | .inr (rows, eds) => .inr (ks, rows, eds) := by
      unfold readS
      rw [hks]
    refine ⟨_, rfl, _, rfl, _, rfl, a, q1, q2, linesOf z, ks, rfl, SqL.of (s2 _ _ h1), cnt, lens, hq1, SqT.of hq2, k3, fun k hk => by have := kz k hk; omega, fun n e => (kB n (by rw [eS, e])).same (s1.trans s2), fun rows eds eqR p3 R E1 H3 s3 hp3 hR hE => ?_⟩
    refine ⟨p3, _, rfl, SqT.of hp3, rfl, .ref R, _, rfl, .ref E1, _, rfl, rfl, ?_⟩
    have s03 := (s1.trans s2).trans s3
    have hpp := s03 _ _ hp
    have l1 := putF_len (f := "_text") (y := .str z) []
    have l2 := putF_len (f := "_names") (y := .ref q1) (putF "_text" (.str z) [])
    have l3 := putF_len (f := "_sizes") (y := .ref q2) (putF "_names" (.ref q1) (putF "_text" (.str z) []))
    refine ⟨_, rfl, _, rfl, p, C, dx, [], rfl, hpp, T.cl, T.n1, by decide, ?_⟩
    refine ⟨_, rfl, _, rfl, p, C, dx, _, rfl, upd_same, T.cl, T.n2, Nat.lt_of_le_of_lt l1 (by decide), ?_⟩
    refine ⟨_, rfl, _, rfl, p, C, dx, _, rfl, upd_same, T.cl, T.n3, Nat.lt_of_le_of_lt l2 (Nat.lt_of_le_of_lt (Nat.succ_le_succ l1) (by decide)), ?_⟩
    rw [upd_upd, upd_upd]
    have k6 : Keep p H3 (upd H3 p (.ins C dx (putF "_sizes" (.ref q2) (putF "_names" (.ref q1) (putF "_text" (.str z) []))))) := Keep.put
    have hp6 : (upd H3 p (.ins C dx (putF "_sizes" (.ref q2) (putF "_names" (.ref q1) (putF "_text" (.str z) []))))) p = some (.ins C dx (putF "_sizes" (.ref q2) (putF "_names" (.ref q1) (putF "_text" (.str z) [])))) := upd_same
    generalize (upd H3 p (.ins C dx (putF "_sizes" (.ref q2) (putF "_names" (.ref q1) (putF "_text" (.str z) []))))) = H6 at k6 hp6
    obtain ⟨te, hE6, prE⟩ := rowsAt_keep k6 hpp hE
    refine ⟨_, rfl, E1, _, rfl, .inl ⟨SqL.of hE6, fun e nE => ?_⟩⟩
    have s7 := same_upd (o := .tup (te.map V.ref)) nE
    have hp7 := s7 _ _ hp6
    have ll3 : (putF "_sizes" (.ref q2) (putF "_names" (.ref q1) (putF "_text" (.str z) []))).length ≤ 3 := Nat.le_trans l3 (Nat.succ_le_succ (Nat.le_trans l2 (Nat.succ_le_succ l1)))
    have l4 := putF_len (f := "_editions") (y := .ref e) (putF "_sizes" (.ref q2) (putF "_names" (.ref q1) (putF "_text" (.str z) [])))
    refine ⟨_, rfl, p, C, dx, _, rfl, hp7, T.cl, T.n4, Nat.lt_of_le_of_lt ll3 (by decide), ?_⟩
    have k38 : Keep p H3 (upd (upd H6 e (.tup (te.map V.ref))) p (.ins C dx (putF "_editions" (.ref e) (putF "_sizes" (.ref q2) (putF "_names" (.ref q1) (putF "_text" (.str z) [])))))) := (k6.trans (K01.Same.keep s7)).trans Keep.put
    have k78 : Keep p (upd H6 e (.tup (te.map V.ref))) (upd (upd H6 e (.tup (te.map V.ref))) p (.ins C dx (putF "_editions" (.ref e) (putF "_sizes" (.ref q2) (putF "_names" (.ref q1) (putF "_text" (.str z) [])))))) := Keep.put
    have hp8 : (upd (upd H6 e (.tup (te.map V.ref))) p (.ins C dx (putF "_editions" (.ref e) (putF "_sizes" (.ref q2) (putF "_names" (.ref q1) (putF "_text" (.str z) [])))))) p = some (.ins C dx (putF "_editions" (.ref e) (putF "_sizes" (.ref q2) (putF "_names" (.ref q1) (putF "_text" (.str z) []))))) := upd_same
    have hE8 : EdsAt K (upd (upd H6 e (.tup (te.map V.ref))) p (.ins C dx (putF "_editions" (.ref e) (putF "_sizes" (.ref q2) (putF "_names" (.ref q1) (putF "_text" (.str z) [])))))) e eds :=
      ⟨te, keep_of k78 hp7 upd_same (by simp), Paired.mapP prE fun t r z => sqT_keep k78 hp7 (sqT_same s7 z)⟩
    generalize (upd (upd H6 e (.tup (te.map V.ref))) p (.ins C dx (putF "_editions" (.ref e) (putF "_sizes" (.ref q2) (putF "_names" (.ref q1) (putF "_text" (.str z) [])))))) = H8 at k38 k78 hp8 hE8
    obtain ⟨tr, hR8, prR⟩ := rulesAt_keep k38 hpp hR
    have ltr : tr.length = rows.length := Paired.length prR
    have etx := rulesOf_texts eqR
    have l5 : ("rule " : Str).length = 5 := by decide +kernel
    dsimp only [tSeq, sFld, tCB, tCons, List.map]
    refine ⟨_, rfl, R, rfl, ⟨_, SqL.of hR8⟩, fun D nD => ?_⟩
    refine lc_list (K := K) (xs := tr.map V.ref) (fun i H' => Same H8 H' ∧ ∃ ts' : List Addr, H' D = some (.lst (ts'.map V.ref)) ∧ Paired (RuleAt CR p H') ts' (rows.take i) ∧ ts'.length = i) ⟨same_upd nD, [], upd_same, .nil, rfl⟩ (fun i H' _ q => SqL.of (q.1 _ _ hR8)) ?_ ?_
    · rintro i x H' hx ⟨s4, ts', hD, pr', lt'⟩
      rw [List.getElem?_map] at hx
      obtain ⟨t, ht, rfl⟩ := Option.map_eq_some_iff.mp hx
      obtain ⟨r, hr1, l, hr2, hr3⟩ := paired_get prR ht
      have ilt : i < tr.length := (List.getElem?_eq_some_iff.mp ht).1
      have rl : r.1.length ≤ 1000000 := by
        have hm : r.1 ∈ rows.map (fun q : RuleL => q.1) := List.mem_map_of_mem (List.mem_of_getElem? hr1)
        rw [etx] at hm
        exact lens _ (List.mem_of_mem_drop hm)
      have rcnt : rows.length ≤ 1000000 := by
        have := congrArg List.length etx
        rw [List.length_map] at this
        rw [this]
        simp only [List.map_nil, List.nil_append, List.length_drop]
        omega
      refine ⟨t, _, rfl, SqT.of (s4 _ _ hr2), rfl, .str r.1, _, rfl, .ref l, _, rfl, rfl, ?_⟩
      refine ⟨rfl, _, rfl, _, rfl, "rule ", rfl, by rw [l5]; decide, _, rfl, r.1, rfl, Nat.le_trans rl (by decide), _, rfl, fun x dxx nx ndx ne => ⟨x, dxx, _, _, _, rfl, upd_same, rfl, ?_⟩⟩
      rw [upd_upd]
      have sx : Same H' (upd (upd H' dxx (.own x)) x (.ins CR dxx (rf (.ref p) (.str (cutS r.1 (some (("rule " : Str).length : Int)) none)) (.ref l)))) := (same_upd ndx).trans (same_upd (by rw [upd_ne ne.symm]; exact nx))
      have hDx := sx _ _ hD
      refine ⟨_, hDx, by rw [List.length_map]; exact Nat.lt_of_le_of_lt (show ts'.length ≤ 1000000 by omega) (by decide), same_new (s4.trans sx) nD, ts' ++ [x], by rw [upd_same, List.map_append]; rfl, ?_, by rw [List.length_append, lt']; rfl⟩
      rw [take_one hr1]
      refine paired_snoc (Paired.mapP pr' fun t r z => ruleAt_upd hDx (ruleAt_same sx z)) (ruleAt_upd hDx ⟨dxx, l, ?_, (hr3.same s4).same sx⟩)
      rw [upd_same, l5]
      rfl
    · rintro H' ⟨s4, ts', hD, pr', lt'⟩
      rw [List.length_map, ltr, List.take_length] at pr'
      refine ⟨D, _, rfl, .inl ⟨SqL.of hD, fun r nr => ?_⟩⟩
      have s9 := s4.trans (same_upd (o := .tup (ts'.map V.ref)) nr)
      have hp9 := s9 _ _ hp8
      have ll4 : (putF "_editions" (.ref e) (putF "_sizes" (.ref q2) (putF "_names" (.ref q1) (putF "_text" (.str z) [])))).length ≤ 4 := Nat.le_trans l4 (Nat.succ_le_succ ll3)
      refine ⟨_, rfl, p, C, dx, _, rfl, hp9, T.cl, T.n5, Nat.lt_of_le_of_lt ll4 (by decide), ?_⟩
      have k9 : Keep p (upd H' r (.tup (ts'.map V.ref))) (upd (upd H' r (.tup (ts'.map V.ref))) p (.ins C dx (sf z q1 q2 e r))) := Keep.put
      have kall : Keep p H (upd (upd H' r (.tup (ts'.map V.ref))) p (.ins C dx (sf z q1 q2 e r))) := (((K01.Same.keep s03).trans k38).trans (K01.Same.keep s9)).trans k9
      have k39 := (k38.trans (K01.Same.keep s9)).trans k9
      have k89 := (K01.Same.keep (j := p) s9).trans k9
      refine kO ks rows eds (by rw [eS, eqR]) _ q1 q2 e r kall upd_same ?_ ?_ ?_ ?_
      · obtain ⟨o, h1, h2⟩ := hq1.same s3
        exact ⟨o, keep_of k39 hpp h1 (by simp), h2⟩
      · exact keep_of k39 hpp (s3 _ _ hq2) (by simp)
      · obtain ⟨te2, h1, h2⟩ := hE8
        exact ⟨te2, keep_of k89 hp8 h1 (by simp), Paired.mapP h2 fun t r z => sqT_keep k89 hp8 z⟩
      · refine ⟨ts', keep_of k9 hp9 upd_same (by simp), Paired.mapP pr' fun t r z => ?_⟩
        obtain ⟨dxx, l, h1, h2⟩ := ruleAt_same (same_upd (o := .tup (ts'.map V.ref)) nr) z
        refine ⟨dxx, l, ?_, litsAt_keep k9 hp9 h2⟩
        refine keep_of k9 hp9 h1 fun q => ?_
        cases q
end
end K01

namespace K01
open L2 PySem PySem.Spec PyProof.Rows
section
variable {base : Heap} {P : Program} {w : World} {K : PySem.W.Frag} {mg : Str → Option Value}
/-! ### properties -/
theorem scSelf (st : Stmt) (h : defScope st = defScope sSText) : FnScope ["self"] ["self"] (defScope st) := by
  rw [h]
  exact ⟨rfl, rfl, rfl, by decide +kernel, rfl, by decide +kernel, by decide +kernel⟩
theorem ok_get {x qual fl : Str} {st : Stmt} {f C : Addr} {fd : FuncData} {p1 p2 p3 : Pos} (F : Fun K x qual st f fd) (hs : defScope st = defScope sSText) (hb : defBody st = [.Return (some (.Attribute (.Name "self" p1) fl p2)) p3]) (c : Cls K C) (n : NoAttr K C fl) :
    FnOk P w K mg base CX0 1 f fd ["self"] (getSp C fl) := by
  (obtain ⟨oc, od, kV, doc, pm, an, cdv, ct, osl, rfl, lk, hcd⟩ := F.ex)
  exact fn_getter lk hcd (scSelf st hs) rfl hb c n
/-- a property of a class of the package -/
def HasP (P : Program) (w : World) (K : PySem.W.Frag) (mg : Str → Option Value) (base : Heap) (C : Addr) (nm fl : Str) : Prop :=
  ∃ (p g : Addr) (fd : FuncData), PropOf K C nm p g ∧ FnOk P w K mg base CX0 1 g fd ["self"] (getSp C fl) ∧ Binds K fd ["self"] []
def tGet (C : Addr) (fl : Str) (te : TE) : TE := tProp C (getSp C fl) [] E0 te
theorem pe_get {X : Cx} {C : Addr} {nm fl : Str} {e : Expr} {te : TE} {pos : Pos} (h : HasP X.prog X.w X.K X.mg X.base C nm fl) (c : Cls X.K C) (hr : Room 2 X.A) (he : PE X e te) (hab : attributeBase e nm X.env (eval e X.env) = eval e X.env := by rfl) :
    PE X (.Attribute e nm pos) (tGet C fl te) := by
  obtain ⟨p, g, fd, hp, F, hb⟩ := h
  exact pe_prop he c hp F hr hb .nil pass0 hab
/-! ### == of sheets -/
def spSEq (K : PySem.W.Frag) (C : Addr) : Sp := fun vs H Q _ => ∃ (a dx : Addr) (fs : List (Str × V)) (z : Str) (y : V), vs = [.ref a, y] ∧ H a = some (.ins C dx fs) ∧ fs.lookup ("_text" : Str) = some (.str z) ∧
  ((∃ t, TyX K H y t ∧ PySem.W.kitOne K t (.ref C) = some false ∧ ∀ H', Same H H' → Q (.bl false) H') ∨
   (∃ (b dy : Addr) (gs : List (Str × V)) (u : Str) (t : Value), y = .ref b ∧ H b = some (.ins C dy gs) ∧ gs.lookup ("_text" : Str) = some (.str u) ∧ TyX K H y t ∧ PySem.W.kitOne K t (.ref C) = some true ∧ ∀ H', Same H H' → Q (.bl (decide (z = u))) H'))
theorem scSEq : FnScope ["self", "other"] ["self", "other"] (defScope sSEq) := ⟨rfl, rfl, rfl, by decide +kernel, rfl, by decide +kernel, by decide +kernel⟩
theorem ok_seq {f C : Addr} {fd : FuncData} (F : Fun K "__eq__" "Sheet.__eq__" sSEq f fd) (T : SheetT K mg C) : FnOk P w K mg base CX0 1 f fd ["self", "other"] (spSEq K C) := by
  refine F.ok scSEq (fun vs H Q E h => ?_) (fun cdv A outer s H vs Q E hr h => ?_)
  · obtain ⟨a, dx, fs, z, y, rfl, _⟩ := h
    rfl
  · obtain ⟨a, dx, fs, z, y, rfl, ha, hl, h⟩ := h
    refine ⟨_, pss_one (ps_ret (pe_and (pe_callB call_isi (by rfl) T.isinst (by decide +kernel) (pa_cons (pv 1) (pa_cons (pe_glob (v := .ref C) (by rfl) T.gS rfl) pa_nil)))
      (pe_one (pe_cmpR op_eq (pe_fld (pv 0) rfl) (pe_fld (pv 1) rfl) (nomark _))))), ?_⟩
    rcases h with ⟨t, ty, kt, k⟩ | ⟨b, dy, gs, u, t, rfl, hb, hl2, ty, kt, k⟩
    · exact ⟨_, rfl, y, .ref C, t, .ref C, false, rfl, .own C, ty, kt, _, rfl, k H (Same.refl H)⟩
    · refine ⟨_, rfl, .ref b, .ref C, t, .ref C, true, rfl, .own C, ty, kt, _, rfl, _, rfl, a, C, dx, fs, .str z, rfl, ha, T.cl, T.n1, hl, _, rfl, b, C, dy, gs, .str u, rfl, hb, T.cl, T.n1, hl2, rfl, ?_⟩
      have e : decide (V.str z = V.str u) = decide (z = u) := decide_eq_decide.mpr ⟨V.str.inj, congrArg V.str⟩
      rw [e]
      exact k H (Same.refl H)
end
/-- made == y, made a Sheet -/
def rOwnEq (K : PySem.W.Frag) (C : Addr) : R2 := fun x y H Q => ∃ (a dx : Addr) (fs : List (Str × V)) (t : Value), x = .ref a ∧ H a = some (.ins C dx fs) ∧ TyX K H y t ∧ PySem.W.notFirst K C t = true ∧ spSEq K C [x, y] H Q E0
theorem op_ownEq {X : Cx} {C g : Addr} {fd : FuncData} (hs : PySem.W.findIn X.K (.ref C) "__eq__" = some (some (.ref g))) (hf : PySem.W.isFn X.K (.ref g) = true) (F : FnOk X.prog X.w X.K X.mg X.base CX0 1 g fd ["self", "other"] (spSEq X.K C)) (hb : Binds X.K fd ["self", "other"] []) (hr : Room 1 X.A) :
    OpR X (compareOp .Eq) (rOwnEq X.K C) := by
  (intro pins s σ H x y v u Q I rx ry h)
  obtain ⟨a, dx, fs, t, rfl, ha, ty, hn, q⟩ := h
  (cases (show v = Value.ref a from rx))
  (obtain ⟨mA, J, _⟩ := ins_get I.hok ha)
  obtain ⟨od, J, _⟩ := J.look
  obtain ⟨m, hF⟩ := I.fr
  obtain ⟨Pz, Z, pz, _⟩ := kit_of I ry ty
  show wpAny (model X.prog X.w) X.A (richCompare .Eq (.ref a) u) (EP X pins σ Q) X.xe s
  refine PySem.W.cmp_K (op := .Eq) (tb := t) hr.units0 hF I.ok.mod.kin J (Z.ty _ _ I.kIn pz) hn hs hf ?_
  have rv : Vals [V.ref a, y] [Value.ref a, u] := .cons rfl (.cons ry .nil)
  refine wpAny_mono (run_fn (ds := []) (dvs := []) F hr hb .nil pass0 I rv (show spSEq X.K C ([V.ref a, y] ++ []) H (fun v H' => (∃ b, v = .bl b) ∧ Q v H') E0 from ?_)) (fun w s' z => ?_) fun _ _ x => x
  · obtain ⟨a', dx', fs', z, y', e, ha', hl, h⟩ := q
    refine ⟨a', dx', fs', z, y', e, ha', hl, ?_⟩
    rcases h with ⟨t', ty', kt, k⟩ | ⟨b, dy, gs, u', t', e2, hb', hl2, ty', kt, k⟩
    · exact .inl ⟨t', ty', kt, fun H' s' => ⟨⟨_, rfl⟩, k H' s'⟩⟩
    · exact .inr ⟨b, dy, gs, u', t', e2, hb', hl2, ty', kt, fun H' s' => ⟨⟨_, rfl⟩, k H' s'⟩⟩
  · obtain ⟨v, H', I', rw', ⟨b, eb⟩, q'⟩ := z
    subst eb
    obtain rfl : w = Value.bool b := rw'
    exact ⟨.bl b, H', I', rfl, q'⟩
end K01

namespace K01
open PySem L2
abbrev sLRows : Stmt := top 52
abbrev sLSo : Stmt := top 53
structure Txt6 (K : PySem.W.Frag) (mg : Str → Option Value) : Prop extends Txt5 K mg where
  list : mg "list" = none
  any : mg "any" = none
  zip : mg "zip" = none
section
variable {base : Heap} {P : Program} {w : World} {K : PySem.W.Frag} {mg : Str → Option Value}
/-! ### the law's own look at names -/
abbrev nLIsName : List Str := ["_law_word", "_law_sign"]
theorem scLIsName : FnScope nLIsName ["_law_word"] (defScope sLIsName) := ⟨rfl, rfl, rfl, by decide +kernel, rfl, by decide +kernel, by decide +kernel⟩
theorem ok_lisName {f : Addr} {fd : FuncData} (F : Fun K "_law_is_name" "_law_is_name" sLIsName f fd) (T : Txt2 K mg) : FnOk P w K mg base CX0 1 f fd ["_law_word"] spName := by
  refine F.ok scLIsName (fun vs H Q E h => ?_) (fun cdv A outer s H vs Q E hr h => ?_)
  · obtain ⟨z, rfl, _⟩ := h
    rfl
  · obtain ⟨z, rfl, hz, k⟩ := h
    refine ⟨_, pss_one (ps_ret (pe_and (pe_chain op_lt op_lt pe_int (pe_callB call_len_str (by rfl) T.len PySem.boot_len (pa_cons (pv 0) pa_nil)) pe_int)
      (pe_one (pe_callB (cr_all rfl) (by rfl) T.all (by decide +kernel) (pa_cons (pe_lc (own := [("_law_sign", 1)]) (g := gName 1) (tt := tYes) rfl scLIsName.nd (pi_str (pv 0))
          (blkOk_by (N := nLIsName) (sc := defScope sLIsName) (by decide +kernel)) (fun _ _ _ _ _ => pg_name (i := 1) scLIsName.nd rfl (Or.inl rfl)) (fun _ _ _ _ _ => pts_nil)
          (fun _ _ _ _ _ => pe_cmpR op_in_sign (pv 1) pe_str (by rfl))) pa_nil))))), ?_⟩
    refine ⟨_, rfl, z, rfl, Nat.le_trans hz (by decide), _, _, rfl, rfl, _, rfl, ?_⟩
    refine ite2 (fun h1 => ?_) (fun h1 => ?_)
    · refine ⟨_, _, rfl, rfl, _, rfl, ?_⟩
      refine ite2 (fun h2 => ?_) (fun h2 => ?_)
      · dsimp only [tCB, tCons, List.map]
        refine signs_in (ab := abc) (z := z) ?_ hz ?_ ?_ ?_
        · rfl
        · exact fun _ => rfl
        · exact fun c H1 R q => ⟨_, rfl, c, abc, rfl, rfl, q⟩
        intro D H1 s1 hl
        refine ⟨D, _, rfl, SqL.of hl, ?_⟩
        have e : nameB z = ((tx z).map fun c => decide (c ∈ tx abc)).all id := by
          rw [all_map_id]
          unfold nameB
          rw [decide_eq_true (show 1 ≤ z.length by have := of_decide_eq_true h1; omega), decide_eq_true (show z.length ≤ 8 by have := of_decide_eq_true h2; omega)]
          rfl
        rw [← e]
        exact k H1 s1
      · have e : nameB z = false := by
          unfold nameB
          rw [decide_eq_false (show ¬ z.length ≤ 8 from fun q => h2 (decide_eq_true (by omega)))]
          simp
        have q := k H (Same.refl H)
        rw [e] at q
        exact q
    · have e : nameB z = false := by
        unfold nameB
        rw [decide_eq_false (show ¬ 1 ≤ z.length from fun q => h1 (decide_eq_true (by omega)))]
        simp
      have q := k H (Same.refl H)
      rw [e] at q
      exact ⟨_, rfl, q⟩
/-! ### the law's own rows -/
def spLRows (K : PySem.W.Frag) : Sp := fun vs H Q _ => ∃ (p : Addr) (ss : List Nat), vs = [.ref p] ∧ SqL K H p (rowV ss) ∧ ss.length ≤ 3 ∧ (∀ s ∈ ss, s ≤ 3) ∧ ∀ H' q, Same H H' → H q = none → RowsAt K H' q (worthsOf ss) → Q (.ref q) H'
abbrev nLRows : List Str := ["_law_sizes", "_law_found", "_law_size", "_law_longer", "_law_row", "_law_worth"]
theorem scLRows : FnScope nLRows ["_law_sizes"] (defScope sLRows) := ⟨rfl, rfl, rfl, by decide +kernel, rfl, by decide +kernel, by decide +kernel⟩
theorem rowV_snoc (r : List Nat) (j : Nat) : rowV r ++ [V.int (0 + (j : Int))] = rowV (r ++ [j]) := by
  unfold rowV
  rw [List.map_append, Int.zero_add]
  rfl
theorem paired_app {α β : Type} {R : α → β → Prop} : ∀ {xs xs' : List α} {ys ys' : List β}, Paired R xs ys → Paired R xs' ys' → Paired R (xs ++ xs') (ys ++ ys')
  | _, _, _, _, .nil, h => h
  | _, _, _, _, .cons a b, h => .cons a (paired_app b h)
theorem ok_lrows {f : Addr} {fd : FuncData} (F : Fun K "_law_rows" "_law_rows" sLRows f fd) (T : Txt6 K mg) : FnOk P w K mg base CX0 1 f fd ["_law_sizes"] (spLRows K) := by
  refine F.ok scLRows (fun vs H Q E h => ?_) (fun cdv A outer s H vs Q E hr h => ?_)
  · obtain ⟨p, ss, rfl, _⟩ := h
    rfl
  · obtain ⟨p, ss, rfl, hp, hl, h3, k⟩ := h
    refine ⟨_, pss_cons (ps_set (i := 1) scLRows.nd rfl (.inl rfl) (pe_lst (pa_cons (pe_tup pa_nil) pa_nil)))
      (pss_cons (ps_for PassesOwn.never rfl (pi_list (pv 0)) (pg_name (i := 2) scLRows.nd rfl (.inl rfl))
        (pss_cons (ps_set (i := 3) scLRows.nd rfl (.inl rfl) (pe_lst pa_nil))
        (pss_cons (ps_for PassesOwn.never rfl (pi_list (pe_callTy call_list_of (by rfl) T.list (by decide +kernel) (pa_cons (pv 1) pa_nil))) (pg_name (i := 4) scLRows.nd rfl (.inr rfl))
          (pss_one (ps_expr (pe_bm PySem.F.plainAttrs_list PySem.F.slot_list_extend PySem.F.type_list_extend mt_extend (pv 3) (pa_cons
            (pe_lc (own := [("_law_worth", 5)]) (g := gName 5) (tt := tYes) rfl scLRows.nd (pi_range1 (by rfl) T.range (pa_cons (pv 2) pa_nil))
              (blkOk_by (N := nLRows) (sc := defScope sLRows) (by decide +kernel)) (fun _ _ _ _ _ => pg_name (i := 5) scLRows.nd rfl (Or.inl rfl)) (fun _ _ _ _ _ => pts_nil)
              (fun _ _ _ _ _ => pe_op (r := rCatA K) op_catA (pv 4) (pe_tup (pa_cons (pv 5) pa_nil)))) pa_nil)))))
        (pss_one (ps_set (i := 1) scLRows.nd rfl (.inl rfl) (pe_callTy call_list_of (by rfl) T.list (by decide +kernel) (pa_cons (pv 3) pa_nil)))))))
      (pss_one (ps_ret (pv 1)))), ?_⟩
    refine ⟨Nat.zero_le _, fun e ne => ⟨(by show 1 ≤ sizeLine; decide), fun R nR => ?_⟩⟩
    have s0 := (same_upd (o := .tup []) ne).trans (same_upd (o := .lst [V.ref e]) nR)
    refine ⟨_, rfl, p, rfl, ⟨_, s0.seq hp⟩, for_it (walk_list (xs := rowV ss)) (fun i σ H1 => ∃ (R : Addr) (v2 v3 v4 : Option V), σ = [some (.ref p), some (.ref R), v2, v3, v4, none] ∧ Same H H1 ∧ RowsAt K H1 R (worthsOf (ss.take i)) ∧ H R = none)
      ⟨R, none, none, none, rfl, s0, ⟨[e], upd_same, .cons (SqT.of (get_new upd_same nR)) .nil⟩, (same_upd ne).free nR⟩ (fun i σ H1 _ ⟨_, _, _, _, _, s1, _⟩ => s1.seq hp) ?_ ?_⟩
    · rintro i x σ H1 H2 hi ⟨R1, v2, v3, v4, rfl, s1, hR, fR⟩ ⟨rfl, hx⟩
      unfold rowV at hx
      rw [List.getElem?_map] at hx
      obtain ⟨sz, hsz, rfl⟩ := Option.map_eq_some_iff.mp hx
      have sz3 := h3 sz (List.mem_of_getElem? hsz)
      have wsm := worths_small hl h3 i
      have rl : ∀ r ∈ worthsOf (ss.take i), r.length ≤ 3 := fun r hr => by
        rw [worths_row hr, List.length_take]
        omega
      obtain ⟨ts, hR1, pr⟩ := hR
      generalize hrows : worthsOf (ss.take i) = rows at pr wsm rl
      have lts : ts.length = rows.length := Paired.length pr
      refine ⟨Nat.zero_le _, fun G nG => ?_⟩
      have sG := same_upd (o := .lst []) nG
      refine ⟨_, rfl, R1, _, rfl, .inl (SqL.of (sG _ _ hR1)), fun C nC => ?_⟩
      have sC := sG.trans (same_upd (o := .lst (ts.map V.ref)) nC)
      have nCG : C ≠ G := fun e => by
        rw [e, upd_same] at nC
        cases nC
      refine ⟨C, rfl, ⟨_, SqL.of upd_same⟩, for_list (K := K) (a := C) (xs := ts.map V.ref) (fun j σ H' => ∃ v4 : Option V, σ = [some (.ref p), some (.ref R1), some (.int (sz : Int)), some (.ref G), v4, none] ∧ Same H2 H' ∧ H' C = some (.lst (ts.map V.ref)) ∧ RowsAt K H' G (stepR (rows.take j) sz))
        ⟨_, rfl, sC, upd_same, ⟨[], by rw [upd_ne nCG.symm, upd_same]; rfl, .nil⟩⟩ (fun j σ H' _ ⟨_, _, _, q, _⟩ => SqL.of q) ?_ ?_⟩
      · rintro j x' σ H' hx' ⟨v4', rfl, s2, hC, hG⟩
        rw [List.getElem?_map] at hx'
        obtain ⟨t, ht, rfl⟩ := Option.map_eq_some_iff.mp hx'
        obtain ⟨r, hr1, hr2⟩ := paired_get pr ht
        have rl3 := rl r (List.mem_of_getElem? hr1)
        have jlt : j < rows.length := (List.getElem?_eq_some_iff.mp hr1).1
        obtain ⟨tg, hG1, prG⟩ := hG
        refine ⟨_, rfl, .inl ⟨rfl, _, SqL.of hG1⟩, _, rfl, _, rfl, by omega, by omega, fun D nD => ?_⟩
        refine lc_range (lo := 0) (n := ((sz : Nat) : Int).toNat) (fun m H3 => Same H' H3 ∧ ∃ ts', H3 D = some (.lst (ts'.map V.ref)) ∧ Paired (fun (t : Addr) (r : List Nat) => SqT K H3 t (rowV r)) ts' ((ext sz r).take m) ∧ ts'.length = m) ⟨same_upd nD, [], upd_same, .nil, rfl⟩ ?_ ?_
        · rintro m H3 hm ⟨s3, ts', hD, pr', lm⟩
          have hm' : m < sz := by omega
          refine ⟨rfl, _, rfl, _, rfl, (by show 1 ≤ sizeLine; decide), fun b nb => ?_⟩
          have sb := same_upd (o := .tup [V.int (0 + (m : Int))]) nb
          have fin : ∀ (q : Addr) (H4 : Hp), Same H3 H4 → SqT K H4 q (rowV (r ++ [m])) → ∃ acc, H4 D = some (.lst acc) ∧ acc.length < sizeLine ∧ (Same H' (upd H4 D (.lst (acc ++ [V.ref q]))) ∧ ∃ ts', (upd H4 D (.lst (acc ++ [V.ref q]))) D = some (.lst (ts'.map V.ref)) ∧ Paired (fun (t : Addr) (r : List Nat) => SqT K (upd H4 D (.lst (acc ++ [V.ref q]))) t (rowV r)) ts' ((ext sz r).take (m + 1)) ∧ ts'.length = m + 1) := fun q H4 s4 hq => by
            have hD4 := s4 _ _ hD
            refine ⟨_, hD4, by rw [List.length_map]; exact small1000 (by omega), same_new (s3.trans s4) nD, ts' ++ [q], by rw [upd_same, List.map_append]; rfl, ?_, by rw [List.length_append, lm]; rfl⟩
            rw [ext_at hm']
            exact paired_snoc (Paired.mapP pr' fun t l e => sqT_upd hD4 (sqT_same s4 e)) (sqT_upd hD4 hq)
          refine ⟨t, b, rowV r, _, rfl, rfl, sqT_same ((s2.trans s3).trans sb) hr2, SqT.of upd_same, ?_, fun e => ?_, (fun _ e => nomatch e), fun _ _ q nq => ?_⟩
          · unfold rowV
            rw [List.length_map]
            exact Nat.le_trans (show r.length + 1 ≤ 4 by omega) (by decide)
          · refine fin b _ sb (SqT.of ?_)
            rw [upd_same, ← rowV_snoc, e]
            rfl
          · refine fin q _ (sb.trans (same_upd nq)) (SqT.of ?_)
            rw [upd_same, rowV_snoc]
        · rintro H3 ⟨s3, ts', hD, pr', lm⟩
          have e2 : (ext sz r).take ((sz : Nat) : Int).toNat = ext sz r := List.take_of_length_le (by rw [ext_len]; omega)
          rw [e2] at pr'
          have hG3 := s3 _ _ hG1
          have nGC : G ≠ C := nCG.symm
          have ltg : tg.length ≤ 81 := by
            rw [Paired.length prG, stepR_len, List.length_take]
            have a1 : min j rows.length * sz ≤ 27 * 3 := Nat.mul_le_mul (by omega) sz3
            omega
          refine ⟨G, D, _, _, rfl, rfl, hG3, hD, ?_, ?_⟩
          · rw [List.length_map, List.length_map]
            exact Nat.le_trans (show _ ≤ 1000 by omega) (by decide)
          · have fG : H2 G = none := nG
            refine ⟨_, rfl, same_new (s2.trans s3) fG, by rw [upd_ne nCG]; exact s3 _ _ hC, tg ++ ts', by rw [upd_same, List.map_append], ?_⟩
            rw [stepR_take hr1]
            exact paired_app (Paired.mapP prG fun t l e => sqT_upd hG3 (sqT_same s3 e)) (Paired.mapP pr' fun t l e => sqT_upd hG3 e)
      · rintro σ H' ⟨v4', rfl, s2, hC, hG⟩
        rw [List.length_map, lts, List.take_length] at hG
        obtain ⟨tg, hG1, prG⟩ := hG
        refine ⟨_, rfl, G, _, rfl, .inl (SqL.of hG1), fun N nN => ?_⟩
        have sN := same_upd (o := .lst (tg.map V.ref)) nN
        have s12 := s1.trans s2
        refine ⟨N, _, _, _, rfl, s12.trans sN, ⟨tg, upd_same, ?_⟩, s12.free nN⟩
        rw [worths_take hsz, hrows]
        exact Paired.mapP prG fun t l e => sqT_same sN e
    · rintro σ H1 ⟨R1, v2, v3, v4, rfl, s1, hR, fR⟩
      refine ⟨_, rfl, k H1 R1 s1 fR ?_⟩
      have : ss.take (rowV ss).length = ss := by
        unfold rowV
        rw [List.length_map, List.take_length]
      rw [this] at hR
      exact hR
/-! ### the law's own look at lits -/
def LitsL (H : Hp) (p : Addr) (ls : List Lit) : Prop := ∃ ts : List Addr, H p = some (.lst (ts.map V.ref)) ∧ Paired (fun (t : Addr) (l : Lit) => H t = some (.tup (litV l))) ts ls
theorem LitsL.same {H H' : Hp} {p : Addr} {ls : List Lit} (h : LitsL H p ls) (s : Same H H') : LitsL H' p ls := by
  obtain ⟨ts, e, q⟩ := h
  exact ⟨ts, s _ _ e, Paired.mapP q fun t l e => s _ _ e⟩
def spLSo (K : PySem.W.Frag) : Sp := fun vs H Q _ => ∃ (p q : Addr) (ls : List Lit) (r : List Nat), vs = [.ref p, .ref q] ∧ LitsL H p ls ∧ SqT K H q (rowV r) ∧ (∀ l ∈ ls, l.1 < r.length) ∧ ls.length ≤ 100 ∧ ∀ H', Same H H' → Q (.bl (ls.any (soB r))) H'
abbrev nLSo : List Str := ["_law_lits_here", "_law_row", "_law_place", "_law_is_equal", "_law_worth"]
theorem scLSo : FnScope nLSo ["_law_lits_here", "_law_row"] (defScope sLSo) := ⟨rfl, rfl, rfl, by decide +kernel, rfl, by decide +kernel, by decide +kernel⟩
theorem ok_lso {f : Addr} {fd : FuncData} (F : Fun K "_law_is_so" "_law_is_so" sLSo f fd) (T : Txt6 K mg) : FnOk P w K mg base CX0 1 f fd ["_law_lits_here", "_law_row"] (spLSo K) := by
  refine F.ok scLSo (fun vs H Q E h => ?_) (fun cdv A outer s H vs Q E hr h => ?_)
  · obtain ⟨p, q, ls, r, rfl, _⟩ := h
    rfl
  · obtain ⟨p, q, ls, r, rfl, ⟨ts, hp, pr⟩, hq, hl, hn, k⟩ := h
    refine ⟨_, pss_one (ps_ret (pe_callB (cr_any rfl) (by rfl) T.any (by decide +kernel) (pa_cons (pe_lc (own := [("_law_place", 2), ("_law_is_equal", 3), ("_law_worth", 4)]) (g := gTup K 3 (gCons (gName 2) (gCons (gName 3) (gCons (gName 4) gNil)))) (tt := tYes) rfl scLSo.nd (pi_list (pv 0))
          (blkOk_by (N := nLSo) (sc := defScope sLSo) (by decide +kernel)) (fun _ _ _ _ _ => pg_tup rfl (pgs_cons (pg_name (i := 2) scLSo.nd rfl (Or.inl rfl)) (pgs_cons (pg_name (i := 3) scLSo.nd rfl (Or.inl rfl)) (pgs_cons (pg_name (i := 4) scLSo.nd rfl (Or.inl rfl)) pgs_nil)))) (fun _ _ _ _ _ => pts_nil)
          (fun _ _ _ _ _ => pe_cmpR op_eq (pe_cmpR op_eq (pe_ix (r := rIxT K) ix_tup (pv 1) (pv 2) (fun _ _ => rfl)) (pv 4) (nomark _)) (pv 3) (nomark _))) pa_nil))), ?_⟩
    have lt : ts.length = ls.length := Paired.length pr
    refine ⟨_, rfl, p, rfl, ⟨_, SqL.of hp⟩, fun D nD => ?_⟩
    refine lc_list (K := K) (xs := ts.map V.ref) (fun i H' => Same H H' ∧ H' D = some (.lst (((ls.take i).map (soB r)).map V.bl))) ⟨same_upd nD, upd_same⟩ (fun i H' _ z => SqL.of (z.1 _ _ hp)) ?_ ?_
    · rintro i x H' hx ⟨s1, hD⟩
      rw [List.getElem?_map] at hx
      obtain ⟨t, ht, rfl⟩ := Option.map_eq_some_iff.mp hx
      obtain ⟨l, hl1, hl2⟩ := paired_get pr ht
      have at1 : atI (rowV r) ((l.1 : Nat) : Int) = some (V.int ((r.getD l.1 0 : Nat) : Int)) := atI_nat (row_at (hl l (List.mem_of_getElem? hl1)))
      refine ⟨t, _, rfl, SqT.of (s1 _ _ hl2), rfl, .int (l.1 : Int), _, rfl, .bl l.2.1, _, rfl, .int (l.2.2 : Int), _, rfl, rfl, ?_⟩
      refine ⟨rfl, _, rfl, _, rfl, q, _, _, _, rfl, rfl, sqT_same s1 hq, at1, _, rfl, rfl, _, rfl, rfl, _, hD, ?_, same_new s1 nD, ?_⟩
      · rw [List.length_map, List.length_map, List.length_take]
        exact small1000 (by omega)
      · have e : decide (V.bl (decide (V.int ((r.getD l.1 0 : Nat) : Int) = V.int (l.2.2 : Int))) = V.bl l.2.1) = soB r l := by
          have e1 : decide (V.int ((r.getD l.1 0 : Nat) : Int) = V.int (l.2.2 : Int)) = decide (r.getD l.1 0 = l.2.2) := decide_eq_decide.mpr ⟨fun z => by have := V.int.inj z; omega, fun z => by rw [z]⟩
          unfold soB
          rw [e1, Bool.eq_iff_iff]
          simp
        rw [upd_same, take_one hl1, List.map_append, List.map_append, e]
        rfl
    · rintro H' ⟨s1, hD⟩
      rw [List.length_map, lt, List.take_length] at hD
      refine ⟨D, _, rfl, SqL.of hD, ?_⟩
      have ea : ((ls.map (soB r)).any id) = ls.any (soB r) := by
        rw [List.any_map]
        rfl
      rw [ea]
      exact k H' s1
end
end K01

namespace K01
open PySem L2
abbrev sLLits : Stmt := top 57
/-! ### the law's own look at texts, plainly -/
def newKey (ks : List Key) (cnt : Nat) (l : Str) : Option Key := match keyOf (wordsOf l) with
  | none => none
  | some p => if cnt = 0 ∧ ks.length < 3 ∧ p.1 ∉ ks.map (fun q : Key => q.1) then some p else none
def lawEds (ks : List Key) (eds : List (List Nat)) (cnt : Nat) (l : Str) : List (List Nat) := match (if cnt < 4 then litsOf ks (wordsOf l) else none) with
  | none => []
  | some ls => keepR ls eds
def lawW (ks : List Key) (eds : List (List Nat)) (cnt k : Nat) : List Str → Option Nat
  | [] => none
  | l :: r => match newKey ks cnt l with
    | some p => lawW (ks ++ [p]) (worthsOf ((ks ++ [p]).map (·.2))) cnt (k + 1) r
    | none => if lawEds ks eds cnt l = [] then some k else lawW ks (lawEds ks eds cnt l) (cnt + 1) (k + 1) r
def optN {α : Type} : Sum Nat α → Option Nat
  | .inl n => some n
  | .inr _ => none
def wrongN (z : Str) : Option Nat := lawW [] [[]] 0 0 (linesOf z)
theorem keepR_nil (eds : List (List Nat)) : keepR [] eds = [] := by
  unfold keepR
  refine List.filter_eq_nil_iff.mpr fun a _ => ?_
  simp
theorem lawEds_lt {ks : List Key} {eds : List (List Nat)} {cnt : Nat} {l : Str} (h : cnt < 4) : lawEds ks eds cnt l = keepR (litsIn ks l) eds := by
  unfold lawEds litsIn
  rw [if_pos h]
  cases litsOf ks (wordsOf l) with
  | none => exact (keepR_nil eds).symm
  | some ls => rfl
theorem lawEds_ge {ks : List Key} {eds : List (List Nat)} {cnt : Nat} {l : Str} (h : ¬ cnt < 4) : lawEds ks eds cnt l = [] := by
  unfold lawEds
  rw [if_neg h]
theorem newKey_pos {ks : List Key} {cnt : Nat} {l : Str} (h : cnt ≠ 0) : newKey ks cnt l = none := by
  unfold newKey
  cases keyOf (wordsOf l) with
  | none => rfl
  | some p => exact if_neg fun q => h q.1
theorem lawStep {ks : List Key} {eds : List (List Nat)} {acc : List RuleL} {k : Nat} {l : Str} {r : List Str} (h4 : acc.length ≤ 4) (hn : newKey ks acc.length l = none)
    (ih : ∀ (eds' : List (List Nat)), acc.length < 4 → lawW ks eds' (acc.length + 1) (k + 1) r = optN (rulesOf ks (k + 1) (acc ++ [(l, litsIn ks l)]) eds' r)) :
    lawW ks eds acc.length k (l :: r) = optN (rulesOf ks k acc eds (l :: r)) := by
  show (match newKey ks acc.length l with | some p => _ | none => if lawEds ks eds acc.length l = [] then some k else lawW ks (lawEds ks eds acc.length l) (acc.length + 1) (k + 1) r) = optN (if acc.length = 4 ∨ litsIn ks l = [] ∨ keepR (litsIn ks l) eds = [] then .inl k else rulesOf ks (k + 1) (acc ++ [(l, litsIn ks l)]) (keepR (litsIn ks l) eds) r)
  rw [hn]
  by_cases c : acc.length < 4
  · rw [lawEds_lt c]
    by_cases e : keepR (litsIn ks l) eds = []
    · rw [if_pos e, if_pos (.inr (.inr e))]
      rfl
    · have e2 : litsIn ks l ≠ [] := fun q => e (by rw [q]; exact keepR_nil eds)
      rw [if_neg e, if_neg (fun q => q.elim (fun q => by omega) fun q => q.elim e2 e)]
      exact ih _ c
  · rw [lawEds_ge c, if_pos rfl, if_pos (.inl (by omega))]
    rfl
theorem lawA {ks : List Key} : ∀ {ls : List Str} {eds : List (List Nat)} {acc : List RuleL} {k : Nat}, 1 ≤ acc.length → acc.length ≤ 4 → lawW ks eds acc.length k ls = optN (rulesOf ks k acc eds ls)
  | [], eds, acc, k, _, _ => rfl
  | l :: r, eds, acc, k, h1, h4 => by
    refine lawStep h4 (newKey_pos (by omega)) fun eds' c => ?_
    have := lawA (ks := ks) (ls := r) (eds := eds') (acc := acc ++ [(l, litsIn ks l)]) (k := k + 1) (by rw [List.length_append]; exact Nat.le_add_left _ _) (by rw [List.length_append]; show acc.length + 1 ≤ 4; omega)
    rw [List.length_append] at this
    exact this
theorem law0 {ks : List Key} {eds : List (List Nat)} {l : Str} {r : List Str} {k : Nat} (hn : newKey ks 0 l = none) : lawW ks eds 0 k (l :: r) = optN (rulesOf ks k [] eds (l :: r)) :=
  lawStep (acc := []) (Nat.zero_le _) hn fun eds' _ => lawA (acc := [(l, litsIn ks l)]) (by exact Nat.le_refl 1) (by show 1 ≤ 4; decide)
theorem lawB : ∀ {ls : List Str} {ks : List Key}, ks.length ≤ 3 → lawW ks (worthsOf (ks.map (·.2))) 0 ks.length ls =
    optN (rulesOf (keysOf ks (ls.take (3 - ks.length))) (keysOf ks (ls.take (3 - ks.length))).length [] (worthsOf ((keysOf ks (ls.take (3 - ks.length))).map (·.2))) (ls.drop ((keysOf ks (ls.take (3 - ks.length))).length - ks.length)))
  | [], ks, _ => by
    rw [List.take_nil, List.drop_nil]
    rfl
  | l :: r, ks, h3 => by
    have stay : newKey ks 0 l = none → keysOf ks ((l :: r).take (3 - ks.length)) = ks → lawW ks (worthsOf (ks.map (·.2))) 0 ks.length (l :: r) = optN (rulesOf (keysOf ks ((l :: r).take (3 - ks.length))) (keysOf ks ((l :: r).take (3 - ks.length))).length [] (worthsOf ((keysOf ks ((l :: r).take (3 - ks.length))).map (·.2))) ((l :: r).drop ((keysOf ks ((l :: r).take (3 - ks.length))).length - ks.length))) := fun a b => by
      rw [b, Nat.sub_self, List.drop_zero]
      exact law0 a
    by_cases c3 : ks.length < 3
    · have et : (l :: r).take (3 - ks.length) = l :: r.take (3 - (ks.length + 1)) := by
        have : 3 - ks.length = (3 - (ks.length + 1)) + 1 := by omega
        rw [this, List.take_succ_cons]
      cases e : keyOf (wordsOf l) with
      | none =>
        refine stay (by unfold newKey; rw [e]) ?_
        rw [et]
        show (match keyOf (wordsOf l) with | none => ks | some p => if p.1 ∈ ks.map (fun q : Key => q.1) then ks else keysOf (ks ++ [p]) _) = ks
        rw [e]
      | some p =>
        by_cases m : p.1 ∈ ks.map (fun q : Key => q.1)
        · refine stay (by unfold newKey; rw [e]; exact if_neg fun q => q.2.2 m) ?_
          rw [et]
          show (match keyOf (wordsOf l) with | none => ks | some p => if p.1 ∈ ks.map (fun q : Key => q.1) then ks else keysOf (ks ++ [p]) _) = ks
          rw [e]
          exact if_pos m
        · have en : newKey ks 0 l = some p := by
            unfold newKey
            rw [e]
            exact if_pos ⟨rfl, c3, m⟩
          have ek : keysOf ks ((l :: r).take (3 - ks.length)) = keysOf (ks ++ [p]) (r.take (3 - (ks.length + 1))) := by
            rw [et]
            show (match keyOf (wordsOf l) with | none => ks | some p => if p.1 ∈ ks.map (fun q : Key => q.1) then ks else keysOf (ks ++ [p]) _) = _
            rw [e]
            exact if_neg m
          have lk : (ks ++ [p]).length = ks.length + 1 := by rw [List.length_append]; rfl
          have ih := lawB (ls := r) (ks := ks ++ [p]) (by omega)
          rw [lk] at ih
          have le : ks.length + 1 ≤ (keysOf (ks ++ [p]) (r.take (3 - (ks.length + 1)))).length := by
            have grow : ∀ {ls : List Str} {acc : List Key}, acc.length ≤ (keysOf acc ls).length := by
              intro ls
              induction ls with
              | nil => exact fun {acc} => Nat.le_refl _
              | cons l r ih =>
                intro acc
                show _ ≤ (match keyOf (wordsOf l) with | none => acc | some p => if p.1 ∈ acc.map (fun q : Key => q.1) then acc else keysOf (acc ++ [p]) r).length
                cases keyOf (wordsOf l) with
                | none => exact Nat.le_refl _
                | some p =>
                  show _ ≤ (if p.1 ∈ acc.map (fun q : Key => q.1) then acc else keysOf (acc ++ [p]) r).length
                  split
                  · exact Nat.le_refl _
                  · have := ih (acc := acc ++ [p])
                    rw [List.length_append] at this
                    exact Nat.le_trans (Nat.le_add_right _ _) this
            have := grow (ls := r.take (3 - (ks.length + 1))) (acc := ks ++ [p])
            rw [lk] at this
            exact this
          rw [ek]
          have ed : (l :: r).drop ((keysOf (ks ++ [p]) (r.take (3 - (ks.length + 1)))).length - ks.length) = r.drop ((keysOf (ks ++ [p]) (r.take (3 - (ks.length + 1)))).length - (ks.length + 1)) := by
            have : (keysOf (ks ++ [p]) (r.take (3 - (ks.length + 1)))).length - ks.length = ((keysOf (ks ++ [p]) (r.take (3 - (ks.length + 1)))).length - (ks.length + 1)) + 1 := by omega
            rw [this, List.drop_succ_cons]
          rw [ed, ← ih]
          show (match newKey ks 0 l with | some p => lawW (ks ++ [p]) (worthsOf ((ks ++ [p]).map (fun q : Key => q.2))) 0 (ks.length + 1) r | none => if lawEds ks (worthsOf (ks.map (fun q : Key => q.2))) 0 l = [] then some ks.length else lawW ks (lawEds ks (worthsOf (ks.map (fun q : Key => q.2))) 0 l) (0 + 1) (ks.length + 1) r) = _
          rw [en]
    · refine stay ?_ ?_
      · unfold newKey
        cases keyOf (wordsOf l) with
        | none => rfl
        | some p => exact if_neg fun q => c3 q.2.1
      · have : 3 - ks.length = 0 := by omega
        rw [this, List.take_zero]
        rfl
/-- both looks tell the same -/
theorem wrong_read (z : Str) : wrongN z = optN (readS z) := by
  have h := lawB (ls := linesOf z) (ks := []) (by decide)
  have h' : wrongN z = optN (rulesOf (keysOf [] ((linesOf z).take 3)) (keysOf [] ((linesOf z).take 3)).length [] (worthsOf ((keysOf [] ((linesOf z).take 3)).map (·.2))) ((linesOf z).drop ((keysOf [] ((linesOf z).take 3)).length - 0))) := h
  rw [h', Nat.sub_zero]
  unfold readS
  cases rulesOf (keysOf [] ((linesOf z).take 3)) (keysOf [] ((linesOf z).take 3)).length [] (worthsOf ((keysOf [] ((linesOf z).take 3)).map (·.2))) ((linesOf z).drop (keysOf [] ((linesOf z).take 3)).length) with
  | inl n => rfl
  | inr q => rfl
end K01

namespace K01
open PySem L2
def digs : List Str := ["0", "1", "2"]
theorem digs_at {z : Str} {n : Nat} (h : n < 3) : digs[n]? = some z ↔ numOf z = some n := by
  rw [numOf_small (show n < 10 by omega)]
  have e0 : tx ("0" : Str) = [48 + 0] := by decide +kernel
  have e1 : tx ("1" : Str) = [48 + 1] := by decide +kernel
  have e2 : tx ("2" : Str) = [48 + 2] := by decide +kernel
  have key : ∀ {y : Str} {m : Nat}, tx y = [48 + m] → (some y = some z ↔ tx z = [48 + m]) := fun {y m} ey => by
    constructor
    · intro q
      rw [← Option.some.inj q]
      exact ey
    · intro q
      exact congrArg some (TL.ext_tl (ey.trans q.symm))
  match n, h with
  | 0, _ => exact key e0
  | 1, _ => exact key e1
  | 2, _ => exact key e2
theorem digs_in {z : Str} {s : Nat} (h : s ≤ 3) : inV (.str z) ((digs.map V.str).take s) = decide (∃ n, numOf z = some n ∧ n < s) := by
  have hm : inV (.str z) ((digs.map V.str).take s) = decide (z ∈ digs.take s) := by
    rw [← List.map_take]
    generalize digs.take s = l
    induction l with
    | nil => rfl
    | cons r l ih =>
      show ((r == z) || inV (.str z) (l.map V.str)) = _
      rw [ih]
      by_cases q : r = z
      · rw [q, beq_self_eq_true, Bool.true_or]
        exact (decide_eq_true List.mem_cons_self).symm
      · rw [beq_eq_false_iff_ne.mpr q, Bool.false_or]
        exact decide_eq_decide.mpr ⟨fun z => List.mem_cons_of_mem _ z, fun z => (List.mem_cons.mp z).resolve_left fun e => q e.symm⟩
  rw [hm]
  refine decide_eq_decide.mpr ⟨fun q => ?_, fun ⟨n, q1, q2⟩ => ?_⟩
  · obtain ⟨n, hn, e⟩ := List.getElem_of_mem q
    rw [List.length_take] at hn
    have hd : digs.length = 3 := rfl
    refine ⟨n, (digs_at (by omega)).mp ?_, by omega⟩
    rw [List.getElem_take] at e
    rw [List.getElem?_eq_getElem (by omega), e]
  · have := (digs_at (z := z) (n := n) (by omega)).mpr q1
    have h2 : (digs.take s)[n]? = some z := by
      rw [List.getElem?_take, if_pos q2]
      exact this
    exact List.mem_of_getElem? h2
theorem num_int {z : Str} {n : Nat} (h : numOf z = some n) (hn : n < 10) : PySem.intText? z = some (n : Int) ∧ z.length ≤ 640 := by
  have e := (numOf_small hn).mp h
  have lz : z.length = (tx z).length := by
    show z.cps.size = z.cps.toList.length
    simp
  have ad : ∀ c ∈ z.cps.toList, 48 ≤ c ∧ c ≤ 57 := fun c hc => by
    have hc' : c ∈ tx z := hc
    rw [e] at hc'
    rw [List.mem_singleton.mp hc']
    omega
  have h1 : z.length = 1 := by
    rw [lz, e]
    rfl
  have q := PySem.intText_digits (x := z) ad (by rw [show z.cps.toList = tx z from rfl, e]; exact fun q => nomatch q) (by omega)
  rw [show z.cps.toList = tx z from rfl, e] at q
  refine ⟨?_, by omega⟩
  rw [q]
  have : NumText.digitsVal [48 + n] = n := by
    show 0 * 10 + (48 + n - 48) = n
    omega
  rw [this]
theorem eqV_str (a b : Str) : eqV (.str a) (.str b) = decide (a = b) := by
  show (a == b) = _
  by_cases q : a = b
  · rw [q, beq_self_eq_true]
    exact (decide_eq_true rfl).symm
  · rw [beq_eq_false_iff_ne.mpr q]
    exact (decide_eq_false q).symm
section
variable {base : Heap} {P : Program} {w : World} {K : PySem.W.Frag} {mg : Str → Option Value}
def spLLits (K : PySem.W.Frag) : Sp := fun vs H Q _ => ∃ (wp np sp : Addr) (ws : List Str) (ks : List Key), vs = [.ref wp, .ref np, .ref sp] ∧ SqL K H wp (ws.map V.str) ∧ ws ≠ [] ∧ SqL K H np (namesV ks) ∧ SqL K H sp (sizesV ks) ∧ (∀ k ∈ ks, k.2 ≤ 3) ∧
  (∀ H', Same H H' → litsOf ks ws = none → Q .non H') ∧ (∀ H' p ls, Same H H' → litsOf ks ws = some ls → LitsL H' p ls → Q (.ref p) H')
abbrev nLLits : List Str := ["_law_words", "_law_names_here", "_law_sizes", "_law_found", "_law_place", "_law_name", "_law_sign", "_law_worth", "_law_word"]
theorem scLLits : FnScope nLLits ["_law_words", "_law_names_here", "_law_sizes"] (defScope sLLits) := ⟨rfl, rfl, rfl, by decide +kernel, rfl, by decide +kernel, by decide +kernel⟩
theorem litsL_snoc {H : Hp} {G q : Addr} {ts : List Addr} {ls : List Lit} {l : Lit} (hG : H G = some (.lst (ts.map V.ref))) (pr : Paired (fun (t : Addr) (l : Lit) => H t = some (.tup (litV l))) ts ls) (hq : H q = some (.tup (litV l))) :
    LitsL (upd H G (.lst (ts.map V.ref ++ [V.ref q]))) G (ls ++ [l]) := by
  refine ⟨ts ++ [q], by rw [upd_same, List.map_append]; rfl, paired_snoc (Paired.mapP pr fun t l e => ?_) ?_⟩
  · rw [upd_ne (ne_of e hG (by simp))]
    exact e
  · rw [upd_ne (ne_of hq hG (by simp))]
    exact hq
theorem ok_llits {f : Addr} {fd : FuncData} (F : Fun K "_law_lits" "_law_lits" sLLits f fd) (T : Txt6 K mg) : FnOk P w K mg base CX0 1 f fd ["_law_words", "_law_names_here", "_law_sizes"] (spLLits K) := by
  refine F.ok scLLits (fun vs H Q E h => ?_) (fun cdv A outer s H vs Q E hr h => ?_)
  · obtain ⟨wp, np, sp, ws, ks, rfl, _⟩ := h
    rfl
  · obtain ⟨wp, np, sp, ws, ks, rfl, hw, wn, hn, hs, kz, kN, kS⟩ := h
    refine ⟨_, pss_cons (ps_if (PW.pt (pw_or (pt_cmpR op_notIn_seq (pe_callB call_len_seq (by rfl) T.len PySem.boot_len (pa_cons (pv 0) pa_nil)) (pe_tup (pa_cons pe_int (pa_cons pe_int (pa_cons pe_int pa_nil)))) (by rfl))
          (pw_or (pt_cmpR op_ne (pe_ix ix_list (pv 0) pe_int (fun _ _ => rfl)) pe_str (nomark _))
          (pw_or1 (pt_not (pt_val (pe_callB (cr_all rfl) (by rfl) T.all (by decide +kernel) (pa_cons (pe_lc (own := [("_law_word", 8)]) (g := gName 8) (tt := tYes) rfl scLLits.nd
            (pi_list (pe_slSt (pv 0) (po_some pe_int) (po_some pe_int)))
            (blkOk_by (N := nLLits) (sc := defScope sLLits) (by decide +kernel)) (fun _ _ _ _ _ => pg_name (i := 8) scLLits.nd rfl (Or.inl rfl)) (fun _ _ _ _ _ => pts_nil)
            (fun _ _ _ _ _ => pe_cmpR op_eq (pv 8) pe_str (nomark _))) pa_nil)))))))) (pss_one (ps_ret pe_non)) pss_nil)
      (pss_cons (ps_set (i := 3) scLLits.nd rfl (.inl rfl) (pe_lst pa_nil))
      (pss_cons (ps_for PassesOwn.never rfl (pi_range3 (by rfl) T.range (pa_cons pe_int (pa_cons (pe_callB call_len_seq (by rfl) T.len PySem.boot_len (pa_cons (pv 0) pa_nil)) (pa_cons pe_int pa_nil)))) (pg_name (i := 4) scLLits.nd rfl (.inl rfl))
        (pss_cons (ps_asg (pe_slice sl_list (pv 0) (po_some (pv 4)) (po_some (pe_op op_add (pv 4) pe_int))) (pg_unl rfl (pgs_cons (pg_name (i := 5) scLLits.nd rfl (.inl rfl)) (pgs_cons (pg_name (i := 6) scLLits.nd rfl (.inl rfl)) (pgs_cons (pg_name (i := 7) scLLits.nd rfl (.inl rfl)) pgs_nil)))))
        (pss_cons (ps_if (PW.pt (pw_or (pt_cmpR op_notIn_seq (pv 5) (pv 1) (by rfl)) (pw_or (pt_cmpR op_notIn_seq (pv 6) (pe_tup (pa_cons pe_str (pa_cons pe_str pa_nil))) (by rfl))
            (pw_or1 (pt_cmpR op_notIn_seq (pv 7) (pe_slice sl_list (pe_lst (pa_cons pe_str (pa_cons pe_str (pa_cons pe_str pa_nil)))) po_none (po_some (pe_ix ix_list (pv 2) (pe_bm PySem.F.plainAttrs_list PySem.F.slot_list_index PySem.F.type_list_index mt_index (pv 1) (pa_cons (pv 5) pa_nil)) (fun _ _ => rfl)))) (by rfl)))))) (pss_one (ps_ret pe_non)) pss_nil)
        (pss_one (ps_expr (pe_bm PySem.F.plainAttrs_list PySem.F.slot_list_append PySem.F.type_list_append mt_append (pv 3) (pa_cons (pe_tup (pa_cons (pe_bm PySem.F.plainAttrs_list PySem.F.slot_list_index PySem.F.type_list_index mt_index (pv 1) (pa_cons (pv 5) pa_nil))
            (pa_cons (pe_cmpR op_eq (pv 6) pe_str (nomark _)) (pa_cons (pe_callTy call_int_str (by rfl) T.int (by decide +kernel) (pa_cons (pv 7) pa_nil)) pa_nil)))) pa_nil)))))))
      (pss_one (ps_ret (pv 3))))), ?_⟩
    have none_of : litsOf ks ws = none → ∀ H2, Same H H2 → Q .non H2 := fun e H2 s2 => kN H2 s2 e
    refine ⟨_, rfl, wp, _, rfl, .inl hw, (by show 3 ≤ sizeLine; decide), fun t nt => ?_⟩
    refine ⟨t, _, rfl, .inr (SqT.of upd_same), rfl, rfl, _, rfl, ?_⟩
    have s1 := same_upd (o := .tup [V.int 4, V.int 8, V.int 12]) nt
    have elen : inV (.int ((ws.map V.str).length : Int)) [.int 4, .int 8, .int 12] = decide (ws.length = 4 ∨ ws.length = 8 ∨ ws.length = 12) := by
      rw [List.length_map]
      show (((4 : Int) == (ws.length : Int)) || (((8 : Int) == (ws.length : Int)) || (((12 : Int) == (ws.length : Int)) || false))) = _
      rw [Bool.eq_iff_iff]
      simp only [Bool.or_eq_true, beq_iff_eq, decide_eq_true_eq, Bool.false_eq_true, or_false]
      omega
    refine ite2 (fun hl => ?_) (fun hl => ?_)
    · refine none_of (if_neg fun q => ?_) _ s1
      have hl' : (!inV (.int ((ws.map V.str).length : Int)) [.int 4, .int 8, .int 12]) = true := hl
      unfold formB at q
      rw [Bool.and_eq_true, Bool.and_eq_true] at q
      rw [elen, q.2.1] at hl'
      cases hl'
    have len : ws.length = 4 ∨ ws.length = 8 ∨ ws.length = 12 := by
      by_cases q : ws.length = 4 ∨ ws.length = 8 ∨ ws.length = 12
      · exact q
      · exfalso
        refine hl ?_
        show (!inV (.int ((ws.map V.str).length : Int)) [.int 4, .int 8, .int 12]) = true
        rw [elen, decide_eq_false q]
        rfl
    obtain ⟨a, ha0⟩ : ∃ a, ws[0]? = some a := ⟨_, get_str (by omega)⟩
    have hhead : ws.head? = some a := by
      rw [List.head?_eq_getElem?]
      exact ha0
    refine ⟨_, rfl, wp, _, 0, .str a, rfl, rfl, s1.seq hw, atI_nat (j := 0) (by rw [List.getElem?_map, ha0]; rfl), rfl, _, rfl, ?_⟩
    refine ite2 (fun ha => ?_) (fun ha => ?_)
    · refine none_of (if_neg fun q => ?_) _ s1
      unfold formB at q
      rw [Bool.and_eq_true] at q
      have ea : a = wRule := by
        have := of_decide_eq_true q.1
        rw [hhead] at this
        exact Option.some.inj this
      have ha' : (!decide (V.str a = V.str wRule)) = true := ha
      rw [ea, decide_eq_true rfl] at ha'
      cases ha'
    have ea : a = wRule := by
      by_cases e : a = wRule
      · exact e
      · exfalso
        refine ha ?_
        show (!decide (V.str a = V.str wRule)) = true
        rw [decide_eq_false (fun q => e (V.str.inj q))]
        rfl
    have hh : ws.head? = some wRule := by rw [hhead, ea]
    have orl : (ors ws).length ≤ 2 := by
      unfold ors
      rw [List.length_map, List.length_range]
      omega
    dsimp only [tNot, tB, tCB, tCons, List.map]
    refine eqs_lc (ys := ors ws) (y := wOr) ?_ (by omega) ?_ ?_ ?_
    · intro R hR
      refine ⟨_, rfl, 4, rfl, 4, rfl, wp, ws.map V.str, rfl, s1.seq hw, by simp, ?_, fun q nq => ?_⟩
      · rw [pick_ors len, List.length_map]
        exact Nat.le_trans orl (by decide)
      · refine hR q _ (same_upd nq) ?_
        rw [upd_same, pick_ors len]
    · exact fun _ => rfl
    · intro x H2 R q
      refine ⟨_, rfl, rfl, ?_⟩
      have e : decide (V.str x = V.str "or") = decide (x = wOr) := decide_eq_decide.mpr ⟨V.str.inj, congrArg V.str⟩
      rw [e]
      exact q
    intro D H2 s2 hD
    refine ⟨D, _, rfl, SqL.of hD, _, rfl, ?_⟩
    rw [all_bl]
    have s02 := s1.trans s2
    refine ite2 (fun ho => ?_) (fun ho => ?_)
    · refine none_of (if_neg fun q => ?_) H2 s02
      unfold formB at q
      rw [Bool.and_eq_true, Bool.and_eq_true] at q
      have q2 : ((ors ws).all fun x => decide (x = wOr)) = true := q.2.2
      rw [q2] at ho
      cases ho
    have hor : orsB ws = true := by
      unfold orsB
      cases c : (ors ws).all fun x => decide (x = wOr) with
      | true => rfl
      | false =>
        rw [c] at ho
        exact absurd rfl ho
    have form : formB ws = true := by
      unfold formB
      rw [decide_eq_true hh, decide_eq_true len, hor]
      rfl
    have eL : litsOf ks ws = if none ∈ litsOs ks ws then none else some ((litsOs ks ws).filterMap id) := if_pos form
    obtain ⟨m, hm, hm3⟩ : ∃ m, ws.length = 4 * m ∧ m ≤ 3 := by
      rcases len with q | q | q
      · exact ⟨1, by omega, by decide⟩
      · exact ⟨2, by omega, by decide⟩
      · exact ⟨3, by omega, by decide⟩
    have hm4 : ws.length / 4 = m := by omega
    have eos : litsOs ks ws = (List.range m).map (tripL ks ws) := by
      unfold litsOs
      rw [hm4]
    have nin : ∀ i, i < m → tripL ks ws i = none → litsOf ks ws = none := fun i hi e => by
      rw [eL, if_pos]
      rw [eos]
      exact List.mem_map.mpr ⟨i, List.mem_range.mpr hi, e⟩
    refine ⟨Nat.zero_le _, fun G nG => ?_⟩
    have sG := same_upd (o := .lst []) nG
    refine ⟨_, rfl, wp, _, rfl, .inl ((s02.trans sG).seq hw), 1, _, 4, m, rfl, ?_, for_rangeC (lo := 1) (c := 4) (n := m) (fun i σ H' => ∃ (ls : List Lit) (ts : List Addr) (v4 v5 v6 v7 : Option V), σ = [some (.ref wp), some (.ref np), some (.ref sp), some (.ref G), v4, v5, v6, v7, none] ∧ Same H2 H' ∧
        H' G = some (.lst (ts.map V.ref)) ∧ Paired (fun (t : Addr) (l : Lit) => H' t = some (.tup (litV l))) ts ls ∧ (List.range i).map (tripL ks ws) = ls.map some) ⟨[], [], none, none, none, none, rfl, sG, upd_same, .nil, rfl⟩ ?_ ?_⟩
    · rw [List.length_map]
      exact rgc4 (by omega)
    · rintro i σ H3 hi ⟨ls, ts, v4, v5, v6, v7, rfl, s3, hG, pr, eq⟩
      have s03 := s02.trans s3
      refine ⟨_, rfl, _, rfl, _, rfl, _, rfl, _, _, rfl, rfl, _, rfl, wp, _, rfl, s03.seq hw, fun q nq => ?_⟩
      have sq := same_upd (o := .lst (cutV (ws.map V.str) (some (1 + (i : Int) * 4)) (some (1 + (i : Int) * 4 + 3)))) nq
      have ect := cut_trip (ws := ws) (i := i) (by omega)
      have etr : tripL ks ws i = litOf ks (ws.getD (4 * i + 1) Str.empty) (ws.getD (4 * i + 2) Str.empty) (ws.getD (4 * i + 3) Str.empty) := rfl
      generalize ws.getD (4 * i + 1) Str.empty = a at ect etr
      generalize ws.getD (4 * i + 2) Str.empty = b at ect etr
      generalize ws.getD (4 * i + 3) Str.empty = c at ect etr
      have nn : litOf ks a b c = none → ∀ H4, Same H H4 → Q .non H4 := fun e H4 s4 => none_of (nin i hi (by rw [etr, e])) H4 s4
      refine ⟨q, [a, b, c].map V.str, rfl, SqL.of (by rw [upd_same, ect]), rfl, .str a, _, rfl, .str b, _, rfl, .str c, _, rfl, rfl, ?_⟩
      have s4 := s03.trans sq
      have hG4 := sq _ _ hG
      generalize (upd H3 q (.lst (cutV (ws.map V.str) (some (1 + (i : Int) * 4)) (some (1 + (i : Int) * 4 + 3))))) = H4 at s4 hG4 sq
      have ein := inV_names a ks
      refine ⟨_, rfl, _, rfl, np, _, rfl, .inl (s4.seq hn), rfl, flats_names ks, _, rfl, ?_⟩
      refine ite2 (fun h1 => ?_) (fun h1 => ?_)
      · refine nn (if_neg fun q => ?_) H4 s4
        have h1' : (!inV (.str a) (namesV ks)) = true := h1
        rw [ein, decide_eq_true q.1] at h1'
        cases h1'
      have ha : a ∈ ks.map (·.1) := by
        by_cases q : a ∈ ks.map (·.1)
        · exact q
        · exfalso
          refine h1 ?_
          show (!inV (.str a) (namesV ks)) = true
          rw [ein, decide_eq_false q]
          rfl
      refine ⟨_, rfl, (by show 2 ≤ sizeLine; decide), fun t nt => ?_⟩
      refine ⟨t, _, rfl, .inr (SqT.of upd_same), rfl, rfl, _, rfl, ?_⟩
      have st := same_upd (o := .tup [V.str "=", V.str "!="]) nt
      have s5 := s4.trans st
      have eb : inV (.str b) [.str "=", .str "!="] = decide (b = wEq ∨ b = wNe) := by
        show ((wEq == b) || ((wNe == b) || false)) = _
        by_cases q : b = wEq
        · rw [q]
          simp
        · by_cases q2 : b = wNe
          · rw [q2]
            simp
          · rw [beq_eq_false_iff_ne.mpr fun z => q z.symm, beq_eq_false_iff_ne.mpr fun z => q2 z.symm, decide_eq_false fun z => z.elim q q2]
            rfl
      refine ite2 (fun h2 => ?_) (fun h2 => ?_)
      · refine nn (if_neg fun q => ?_) _ s5
        have h2' : (!inV (.str b) [.str "=", .str "!="]) = true := h2
        rw [eb, decide_eq_true q.2] at h2'
        cases h2'
      have hb : b = wEq ∨ b = wNe := by
        by_cases q : b = wEq ∨ b = wNe
        · exact q
        · exfalso
          refine h2 ?_
          show (!inV (.str b) [.str "=", .str "!="]) = true
          rw [eb, decide_eq_false q]
          rfl
      obtain ⟨sz, hat⟩ := idxS_at ha
      have sz3 : sz ≤ 3 := kz _ (List.mem_of_getElem? hat)
      have hatN : (namesV ks)[idxS a ks]? = some (.str a) := by
        unfold namesV
        rw [List.getElem?_map, hat]
        rfl
      have hsz : atI (sizesV ks) ((idxS a ks : Nat) : Int) = some (.int (sz : Int)) := atI_nat (by
        unfold sizesV
        rw [List.getElem?_map, hat]
        rfl)
      have idx : ∀ {H' : Hp} (R : VK), SqL K H' np (namesV ks) → R (.int ((idxS a ks : Nat) : Int)) H' → rIndex K (.ref np) [.str a] H' R := fun {H'} R hn' q =>
        ⟨np, namesV ks, .str a, idxS a ks, .str a, rfl, rfl, hn', rfl, flats_names ks, hatN, by rw [eqV_str]; exact decide_eq_true rfl, fun m' z' hm' hz' => by
          unfold namesV at hz'
          rw [List.getElem?_map] at hz'
          obtain ⟨k0, q1, rfl⟩ := Option.map_eq_some_iff.mp hz'
          rw [eqV_str]
          exact decide_eq_false (idxS_first hm' k0 q1), q⟩
      have hgd : ks.getD (idxS a ks) (a, 0) = (a, sz) := by
        rw [List.getD_eq_getElem?_getD, hat]
        rfl
      have el : litOf ks a b c = match numOf c with | none => none | some n => if n < sz then some (idxS a ks, decide (b = wEq), n) else none := by
        unfold litOf
        rw [if_pos ⟨ha, hb⟩, hgd]
        try rfl
      refine ⟨_, rfl, (by show 3 ≤ sizeLine; decide), fun X nX => ?_⟩
      have sX := s5.trans (same_upd (o := .lst [V.str "0", V.str "1", V.str "2"]) nX)
      refine ⟨_, rfl, _, rfl, .inl ⟨rfl, _, sX.seq hn⟩, _, rfl, ?_⟩
      dsimp only [tNil]
      refine idx _ (sX.seq hn) ?_
      refine ⟨sp, _, _, _, rfl, rfl, sX.seq hs, hsz, _, rfl, X, digs.map V.str, rfl, SqL.of upd_same, fun Y nY => ?_⟩
      have ecut : cutV (digs.map V.str) none (some (sz : Int)) = (digs.map V.str).take sz := cut_to _ _
      rw [ecut]
      have sY := sX.trans (same_upd (o := .lst ((digs.map V.str).take sz)) nY)
      have fl : ((digs.map V.str).take sz).all flatV = true := by
        match sz, sz3 with
        | 0, _ => rfl
        | 1, _ => rfl
        | 2, _ => rfl
        | 3, _ => rfl
      refine ⟨Y, _, rfl, .inl (SqL.of upd_same), rfl, fl, _, rfl, ?_⟩
      have edg := digs_in (z := c) sz3
      refine ite2 (fun h3 => ?_) (fun h3 => ?_)
      · refine nn ?_ _ sY
        have h3' : (!inV (.str c) ((digs.map V.str).take sz)) = true := h3
        rw [edg] at h3'
        rw [el]
        cases en : numOf c with
        | none => rfl
        | some n =>
          refine if_neg fun q => ?_
          rw [decide_eq_true ⟨n, en, q⟩] at h3'
          cases h3'
      obtain ⟨n, en, nlt⟩ : ∃ n, numOf c = some n ∧ n < sz := by
        by_cases q : ∃ n, numOf c = some n ∧ n < sz
        · exact q
        · exfalso
          refine h3 ?_
          show (!inV (.str c) ((digs.map V.str).take sz)) = true
          rw [edg, decide_eq_false q]
          rfl
      have elit : litOf ks a b c = some (idxS a ks, decide (b = wEq), n) := by
        rw [el, en]
        exact if_pos nlt
      obtain ⟨ci, cl⟩ := num_int en (by omega)
      have s35 := ((st.trans (same_upd (o := .lst [V.str "0", V.str "1", V.str "2"]) nX)).trans (same_upd (o := .lst ((digs.map V.str).take sz)) nY))
      have hG5 := s35 _ _ hG4
      have pr5 : Paired (fun (t : Addr) (l : Lit) => _ = some (HO.tup (litV l))) ts ls := Paired.mapP pr fun t l e => s35 _ _ (sq _ _ e)
      have s25 := (s3.trans sq).trans s35
      refine ⟨_, rfl, .inl ⟨rfl, _, SqL.of hG5⟩, _, rfl, .inl ⟨rfl, _, sY.seq hn⟩, _, rfl, ?_⟩
      dsimp only [tNil]
      refine idx _ (sY.seq hn) ?_
      refine ⟨_, rfl, rfl, _, rfl, c, (n : Int), rfl, ci, cl, (by show 3 ≤ sizeLine; decide), fun p np2 => ?_⟩
      have sp2 := same_upd (o := .tup [V.int ((idxS a ks : Nat) : Int), V.bl (decide (V.str b = V.str "=")), V.int (n : Int)]) np2
      have lts : ts.length = i := by
        have h1 := Paired.length pr
        have h2 := congrArg List.length eq
        rw [List.length_map, List.length_map, List.length_range] at h2
        omega
      refine ⟨G, _, _, rfl, rfl, sp2 _ _ hG5, by rw [List.length_map]; exact small1000 (by omega), ?_⟩
      obtain ⟨ts2, g1, g2⟩ := litsL_snoc (l := (idxS a ks, decide (b = wEq), n)) (sp2 _ _ hG5) (Paired.mapP pr5 fun t l e => sp2 _ _ e) (q := p) (by
        rw [upd_same]
        have ed : decide (V.str b = V.str "=") = decide (b = wEq) := decide_eq_decide.mpr ⟨V.str.inj, congrArg V.str⟩
        rw [ed]
        rfl)
      refine ⟨ls ++ [(idxS a ks, decide (b = wEq), n)], ts2, _, _, _, _, rfl, same_new (s25.trans sp2) nG, g1, g2, ?_⟩
      rw [List.range_succ, List.map_append, List.map_append, eq]
      show ls.map some ++ [tripL ks ws i] = _
      rw [etr, elit]
      rfl
    · rintro σ H3 ⟨ls, ts, v4, v5, v6, v7, rfl, s3, hG, pr, eq⟩
      rw [← eos] at eq
      refine ⟨_, rfl, kS H3 G ls (s02.trans s3) ?_ ⟨ts, hG, pr⟩⟩
      rw [eL, if_neg (fun q => by
        rw [eq] at q
        obtain ⟨l, _, e⟩ := List.mem_map.mp q
        cases e), eq]
      congr 1
      clear eq pr hG
      induction ls with
      | nil => rfl
      | cons l r ih =>
        show l :: (r.map some).filterMap id = l :: r
        rw [ih]
end
end K01

namespace K01
open PySem L2
abbrev sLWrong : Stmt := top 58
theorem and_cut {ta tb : TE} {σ : L2.St} {H : Hp} {Q : VK} (Pb : Bool → Hp → Prop) (h : ∀ R : VK, (∀ b H', Pb b H' → R (.bl b) H') → tAndV ta tb σ H R) (k : ∀ b H', Pb b H' → Q (.bl b) H') : tAndV ta tb σ H Q := h Q k
theorem if_cut {c : TT} {t1 t2 : TS} {D : Ends} {σ : L2.St} {H : Hp} (Pb : Bool → Hp → Prop) (h : ∀ R : Bool → Hp → Prop, (∀ b H', Pb b H' → R b H') → c σ H R) (k1 : ∀ H', Pb true H' → t1 D σ H') (k2 : ∀ H', Pb false H' → t2 D σ H') : tIfS c t1 t2 D σ H := by
  refine h _ fun b H' p => ?_
  cases b with
  | true => exact k1 H' p
  | false => exact k2 H' p
theorem asg_cut {te : TE} {g : TG} {D : Ends} {σ : L2.St} {H : Hp} (Pv : V → Hp → Prop) (h : ∀ R : VK, (∀ v H', Pv v H' → R v H') → te σ H R) (k : ∀ v H', Pv v H' → g v σ H' D.nx) : tAsg te g D σ H := h _ k
/-! ### rows as data -/
def rowD (r : List Nat) : PyData := .tuple (r.map fun (n : Nat) => PyData.int (n : Int))
theorem ints_dp {K : PySem.W.Frag} {H : Hp} : ∀ r : List Nat, DpAll K H (rowV r) (r.map fun (n : Nat) => PyData.int (n : Int))
  | [] => .nil
  | n :: r => .cons (.int (n : Int)) (ints_dp r)
theorem rows_dp {K : PySem.W.Frag} {H : Hp} : ∀ {ts : List Addr} {rows : List (List Nat)}, Paired (fun (t : Addr) (r : List Nat) => SqT K H t (rowV r)) ts rows → DpAll K H (ts.map V.ref) (rows.map rowD)
  | _, _, .nil => .nil
  | t :: ts, r :: rows, .cons h k => .cons (.tup h (ints_dp r)) (rows_dp k)
theorem ints_lay : ∀ r : List Nat, PyData.canLayAll0 (r.map fun (n : Nat) => PyData.int (n : Int)) = true ∧ PyData.depthAll (r.map fun (n : Nat) => PyData.int (n : Int)) = 0
  | [] => ⟨rfl, rfl⟩
  | n :: r => by
    obtain ⟨a, b⟩ := ints_lay r
    constructor
    · show (true && PyData.canLayAll0 (r.map fun (n : Nat) => PyData.int (n : Int))) = true
      rw [a]
      rfl
    · show max 0 (PyData.depthAll (r.map fun (n : Nat) => PyData.int (n : Int))) = 0
      rw [b]
      rfl
theorem rows_lay : ∀ rows : List (List Nat), PyData.canLayAll0 (rows.map rowD) = true ∧ PyData.depthAll (rows.map rowD) ≤ 1
  | [] => ⟨rfl, Nat.zero_le _⟩
  | r :: rows => by
    obtain ⟨a, b⟩ := rows_lay rows
    obtain ⟨c, d⟩ := ints_lay r
    constructor
    · show ((rowD r).canLay0 && PyData.canLayAll0 (rows.map rowD)) = true
      have e : (rowD r).canLay0 = true := by simp [rowD, PyData.canLay0, c]
      rw [e, a]
      rfl
    · show max (rowD r).depth (PyData.depthAll (rows.map rowD)) ≤ 1
      have e : (rowD r).depth = 1 := by simp [rowD, PyData.depth, d]
      omega
theorem rows_shaped (rows : List (List Nat)) : SeqAt.shaped (.list (rows.map rowD)) = true := by
  obtain ⟨a, b⟩ := rows_lay rows
  unfold SeqAt.shaped
  have h1 : PyData.canLay0 (.list (rows.map rowD)) = true := by
    simpa [PyData.canLay0] using a
  have h2 : PyData.depth (.list (rows.map rowD)) ≤ 64 := by
    simp only [PyData.depth]
    omega
  rw [h1, decide_eq_true h2]
  rfl
theorem rows_eqv (rows : List (List Nat)) : PyData.eqv (.list (rows.map rowD)) (.list []) = decide (rows = []) := by
  cases rows with
  | nil => simp [PyData.eqv, PyData.eqvAll]
  | cons r l => simp [PyData.eqv, PyData.eqvAll]
theorem RowsAt.dp {K : PySem.W.Frag} {H : Hp} {p : Addr} {rows : List (List Nat)} (h : RowsAt K H p rows) : Dp K H (.ref p) (.list (rows.map rowD)) := by
  obtain ⟨ts, e, q⟩ := h
  exact .lst (SqL.of e) (rows_dp q)
structure Txt7 (K : PySem.W.Frag) (mg : Str → Option Value) : Prop extends Txt6 K mg where
  enum : mg "enumerate" = none
section
variable {base : Heap} {P : Program} {w : World} {K : PySem.W.Frag} {mg : Str → Option Value}
def spWrong : Sp := fun vs H Q _ => ∃ z : Str, vs = [.str z] ∧ z.length ≤ 100000 ∧ ∀ H', Same H H' → resN (wrongN z) Q H'
abbrev nWrong : List Str := ["_law_text", "_law_names_here", "_law_sizes", "_law_rows_here", "_law_rules", "_law_number", "_law_line_here", "_law_words", "_law_is_key", "_law_lits_here", "_law_row"]
theorem scWrong : FnScope nWrong ["_law_text"] (defScope sLWrong) := ⟨rfl, rfl, rfl, by decide +kernel, rfl, by decide +kernel, by decide +kernel⟩
theorem ok_wrong {f : Addr} {fd : FuncData} (F : Fun K "_law_wrong" "_law_wrong" sLWrong f fd) (T : Txt7 K mg) (GI : Has P w K mg base "_law_is_name" 1 ["_law_word"] spName) (GR : Has P w K mg base "_law_rows" 1 ["_law_sizes"] (spLRows K)) (GL : Has P w K mg base "_law_lits" 1 ["_law_words", "_law_names_here", "_law_sizes"] (spLLits K))
    (GS : Has P w K mg base "_law_is_so" 1 ["_law_lits_here", "_law_row"] (spLSo K)) : FnOk P w K mg base CX0 2 f fd ["_law_text"] spWrong := by
  refine F.ok scWrong (fun vs H Q E h => ?_) (fun cdv A outer s H vs Q E hr h => ?_)
  · obtain ⟨z, rfl, _⟩ := h
    rfl
  · obtain ⟨z, rfl, hz, k⟩ := h
    have u64 : ∀ {k : Nat} {A : Around} (h : Room k A), A.units + 64 < cLine := fun h => by
      have := units65 h
      omega
    refine ⟨_, pss_cons (ps_asg (pe_tup (pa_cons (pe_lst pa_nil) (pa_cons (pe_lst pa_nil) (pa_cons (pe_lst (pa_cons (pe_tup pa_nil) pa_nil)) (pa_cons pe_int pa_nil))))) (pg_tup rfl (pgs_cons (pg_name (i := 1) scWrong.nd rfl (.inl rfl)) (pgs_cons (pg_name (i := 2) scWrong.nd rfl (.inl rfl)) (pgs_cons (pg_name (i := 3) scWrong.nd rfl (.inl rfl)) (pgs_cons (pg_name (i := 4) scWrong.nd rfl (.inl rfl)) pgs_nil))))))
      (pss_cons (ps_for PassesOwn.never rfl (pi_enum (by rfl) T.enum (pa_cons (pe_split (pv 0) pe_str) pa_nil)) (pg_tup rfl (pgs_cons (pg_name (i := 5) scWrong.nd rfl (.inl rfl)) (pgs_cons (pg_name (i := 6) scWrong.nd rfl (.inl rfl)) pgs_nil)))
        (pss_cons (ps_set (i := 7) scWrong.nd rfl (.inl rfl) (pe_split (pv 6) pe_str))
        (pss_cons (ps_set (i := 8) scWrong.nd rfl (.inl rfl) (pe_and (pe_cmpR op_eq (pe_callB call_len_seq (by rfl) T.len PySem.boot_len (pa_cons (pv 7) pa_nil)) pe_int (nomark _))
          (pe_and (pe_cmpR op_eq (pe_ix ix_list (pv 7) pe_int (fun _ _ => rfl)) pe_str (nomark _)) (pe_and (pe_cmpR op_in_seq (pe_ix ix_list (pv 7) pe_int (fun _ _ => rfl)) (pe_tup (pa_cons pe_str (pa_cons pe_str pa_nil))) (by rfl))
          (pe_and (pe_cmpR op_eq (pv 4) pe_int (nomark _)) (pe_one (pe_cmpR op_lt (pe_callB call_len_seq (by rfl) T.len PySem.boot_len (pa_cons (pv 1) pa_nil)) pe_int (nomark _))))))))
        (pss_one (ps_if (PW.pt (pw_and (pt_val (pv 8)) (pw_and (pt_val (pe_has GI hr (pa_cons (pe_ix ix_list (pv 7) pe_int (fun _ _ => rfl)) pa_nil))) (pw_and1 (pt_cmpR op_notIn_seq (pe_ix ix_list (pv 7) pe_int (fun _ _ => rfl)) (pv 1) (by rfl))))))
          (pss_cons (ps_par (i := 1) (j := 2) rfl scWrong.nd rfl rfl (by decide) rfl rfl (pa_cons (pe_op op_cat (pv 1) (pe_lst (pa_cons (pe_ix ix_list (pv 7) pe_int (fun _ _ => rfl)) pa_nil))) (pa_cons (pe_op op_cat (pv 2) (pe_lst (pa_cons (pe_callTy call_int_str (by rfl) T.int (by decide +kernel) (pa_cons (pe_ix ix_list (pv 7) pe_int (fun _ _ => rfl)) pa_nil)) pa_nil))) pa_nil)) rfl)
            (pss_one (ps_set (i := 3) scWrong.nd rfl (.inl rfl) (pe_has GR hr (pa_cons (pv 2) pa_nil)))))
          (pss_cons (ps_set (i := 9) scWrong.nd rfl (.inr rfl) (pe_ifExp (pt_cmpR op_lt (pv 4) pe_int (nomark _)) (pe_has GL hr (pa_cons (pv 7) (pa_cons (pv 1) (pa_cons (pv 2) pa_nil)))) pe_non))
          (pss_cons (ps_par (i := 3) (j := 4) rfl scWrong.nd rfl rfl (by decide) rfl rfl (pa_cons (pe_lc (own := [("_law_row", 10)]) (g := gName 10) rfl scWrong.nd (pi_list (pv 3))
              (blkOk_by (N := nWrong) (sc := defScope sLWrong) (by decide +kernel)) (fun _ _ _ _ _ => pg_name (i := 10) scWrong.nd rfl (Or.inl rfl)) (fun _ _ _ _ _ => pts_one (PW.pt (pw_and (pt_cmpR op_notN (pv 9) pe_non (nomark _)) (pw_and1 (pt_val (pe_has GS hr (pa_cons (pv 9) (pa_cons (pv 10) pa_nil))))))))
              (fun _ _ _ _ _ => pv 10)) (pa_cons (pe_op op_add (pv 4) pe_int) pa_nil)) rfl)
          (pss_one (ps_if (pt_cmpR (op_eqD (u64 hr)) (pv 3) (pe_lst pa_nil) (nomark _)) (pss_one (ps_ret (pv 5))) pss_nil))))))))) (pss_one (ps_ret pe_non))), ?_⟩
    have cnt1 : (linesOf z).length ≤ 1000000 := Nat.le_trans (split_count z nl (by decide +kernel)) (by omega)
    refine ⟨Nat.zero_le _, fun NA0 nNA => ⟨Nat.zero_le _, fun SA0 nSA => ⟨Nat.zero_le _, fun e0 ne0 => ⟨(by show 1 ≤ sizeLine; decide), fun RA0 nRA => ⟨(by show 4 ≤ sizeLine; decide), fun q0 nq0 => ?_⟩⟩⟩⟩⟩
    refine ⟨q0, _, rfl, SqT.of upd_same, rfl, .ref NA0, _, rfl, .ref SA0, _, rfl, .ref RA0, _, rfl, .int 0, _, rfl, rfl, ?_⟩
    have a1 := get_new (o := .tup [V.ref NA0, V.ref SA0, V.ref RA0, V.int 0]) (get_new (get_new (get_new (upd_same (H := H) (a := NA0) (o := .lst [])) nSA) ne0) nRA) nq0
    have a2 := get_new (o := .tup [V.ref NA0, V.ref SA0, V.ref RA0, V.int 0]) (get_new (get_new (upd_same (H := upd H NA0 (.lst [])) (a := SA0) (o := .lst [])) ne0) nRA) nq0
    have a3 := get_new (o := .tup [V.ref NA0, V.ref SA0, V.ref RA0, V.int 0]) (get_new (upd_same (H := upd (upd H NA0 (.lst [])) SA0 (.lst [])) (a := e0) (o := .tup [])) nRA) nq0
    have a4 := get_new (o := .tup [V.ref NA0, V.ref SA0, V.ref RA0, V.int 0]) (upd_same (H := upd (upd (upd H NA0 (.lst [])) SA0 (.lst [])) e0 (.tup [])) (a := RA0) (o := .lst [V.ref e0])) nq0
    have s0 := ((((same_upd (o := .lst []) nNA).trans (same_upd (o := .lst []) nSA)).trans (same_upd (o := .tup []) ne0)).trans (same_upd (o := .lst [V.ref e0]) nRA)).trans (same_upd (o := .tup [V.ref NA0, V.ref SA0, V.ref RA0, V.int 0]) nq0)
    generalize (upd (upd (upd (upd (upd H NA0 (.lst [])) SA0 (.lst [])) e0 (.tup [])) RA0 (.lst [V.ref e0])) q0 (.tup [V.ref NA0, V.ref SA0, V.ref RA0, V.int 0])) = H0 at a1 a2 a3 a4 s0
    refine ⟨_, rfl, ⟨_, rfl⟩, _, _, rfl, rfl, by decide +kernel, Nat.le_trans (Nat.add_le_add_right hz 2) (by decide), fun L nL => ?_⟩
    have sL := same_upd (o := .lst ((linesOf z).map V.str)) nL
    refine ⟨L, _, rfl, SqL.of upd_same, for_it (walk_enum (xs := (linesOf z).map V.str)) (fun i σ H1 => ∃ (NA SA RA : Addr) (ks : List Key) (eds : List (List Nat)) (cnt : Nat) (v5 v6 v7 v8 v9 : Option V), σ = [some (.str z), some (.ref NA), some (.ref SA), some (.ref RA), some (.int (cnt : Int)), v5, v6, v7, v8, v9, none] ∧
        Same (upd H0 L (.lst ((linesOf z).map V.str))) H1 ∧ H1 NA = some (.lst (namesV ks)) ∧ H1 SA = some (.lst (sizesV ks)) ∧ RowsAt K H1 RA eds ∧ ks.length ≤ 3 ∧ (∀ k ∈ ks, k.2 ≤ 3) ∧ eds.length ≤ 27 ∧ (∀ r ∈ eds, r.length = ks.length) ∧ wrongN z = lawW ks eds cnt i ((linesOf z).drop i))
      ⟨NA0, SA0, RA0, [], [[]], 0, none, none, none, none, none, rfl, Same.refl _, sL _ _ a1, sL _ _ a2, ⟨[e0], sL _ _ a4, .cons (SqT.of (sL _ _ a3)) .nil⟩, by decide, (fun k hk => nomatch hk), by decide, (fun r hr => by rw [List.mem_singleton.mp hr]; rfl), rfl⟩
      (fun i σ H1 _ ⟨_, _, _, _, _, _, _, _, _, _, _, _, q, _⟩ => SqL.of (q _ _ upd_same)) ?_ ?_⟩
    · rintro i x σ H1 H2 hi ⟨NA, SA, RA, ks, eds, cnt, v5, v6, v7, v8, v9, rfl, s1, hNA, hSA, hRA, k3, kz, le, rl, heq⟩ ⟨T1, x1, x2, rfl, nT, rfl, e1, e2⟩
      obtain ⟨l, hl1, rfl⟩ : ∃ l, (linesOf z)[i]? = some l ∧ V.str l = x2 := by
        have e2' : ((linesOf z).map V.str)[i]? = some x2 := e2
        rw [List.getElem?_map] at e2'
        exact Option.map_eq_some_iff.mp e2'
      obtain rfl : V.int (i : Int) = x1 := Option.some.inj e1
      have lin := List.mem_of_getElem? hl1
      have lm1 : l.length ≤ 100000 := Nat.le_trans (split_mem lin).2 hz
      have ed : (linesOf z).drop i = l :: (linesOf z).drop (i + 1) := by
        obtain ⟨hlt, hv⟩ := List.getElem?_eq_some_iff.mp hl1
        rw [List.drop_eq_getElem_cons hlt, hv]
      rw [ed] at heq
      have hstep : wrongN z = match newKey ks cnt l with | some p => lawW (ks ++ [p]) (worthsOf ((ks ++ [p]).map (fun q : Key => q.2))) cnt (i + 1) ((linesOf z).drop (i + 1)) | none => if lawEds ks eds cnt l = [] then some i else lawW ks (lawEds ks eds cnt l) (cnt + 1) (i + 1) ((linesOf z).drop (i + 1)) := heq
      refine ⟨T1, _, rfl, SqT.of upd_same, rfl, .int (i : Int), _, rfl, .str l, _, rfl, rfl, ?_⟩
      refine ⟨_, rfl, ⟨_, rfl⟩, _, _, rfl, rfl, by decide +kernel, Nat.le_trans (Nat.add_le_add_right lm1 2) (by decide), fun p np => ?_⟩
      have s13 := (same_upd (o := .tup [.int (i : Int), .str l]) nT).trans (same_upd (o := .lst ((wordsOf l).map V.str)) np)
      have hp3 : (upd (upd H1 T1 (.tup [.int (i : Int), .str l])) p (.lst ((wordsOf l).map V.str))) p = some (.lst ((wordsOf l).map V.str)) := upd_same
      generalize hH3 : (upd (upd H1 T1 (.tup [.int (i : Int), .str l])) p (.lst ((wordsOf l).map V.str))) = H3 at s13 hp3
      have hH3' : (upd (upd H1 T1 (.tup [.int (i : Int), .str l])) p (.lst ((Txt.split l (PySem.Str.ofString " ")).map V.str))) = H3 := hH3
      rw [hH3']
      have wl := words_len lm1
      have wn : wordsOf l ≠ [] := split_ne l blank
      have hNA3 := s13 _ _ hNA
      have hSA3 := s13 _ _ hSA
      have hRA3 := hRA.same s13
      have s03 := s1.trans s13
      clear hH3 hH3'
      generalize hws : wordsOf l = ws at hp3 wl wn
      have lnk : (namesV ks).length = ks.length := by
        unfold namesV
        rw [List.length_map]
      -- is it the line of a key, but for its name?
      dsimp only [tSeq, tAsg]
      refine and_cut (fun B H' => Same H3 H' ∧ (B = true → ∃ a b c n, ws = [a, b, c] ∧ a = wKey ∧ numOf c = some n ∧ (n = 2 ∨ n = 3) ∧ cnt = 0 ∧ ks.length < 3) ∧ (B = false → newKey ks cnt l = none)) (fun R hR => ?_) (fun B H4 ⟨s4, hB1, hB0⟩ => ?_)
      · have no : (∀ p, keyOf ws = some p → cnt = 0 → ks.length < 3 → False) → ∀ H4, Same H3 H4 → R (.bl false) H4 := fun h H4 s4 => hR false H4 ⟨s4, (fun q => nomatch q), fun _ => by
          unfold newKey
          rw [hws]
          cases e : keyOf ws with
          | none => rfl
          | some p => exact if_neg fun q => h p e q.1 q.2.1⟩
        refine ⟨_, rfl, p, _, rfl, .inl (SqL.of hp3), rfl, _, rfl, ?_⟩
        refine ite2 (fun h3 => ?_) (fun h3 => ?_)
        · obtain ⟨a, b, c, rfl⟩ : ∃ a b c, ws = [a, b, c] := by
            have e := V.int.inj (of_decide_eq_true h3)
            rw [List.length_map] at e
            match ws, e with
            | [a, b, c], _ => exact ⟨a, b, c, rfl⟩
            | [], e => exact absurd e (by decide)
            | [_], e => exact absurd (show (1 : Int) = 3 from e) (by decide)
            | [_, _], e => exact absurd (show (2 : Int) = 3 from e) (by decide)
            | _ :: _ :: _ :: _ :: r, e =>
              simp only [List.length_cons] at e
              omega
          have kk : ∀ p, keyOf [a, b, c] = some p → a = wKey ∧ (numOf c = some 2 ∨ numOf c = some 3) := fun p e => by
            have e' : (if a = wKey ∧ nameB b = true ∧ (numOf c = some 2 ∨ numOf c = some 3) then some (b, if numOf c = some 2 then 2 else 3) else none) = some p := e
            split at e'
            · rename_i q
              exact ⟨q.1, q.2.2⟩
            · cases e'
          refine ⟨_, rfl, p, _, 0, .str a, rfl, rfl, SqL.of hp3, atI_nat (j := 0) rfl, rfl, _, rfl, ?_⟩
          refine ite2 (fun ha => ?_) (fun ha => ?_)
          · have ea : a = wKey := V.str.inj (of_decide_eq_true ha)
            refine ⟨_, rfl, p, _, 2, .str c, rfl, rfl, SqL.of hp3, atI_nat (j := 2) rfl, (by show 2 ≤ sizeLine; decide), fun t nt => ?_⟩
            refine ⟨t, _, rfl, .inr (SqT.of upd_same), rfl, rfl, _, rfl, ?_⟩
            have s4 := same_upd (o := .tup [V.str "2", V.str "3"]) nt
            have e2 : tx ("2" : Str) = [48 + 2] := by decide +kernel
            have e3 : tx ("3" : Str) = [48 + 3] := by decide +kernel
            have ec : inV (.str c) [.str "2", .str "3"] = decide (numOf c = some 2 ∨ numOf c = some 3) := by
              show ((("2" : Str) == c) || ((("3" : Str) == c) || false)) = _
              rw [Bool.eq_iff_iff, decide_eq_true_iff, numOf_small (show 2 < 10 by decide), numOf_small (show 3 < 10 by decide)]
              simp only [Bool.or_eq_true, beq_iff_eq, Bool.false_eq_true, or_false]
              constructor
              · rintro (q | q)
                · exact .inl (by rw [← q]; exact e2)
                · exact .inr (by rw [← q]; exact e3)
              · rintro (q | q)
                · exact .inl (TL.ext_tl (e2.trans q.symm))
                · exact .inr (TL.ext_tl (e3.trans q.symm))
            refine ite2 (fun hc => ?_) (fun hc => ?_)
            · have hc' : inV (.str c) [.str "2", .str "3"] = true := hc
              rw [ec] at hc'
              have hc2 := of_decide_eq_true hc'
              refine ⟨_, rfl, rfl, _, rfl, ?_⟩
              refine ite2 (fun h0 => ?_) (fun h0 => ?_)
              · have c0 : cnt = 0 := by
                  have := V.int.inj (of_decide_eq_true h0)
                  omega
                refine ⟨_, rfl, NA, _, rfl, .inl (SqL.of (s4 _ _ hNA3)), _, _, rfl, rfl, ?_⟩
                show R (.bl (decide (((namesV ks).length : Int) < 3))) _
                by_cases c3 : ks.length < 3
                · rw [decide_eq_true (show ((namesV ks).length : Int) < 3 by rw [lnk]; omega)]
                  obtain ⟨n, hn, hn2⟩ : ∃ n, numOf c = some n ∧ (n = 2 ∨ n = 3) := by
                    rcases hc2 with q | q
                    · exact ⟨2, q, .inl rfl⟩
                    · exact ⟨3, q, .inr rfl⟩
                  exact hR true _ ⟨s4, fun _ => ⟨a, b, c, n, rfl, ea, hn, hn2, c0, c3⟩, fun q => nomatch q⟩
                · rw [decide_eq_false (show ¬ ((namesV ks).length : Int) < 3 by rw [lnk]; omega)]
                  exact no (fun _ _ _ q => c3 q) _ s4
              · exact no (fun _ _ q _ => h0 (decide_eq_true (by rw [q]; rfl))) _ s4
            · refine no (fun p e _ _ => hc ?_) _ s4
              show inV (.str c) [.str "2", .str "3"] = true
              rw [ec]
              exact decide_eq_true (kk p e).2
          · exact no (fun p e _ _ => ha (decide_eq_true (congrArg V.str (kk p e).1))) H3 (Same.refl _)
        · refine no (fun p e _ _ => h3 (decide_eq_true ?_)) H3 (Same.refl _)
          unfold keyOf at e
          split at e
          · rfl
          · cases e
      dsimp only [gName]
      have hp4 := s4 _ _ hp3
      have hNA4 := s4 _ _ hNA3
      have hSA4 := s4 _ _ hSA3
      refine if_cut (fun b H' => Same H4 H' ∧ (b = true → ∃ a w1 c n, ws = [a, w1, c] ∧ numOf c = some n ∧ (n = 2 ∨ n = 3) ∧ ks.length < 3 ∧ newKey ks cnt l = some (w1, n)) ∧ (b = false → newKey ks cnt l = none)) (fun R hR => ?_) (fun H5 ⟨s5, hb, _⟩ => ?_) (fun H5 ⟨s5, _, hb⟩ => ?_)
      · refine ⟨_, rfl, B, rfl, ?_⟩
        cases B with
        | false => exact hR false H4 ⟨Same.refl _, (fun q => nomatch q), fun _ => hB0 rfl⟩
        | true =>
          obtain ⟨a, b, c, n, ew, ea, hn, hn2, c0, c3⟩ := hB1 rfl
          subst ew
          have ek : nameB b = true → keyOf [a, b, c] = some (b, n) := fun q => by
            show (if a = wKey ∧ nameB b = true ∧ (numOf c = some 2 ∨ numOf c = some 3) then some (b, if numOf c = some 2 then 2 else 3) else none) = _
            rw [if_pos ⟨ea, q, by rw [hn]; rcases hn2 with z | z <;> rw [z] <;> simp⟩, hn]
            rcases hn2 with z | z
            · rw [z, if_pos rfl]
            · rw [z, if_neg (by simp)]
          refine ⟨_, rfl, p, _, 1, .str b, rfl, rfl, SqL.of hp4, atI_nat (j := 1) rfl, b, rfl, Nat.le_trans (wl b (by simp)) (by decide), fun H5 s5 => ⟨_, rfl, ?_⟩⟩
          refine ite2 (fun hnm => ?_) (fun hnm => ?_)
          · have ek2 := ek hnm
            refine ⟨_, rfl, p, _, 1, .str b, rfl, rfl, SqL.of (s5 _ _ hp4), atI_nat (j := 1) rfl, _, rfl, NA, _, rfl, .inl (SqL.of (s5 _ _ hNA4)), rfl, flats_names ks, _, rfl, ?_⟩
            have ein := inV_names b ks
            show R (!inV (.str b) (namesV ks)) H5
            rw [ein]
            by_cases m : b ∈ ks.map (·.1)
            · rw [decide_eq_true m]
              refine hR false H5 ⟨s5, (fun q => nomatch q), fun _ => ?_⟩
              unfold newKey
              rw [hws, ek2]
              exact if_neg fun q => q.2.2 m
            · rw [decide_eq_false m]
              refine hR true H5 ⟨s5, fun _ => ⟨a, b, c, n, rfl, hn, hn2, c3, ?_⟩, fun q => nomatch q⟩
              unfold newKey
              rw [hws, ek2]
              exact if_pos ⟨c0, c3, m⟩
          · refine hR false H5 ⟨s5, (fun q => nomatch q), fun _ => ?_⟩
            unfold newKey
            rw [hws]
            have : keyOf [a, b, c] = none := if_neg fun q => hnm q.2.1
            rw [this]
      · -- a key
        obtain ⟨a, b, c, n, ew, hn, hn2, c3, enk⟩ := hb rfl
        subst ew
        rw [enk] at hstep
        obtain ⟨ci, cl⟩ := num_int hn (by omega)
        have hp5 := s5 _ _ hp4
        have hNA5 := s5 _ _ hNA4
        have hSA5 := s5 _ _ hSA4
        refine ⟨_, rfl, _, rfl, p, _, 1, .str b, rfl, rfl, SqL.of hp5, atI_nat (j := 1) rfl, (by show 1 ≤ sizeLine; decide), fun X nX => ?_⟩
        refine ⟨NA, X, _, _, rfl, rfl, get_new hNA5 nX, upd_same, by rw [lnk]; exact Nat.le_trans (show ks.length + 1 ≤ 4 by omega) (by decide), fun NB nNB => ?_⟩
        refine ⟨_, rfl, _, rfl, p, _, 2, .str c, rfl, rfl, SqL.of (get_new (get_new hp5 nX) nNB), atI_nat (j := 2) rfl, c, (n : Int), rfl, ci, cl, (by show 1 ≤ sizeLine; decide), fun Y nY => ?_⟩
        have lsk : (sizesV ks).length = ks.length := by
          unfold sizesV
          rw [List.length_map]
        refine ⟨SA, Y, _, _, rfl, rfl, get_new (get_new (get_new hSA5 nX) nNB) nY, upd_same, by rw [lsk]; exact Nat.le_trans (show ks.length + 1 ≤ 4 by omega) (by decide), fun SB nSB => ⟨_, _, rfl, ?_⟩⟩
        have hNB := get_new (o := .lst (sizesV ks ++ [V.int (n : Int)])) (get_new (o := .lst [V.int (n : Int)]) (upd_same (H := upd H5 X (.lst [V.str b])) (a := NB) (o := .lst (namesV ks ++ [V.str b]))) nY) nSB
        have hSB := upd_same (H := upd (upd (upd H5 X (.lst [V.str b])) NB (.lst (namesV ks ++ [V.str b]))) Y (.lst [V.int (n : Int)])) (a := SB) (o := .lst (sizesV ks ++ [V.int (n : Int)]))
        have s6 := (((same_upd (o := .lst [V.str b]) nX).trans (same_upd (o := .lst (namesV ks ++ [V.str b])) nNB)).trans (same_upd (o := .lst [V.int (n : Int)]) nY)).trans (same_upd (o := .lst (sizesV ks ++ [V.int (n : Int)])) nSB)
        generalize (upd (upd (upd (upd H5 X (.lst [V.str b])) NB (.lst (namesV ks ++ [V.str b]))) Y (.lst [V.int (n : Int)])) SB (.lst (sizesV ks ++ [V.int (n : Int)]))) = H6 at hNB hSB s6
        have esz : sizesV ks ++ [V.int (n : Int)] = rowV ((ks ++ [(b, n)]).map (fun q : Key => q.2)) := by
          unfold sizesV rowV
          rw [List.map_append, List.map_append, List.map_map]
          rfl
        have kz' : ∀ k ∈ ks ++ [(b, n)], k.2 ≤ 3 := fun k hk => by
          rcases List.mem_append.mp hk with hk | hk
          · exact kz k hk
          · rw [List.mem_singleton.mp hk]
            show n ≤ 3
            omega
        have kz2 : ∀ s ∈ (ks ++ [(b, n)]).map (fun q : Key => q.2), s ≤ 3 := fun s hs => by
          obtain ⟨k, hk, rfl⟩ := List.mem_map.mp hs
          exact kz' k hk
        have lk : (ks ++ [(b, n)]).length ≤ 3 := by
          rw [List.length_append]
          show ks.length + 1 ≤ 3
          omega
        refine ⟨_, rfl, SB, (ks ++ [(b, n)]).map (fun q : Key => q.2), rfl, by rw [← esz]; exact SqL.of hSB, by rw [List.length_map]; exact lk, kz2, fun H7 RB s7 fRB hRB => ?_⟩
        have s37 := ((s4.trans s5).trans s6).trans s7
        refine ⟨NB, SB, RB, ks ++ [(b, n)], _, cnt, _, _, _, _, _, rfl, s03.trans s37, ?_, ?_, hRB, lk, kz', ?_, ?_, hstep⟩
        · rw [s7 _ _ hNB]
          unfold namesV
          rw [List.map_append]
          rfl
        · rw [s7 _ _ hSB]
          unfold sizesV
          rw [List.map_append]
          rfl
        · have := worths_small (ss := (ks ++ [(b, n)]).map (fun q : Key => q.2)) (by rw [List.length_map]; exact lk) kz2 ((ks ++ [(b, n)]).map (fun q : Key => q.2)).length
          rw [List.take_length] at this
          exact this
        · intro r hr
          rw [worths_row hr, List.length_map]
      · -- a rule, or none
        rw [hb rfl] at hstep
        have hp5 := s5 _ _ hp4
        have hNA5 := s5 _ _ hNA4
        have hSA5 := s5 _ _ hSA4
        have s35 := s4.trans s5
        have hRA5 := hRA3.same s35
        dsimp only [tSeq]
        refine asg_cut (fun v H' => Same H5 H' ∧ ∃ pred : List Nat → Bool, lawEds ks eds cnt l = eds.filter pred ∧ ((v = .non ∧ ∀ r, pred r = false) ∨ ∃ q ls, v = .ref q ∧ LitsL H' q ls ∧ (∀ l1 ∈ ls, l1.1 < ks.length) ∧ ls.length ≤ 3 ∧ ∀ r, pred r = ls.any (soB r))) (fun R hR => ?_) (fun v H6 ⟨s6, pred, hpred, hv⟩ => ?_)
        · have non : lawEds ks eds cnt l = [] → ∀ H6, Same H5 H6 → R .non H6 := fun e H6 s6 => hR .non H6 ⟨s6, fun _ => false, by rw [e]; exact (List.filter_eq_nil_iff.mpr fun a _ => by simp).symm, .inl ⟨rfl, fun _ => rfl⟩⟩
          refine ⟨_, rfl, _, _, rfl, rfl, _, rfl, ?_⟩
          refine ite2 (fun c4 => ?_) (fun c4 => ?_)
          · have c4' : cnt < 4 := by
              have := of_decide_eq_true c4
              omega
            refine ⟨_, rfl, _, rfl, _, rfl, p, NA, SA, ws, ks, rfl, SqL.of hp5, wn, SqL.of hNA5, SqL.of hSA5, kz, fun H6 s6 e => non ?_ H6 s6, fun H6 q ls s6 e hl => hR (.ref q) H6 ⟨s6, fun r => ls.any (soB r), ?_, .inr ⟨q, ls, rfl, hl, ?_, ?_, fun _ => rfl⟩⟩⟩
            · unfold lawEds
              rw [if_pos c4', hws, e]
            · unfold lawEds
              rw [if_pos c4', hws, e]
              rfl
            · intro l1 hl1
              have e2 : litsIn ks l = ls := by
                unfold litsIn
                rw [hws, e]
                rfl
              exact litsIn_lt (z := l) (by rw [e2]; exact hl1)
            · have e2 : litsIn ks l = ls := by
                unfold litsIn
                rw [hws, e]
                rfl
              rw [← e2]
              exact litsIn_len
          · exact non (lawEds_ge fun q => c4 (decide_eq_true (by omega))) H5 (Same.refl _)
        obtain ⟨ts, hD3, prD⟩ := hRA5.same s6
        have lts : ts.length = eds.length := Paired.length prD
        refine ⟨_, rfl, RA, rfl, ⟨_, SqL.of hD3⟩, fun E2 nE => ?_⟩
        refine lc_list (K := K) (xs := ts.map V.ref) (fun j H' => Same H6 H' ∧ ∃ ts', H' E2 = some (.lst (ts'.map V.ref)) ∧ Paired (fun (t : Addr) (r : List Nat) => SqT K H' t (rowV r)) ts' ((eds.take j).filter pred) ∧ ts'.length ≤ j)
          ⟨same_upd nE, [], upd_same, .nil, Nat.zero_le _⟩ (fun j H' _ z => SqL.of (z.1 _ _ hD3)) ?_ ?_
        · rintro j x H' hx ⟨s7, ts', hE, pr', lt'⟩
          rw [List.getElem?_map] at hx
          obtain ⟨t, ht, rfl⟩ := Option.map_eq_some_iff.mp hx
          obtain ⟨r, hr1, hr2⟩ := paired_get prD ht
          have jlt : j < ts.length := (List.getElem?_eq_some_iff.mp ht).1
          have rlen := rl r (List.mem_of_getElem? hr1)
          have kp : (eds.take (j + 1)).filter pred = (eds.take j).filter pred ++ (if pred r = true then [r] else []) := filter_take hr1
          have no : pred r = false → ∀ H8, Same H' H8 → Same H6 H8 ∧ ∃ ts', H8 E2 = some (.lst (ts'.map V.ref)) ∧ Paired (fun (t : Addr) (r : List Nat) => SqT K H8 t (rowV r)) ts' ((eds.take (j + 1)).filter pred) ∧ ts'.length ≤ j + 1 := fun e H8 s8 => by
            refine ⟨s7.trans s8, ts', s8 _ _ hE, ?_, by omega⟩
            rw [kp, e]
            show Paired _ ts' (_ ++ [])
            rw [List.append_nil]
            exact Paired.mapP pr' fun t l e => sqT_same s8 e
          refine ⟨rfl, _, rfl, rfl, _, rfl, ?_⟩
          rcases hv with ⟨rfl, hv⟩ | ⟨q, lits, rfl, hv1, hv2, hv3, hv4⟩
          · refine ite2 (fun c => absurd c (by decide)) (fun _ => ?_)
            exact no (hv r) H' (Same.refl _)
          · refine ite2 (fun _ => ?_) (fun c => absurd (by rfl) c)
            refine ⟨_, rfl, _, rfl, q, t, lits, r, rfl, hv1.same s7, sqT_same s7 hr2, fun l1 hl1 => by rw [rlen]; exact hv2 l1 hl1, by omega, fun H8 s8 => ⟨_, rfl, ?_⟩⟩
            refine ite2 (fun c => ?_) (fun c => ?_)
            · have hE8 := s8 _ _ hE
              refine ⟨_, rfl, _, hE8, by rw [List.length_map]; exact small1000 (by omega), same_new (s7.trans s8) nE, ts' ++ [t], by rw [upd_same, List.map_append]; rfl, ?_, by rw [List.length_append]; show _ + 1 ≤ _; omega⟩
              rw [kp, hv4 r, if_pos c]
              exact paired_snoc (Paired.mapP pr' fun t l e => sqT_upd hE8 (sqT_same s8 e)) (sqT_upd hE8 (sqT_same (s7.trans s8) hr2))
            · refine no ?_ H8 s8
              rw [hv4 r]
              exact Bool.eq_false_iff.mpr c
        · rintro H7 ⟨s7, ts', hE, pr', lt'⟩
          rw [List.length_map, lts, List.take_length, ← hpred] at pr'
          have hE7 : RowsAt K H7 E2 (lawEds ks eds cnt l) := ⟨ts', hE, pr'⟩
          refine ⟨_, rfl, _, _, rfl, rfl, _, _, rfl, ?_⟩
          refine ⟨_, rfl, Nat.zero_le _, fun X nX => ?_⟩
          have sX := same_upd (o := .lst []) nX
          refine ⟨_, _, (hE7.same sX).dp, .lst (SqL.of upd_same) .nil, rows_shaped _, by decide, _, rfl, ?_⟩
          rw [rows_eqv]
          have s57 := (s6.trans s7).trans sX
          refine ite2 (fun c => ?_) (fun c => ?_)
          · refine ⟨_, rfl, ?_⟩
            have q := k _ ((s0.trans sL).trans ((s03.trans s35).trans s57))
            have hstep2 : wrongN z = if lawEds ks eds cnt l = [] then some i else lawW ks (lawEds ks eds cnt l) (cnt + 1) (i + 1) ((linesOf z).drop (i + 1)) := hstep
            rw [hstep2, if_pos (of_decide_eq_true c)] at q
            exact q
          · have c' : lawEds ks eds cnt l ≠ [] := fun q => c (decide_eq_true q)
            have hstep2 : wrongN z = if lawEds ks eds cnt l = [] then some i else lawW ks (lawEds ks eds cnt l) (cnt + 1) (i + 1) ((linesOf z).drop (i + 1)) := hstep
            rw [if_neg c'] at hstep2
            have sub : ∀ r ∈ lawEds ks eds cnt l, r ∈ eds := fun r hr => by
              rw [hpred] at hr
              exact (List.mem_filter.mp hr).1
            refine ⟨NA, SA, E2, ks, lawEds ks eds cnt l, cnt + 1, _, _, _, _, _, rfl, (s03.trans s35).trans s57, s57 _ _ hNA5, s57 _ _ hSA5, hE7.same sX, k3, kz, ?_, fun r hr => rl r (sub r hr), hstep2⟩
            rw [hpred]
            exact Nat.le_trans (List.length_filter_le _ _) le
    · rintro σ H1 ⟨NA, SA, RA, ks, eds, cnt, v5, v6, v7, v8, v9, rfl, s1, hNA, hSA, hRA, k3, kz, le, rl, heq⟩
      rw [List.length_map, List.drop_length] at heq
      have q := k H1 ((s0.trans sL).trans s1)
      have e : wrongN z = none := heq
      rw [e] at q
      exact q
end
end K01

namespace K01
open PySem L2
abbrev sSheet : Stmt := top 54
theorem seq_cut {t u : TS} {D : Ends} {σ : L2.St} {H : Hp} (Iv : L2.St → Hp → Prop) (h : ∀ N : L2.St → Hp → Prop, (∀ σ' H', Iv σ' H' → N σ' H') → t { D with nx := N } σ H) (k : ∀ σ' H', Iv σ' H' → u D σ' H') : tSeq t u D σ H := h _ k
/-- the jar at j, and all else as in H0 -/
def JK (H0 H : Hp) (j : Addr) (n : Nat) : Prop := Jar H j n ∧ Keep j H0 H
theorem JK.new {H0 H : Hp} {j p : Addr} {n : Nat} {o : HO} (h : JK H0 H j n) (hn : H p = none) : JK H0 (upd H p o) j n := ⟨h.1.upd (h.1.ne hn), h.2.upd_new (h.2.free hn (h.1.ne hn))⟩
theorem JK.more {H0 H : Hp} {j : Addr} {n m : Nat} (h : JK H0 H j n) (l : n ≤ m) : JK H0 H j m := ⟨h.1.mono l, h.2⟩
theorem Jar.same {H H' : Hp} {j : Addr} {n : Nat} (h : Jar H j n) (s : Same H H') : Jar H' j n := by
  obtain ⟨a, b, c, e, r⟩ := h
  exact ⟨a, b, c, s _ _ e, r⟩
theorem JK.same {H0 H H' : Hp} {j : Addr} {n : Nat} (h : JK H0 H j n) (s : Same H H') : JK H0 H' j n := ⟨h.1.same s, h.2.trans (K01.Same.keep s)⟩
theorem JK.move {H0 H H' : Hp} {j : Addr} {n m : Nat} (h : JK H0 H j n) (k : Keep j H H') (hj : Jar H' j m) : JK H0 H' j m := ⟨hj, h.2.trans k⟩
theorem not_jar {H : Hp} {j x : Addr} {n : Nat} {o : HO} (hj : Jar H j n) (h : H x = some o) (no : ∀ xs, o ≠ .lst xs) : x ≠ j := fun e => by
  obtain ⟨a, b, c, q, _⟩ := hj
  rw [e, q] at h
  exact no _ (Option.some.inj h).symm
theorem keep_tup {H H' : Hp} {j x : Addr} {n : Nat} {xs : List V} (hj : Jar H j n) (k : Keep j H H') (h : H x = some (.tup xs)) : H' x = some (.tup xs) := k _ _ (not_jar hj h fun _ q => nomatch q) h
theorem sqT_jar {K : PySem.W.Frag} {H H' : Hp} {j x : Addr} {n : Nat} {xs : List V} (hj : Jar H j n) (k : Keep j H H') (h : SqT K H x xs) : SqT K H' x xs := by
  rcases h with (h | ⟨o, h⟩) | h
  · exact .inl (.inl (keep_tup hj k h))
  · exact .inl (.inr ⟨o, k _ _ (not_jar hj h fun _ q => nomatch q) h⟩)
  · exact .inr h
/-! ### drawn sheets -/
structure Good (ks : List Key) (rules : List (List Lit)) (eds : List (List Nat)) : Prop where
  one : 1 ≤ ks.length
  three : ks.length ≤ 3
  nd : (ks.map (fun q : Key => q.1)).Nodup
  nm : ∀ k ∈ ks, IsNm k.1
  sz : ∀ k ∈ ks, k.2 = 2 ∨ k.2 = 3
  ls : ∀ l ∈ rules, 1 ≤ l.length ∧ l.length ≤ 3 ∧ ∀ x ∈ l, ∃ k, ks[x.1]? = some k ∧ x.2.2 < k.2
  ed : eds = rules.foldl (fun e l => keepR l e) (worthsOf (ks.map (fun q : Key => q.2)))
  ne : eds ≠ []
def RulL (H : Hp) (j p : Addr) (rules : List (List Lit)) : Prop := ∃ ts : List Addr, H p = some (.lst (ts.map V.ref)) ∧ Paired (fun (t : Addr) (l : List Lit) => t ≠ j ∧ LitsL H t l) ts rules
theorem litsL_keep {H H' : Hp} {j p : Addr} {n : Nat} {l : List Lit} (hj : Jar H j n) (k : Keep j H H') (np : p ≠ j) (h : LitsL H p l) : LitsL H' p l := by
  obtain ⟨ts, e, q⟩ := h
  exact ⟨ts, k _ _ np e, Paired.mapP q fun t l e => keep_tup hj k e⟩
theorem rulL_keep {H H' : Hp} {j p : Addr} {n : Nat} {rules : List (List Lit)} (hj : Jar H j n) (k : Keep j H H') (np : p ≠ j) (h : RulL H j p rules) : RulL H' j p rules := by
  obtain ⟨ts, e, q⟩ := h
  exact ⟨ts, k _ _ np e, Paired.mapP q fun t l ⟨e1, e2⟩ => ⟨e1, litsL_keep hj k e1 e2⟩⟩
theorem rowsAt_jar {K : PySem.W.Frag} {H H' : Hp} {j p : Addr} {n : Nat} {rows : List (List Nat)} (hj : Jar H j n) (k : Keep j H H') (np : p ≠ j) (h : RowsAt K H p rows) : RowsAt K H' p rows := by
  obtain ⟨ts, e, q⟩ := h
  exact ⟨ts, k _ _ np e, Paired.mapP q fun t r e => sqT_jar hj k e⟩
def sheetD (NA SA RU RO : Addr) : List (L2.Key × V) := [(.inr "names", .ref NA), (.inr "sizes", .ref SA), (.inr "rules", .ref RU), (.inr "rows", .ref RO)]
structure SD (K : PySem.W.Frag) (H : Hp) (j d NA SA RU RO : Addr) (ks : List Key) (rules : List (List Lit)) (eds : List (List Nat)) : Prop where
  nd : d ≠ j
  nN : NA ≠ j
  nS : SA ≠ j
  nU : RU ≠ j
  nO : RO ≠ j
  hd : H d = some (.dK (sheetD NA SA RU RO))
  hN : H NA = some (.lst (namesV ks))
  hS : H SA = some (.lst (sizesV ks))
  hU : RulL H j RU rules
  hO : RowsAt K H RO eds
theorem SD.keep {K : PySem.W.Frag} {H H' : Hp} {j d NA SA RU RO : Addr} {n : Nat} {ks : List Key} {rules : List (List Lit)} {eds : List (List Nat)} (h : SD K H j d NA SA RU RO ks rules eds) (hj : Jar H j n) (k : Keep j H H') : SD K H' j d NA SA RU RO ks rules eds :=
  ⟨h.nd, h.nN, h.nS, h.nU, h.nO, k _ _ h.nd h.hd, k _ _ h.nN h.hN, k _ _ h.nS h.hS, rulL_keep hj k h.nU h.hU, rowsAt_jar hj k h.nO h.hO⟩
theorem SD.same {K : PySem.W.Frag} {H H' : Hp} {j d NA SA RU RO : Addr} {n : Nat} {ks : List Key} {rules : List (List Lit)} {eds : List (List Nat)} (h : SD K H j d NA SA RU RO ks rules eds) (hj : Jar H j n) (s : Same H H') : SD K H' j d NA SA RU RO ks rules eds := h.keep hj (K01.Same.keep s)
def loreD (a b c : Int) : List (L2.Key × V) := [(.inr "keys", .int a), (.inr "size", .int b), (.inr "rules", .int c)]
theorem lit_keep {ks : List Key} {l : List Lit} (h : ∀ x ∈ l, ∃ k, ks[x.1]? = some k ∧ x.2.2 < k.2) : ∀ x ∈ l, x.1 < ks.length := fun x hx => by
  obtain ⟨k, e, _⟩ := h x hx
  exact (List.getElem?_eq_some_iff.mp e).1
theorem zip_names : ∀ {ws : List Str} {ss : List Nat}, ss.length = ws.length → namesV (ws.zip ss) = ws.map V.str ∧ sizesV (ws.zip ss) = rowV ss ∧ (ws.zip ss).map (fun q : Key => q.1) = ws ∧ (ws.zip ss).map (fun q : Key => q.2) = ss
  | [], [], _ => ⟨rfl, rfl, rfl, rfl⟩
  | w :: ws, s :: ss, h => by
    obtain ⟨a, b, c, d⟩ := zip_names (ws := ws) (ss := ss) (Nat.succ.inj h)
    exact ⟨congrArg (V.str w :: ·) a, congrArg (V.int (s : Int) :: ·) b, congrArg (w :: ·) c, congrArg (s :: ·) d⟩
  | [], _ :: _, h => nomatch h
  | _ :: _, [], h => nomatch h
theorem put_rules (a b c d x : Addr) : putK (sheetD a b c d) (.inr "rules") (.ref x) = sheetD a b x d := rfl
theorem put_rows (a b c d x : Addr) : putK (sheetD a b c d) (.inr "rows") (.ref x) = sheetD a b c x := rfl
theorem worths_ne : ∀ {ss : List Nat}, (∀ s ∈ ss, s = 2 ∨ s = 3) → worthsOf ss ≠ [] := by
  have key : ∀ (ss : List Nat) (acc : List (List Nat)), acc ≠ [] → (∀ s ∈ ss, s = 2 ∨ s = 3) → ss.foldl stepR acc ≠ [] := by
    intro ss
    induction ss with
    | nil => exact fun acc h _ => h
    | cons s l ih =>
      intro acc h hs
      rw [List.foldl_cons]
      refine ih _ (fun e => ?_) fun x hx => hs x (List.mem_cons_of_mem _ hx)
      have l := congrArg List.length e
      rw [stepR_len] at l
      have a : acc.length ≠ 0 := fun q => h (List.length_eq_zero_iff.mp q)
      have b := hs s List.mem_cons_self
      rcases Nat.mul_eq_zero.mp l with q | q
      · exact a q
      · omega
  exact fun {ss} h => key ss [[]] (by simp) h
section
variable {base : Heap} {P : Program} {w : World} {K : PySem.W.Frag} {mg : Str → Option Value}
theorem units1 {k : Nat} {A : Around} (hr : Room k A) : A.units + 1 < cLine := by
  have := units65 hr
  omega
theorem units64 {k : Nat} {A : Around} (hr : Room k A) : A.units + 64 < cLine := by
  have := units65 hr
  omega
def spSheet (K : PySem.W.Frag) : Sp := fun vs H Q _ => ∃ (j lo : Addr) (n : Nat), vs = [.ref j, .ref lo] ∧ Jar H j n ∧ n ≤ 6000 ∧ lo ≠ j ∧ H lo = some (.dK (loreD 3 3 4)) ∧
  ∀ (d NA SA RU RO : Addr) (H' : Hp) (ks : List Key) (rules : List (List Lit)) (eds : List (List Nat)), Good ks rules eds → rules.length ≤ 4 → Jar H' j (n + 100) → Keep j H H' → SD K H' j d NA SA RU RO ks rules eds → Q (.ref d) H'
abbrev nSheet : List Str := ["_law_jar_here", "_law_lore", "_law_many", "_law_names_here", "_law_sizes", "_law_sheet_here", "_law_turn", "_law_lits_here", "_law_part", "_law_place", "_law_left", "_law_name", "_law_row"]
theorem scSheet : FnScope nSheet ["_law_jar_here", "_law_lore"] (defScope sSheet) := ⟨rfl, rfl, rfl, by decide +kernel, rfl, by decide +kernel, by decide +kernel⟩
theorem merge4 (a b c d : Addr) : mergeK [] [(.inr "names", .ref a), (.inr "sizes", .ref b), (.inr "rules", .ref c), (.inr "rows", .ref d)] = sheetD a b c d := rfl
theorem ok_sheet {f : Addr} {fd : FuncData} (F : Fun K "_law_sheet" "_law_sheet" sSheet f fd) (T : Txt7 K mg) (G : jarTake P w K mg base) (GN : Has P w K mg base "_law_names" 3 ["_law_jar_here", "_law_many"] spNames) (GR : Has P w K mg base "_law_rows" 1 ["_law_sizes"] (spLRows K)) (GS : Has P w K mg base "_law_is_so" 1 ["_law_lits_here", "_law_row"] (spLSo K)) :
    FnOk P w K mg base CX0 4 f fd ["_law_jar_here", "_law_lore"] (spSheet K) := by
  refine F.ok scSheet (fun vs H Q E h => ?_) (fun cdv A outer s H vs Q E hr h => ?_)
  · obtain ⟨j, lo, n, rfl, _⟩ := h
    rfl
  · obtain ⟨j, lo, n, rfl, hj, hn, nlo, hlo, k⟩ := h
    have r1 : Room 1 _ := hr.mono (by decide)
    refine ⟨_, pss_cons (ps_set (i := 2) scSheet.nd rfl (.inl rfl) (pe_op op_add pe_int (pe_has G r1 (pa_cons (pv 0) (pa_cons (pe_dget (units1 hr) (pv 1) pe_str (fun _ _ => rfl)) pa_nil)))))
      (pss_cons (ps_set (i := 3) scSheet.nd rfl (.inl rfl) (pe_has GN hr (pa_cons (pv 0) (pa_cons (pv 2) pa_nil))))
      (pss_cons (ps_if (pt_cmpR op_eq (pe_has G r1 (pa_cons (pv 0) (pa_cons pe_int pa_nil))) pe_int (nomark _)) (pss_one (ps_set (i := 3) scSheet.nd rfl (.inl rfl) (pe_revL (pv 3)))) pss_nil)
      (pss_cons (ps_setLc (i := 4) (own := [("_law_name", 11)]) (g := gName 11) (tt := tYes) rfl scSheet.nd rfl rfl rfl (pi_list (pv 3))
          (blkOk_by (N := nSheet) (sc := defScope sSheet) (by decide +kernel)) (fun _ _ _ _ _ => pg_name (i := 11) scSheet.nd rfl (Or.inl rfl)) (fun _ _ _ _ _ => pts_nil)
          (fun _ _ _ _ _ => pe_op op_add pe_int (pe_has G r1 (pa_cons (pv 0) (pa_cons (pe_op op_sub (pe_dget (units1 hr) (pv 1) pe_str (fun _ _ => rfl)) pe_int) pa_nil)))))
      (pss_cons (ps_set (i := 5) scSheet.nd rfl (.inl rfl) (pe_disp (pps_cons pe_str (pv 3) (pps_cons pe_str (pv 4) (pps_cons pe_str (pe_lst pa_nil) (pps_cons pe_str (pe_has GR r1 (pa_cons (pv 4) pa_nil)) pps_nil)))) rfl rfl (by simp) (by decide)))
      (pss_cons (ps_for PassesOwn.never rfl (pi_range1 (by rfl) T.range (pa_cons (pe_has G r1 (pa_cons (pv 0) (pa_cons (pe_op op_add (pe_dget (units1 hr) (pv 1) pe_str (fun _ _ => rfl)) pe_int) pa_nil))) pa_nil)) (pg_name (i := 6) scSheet.nd rfl (.inl rfl))
        (pss_cons (ps_set (i := 7) scSheet.nd rfl (.inr rfl) (pe_lst pa_nil))
        (pss_cons (ps_for PassesOwn.never rfl (pi_range1 (by rfl) T.range (pa_cons (pe_op op_add pe_int (pe_has G r1 (pa_cons (pv 0) (pa_cons pe_int pa_nil)))) pa_nil)) (pg_name (i := 8) scSheet.nd rfl (.inl rfl))
          (pss_cons (ps_set (i := 9) scSheet.nd rfl (.inl rfl) (pe_has G r1 (pa_cons (pv 0) (pa_cons (pv 2) pa_nil))))
          (pss_one (ps_expr (pe_bm PySem.F.plainAttrs_list PySem.F.slot_list_append PySem.F.type_list_append mt_append (pv 7) (pa_cons (pe_tup (pa_cons (pv 9) (pa_cons (pe_cmpR op_eq (pe_has G r1 (pa_cons (pv 0) (pa_cons pe_int pa_nil))) pe_int (nomark _))
            (pa_cons (pe_has G r1 (pa_cons (pv 0) (pa_cons (pe_ix ix_list (pv 4) (pv 9) (fun _ _ => rfl)) pa_nil))) pa_nil)))) pa_nil))))))
        (pss_cons (ps_setLc (i := 10) (own := [("_law_row", 12)]) (g := gName 12) rfl scSheet.nd rfl rfl rfl (pi_list (pe_dget (units1 hr) (pv 5) pe_str (fun _ _ => rfl)))
            (blkOk_by (N := nSheet) (sc := defScope sSheet) (by decide +kernel)) (fun _ _ _ _ _ => pg_name (i := 12) scSheet.nd rfl (Or.inl rfl)) (fun _ _ _ _ _ => pts_one (pt_val (pe_has GS r1 (pa_cons (pv 7) (pa_cons (pv 12) pa_nil)))))
            (fun _ _ _ _ _ => pv 12))
        (pss_one (ps_if (pt_cmpR (op_neD (units64 hr)) (pv 10) (pe_lst pa_nil) (nomark _))
          (pss_one (ps_asg (pe_tup (pa_cons (pe_op op_cat (pe_dget (units1 hr) (pv 5) pe_str (fun _ _ => rfl)) (pe_lst (pa_cons (pv 7) pa_nil))) (pa_cons (pv 10) pa_nil))) (pg_tup rfl (pgs_cons (pg_sub (pv 5) pe_str (set_dict (units1 hr))) (pgs_cons (pg_sub (pv 5) pe_str (set_dict (units1 hr))) pgs_nil))))) pss_nil))))))
      (pss_one (ps_ret (pv 5)))))))), ?_⟩
    refine ⟨_, rfl, _, rfl, lo, .int 3, rfl, .inl ⟨_, .inr "keys", .inl hlo, rfl, rfl⟩, j, 3, n, rfl, hj, by omega, by omega, by omega, fun d0 H1 z0 z1 hj1 kp1 => ?_⟩
    obtain ⟨d, rfl⟩ := Int.eq_ofNat_of_zero_le z0
    refine ⟨_, _, rfl, rfl, ?_⟩
    refine ⟨_, rfl, _, rfl, j, n + 1, 1 + d, ?_, hj1, by omega, by omega, fun p1 H2 ws lw nd_ nm hj2 kp2 f1 e1 => ?_⟩
    · show [V.ref j, V.int (1 + (d : Int))] = [V.ref j, V.int ((1 + d : Nat) : Int)]
      rw [Int.natCast_add]
      rfl
    have np1 : p1 ≠ j := kp1 |> fun _ => hj1.ne f1
    have jk2 : JK H H2 j (n + 11) := ⟨hj2.mono (by omega), kp1.trans kp2⟩
    dsimp only [gName]
    refine seq_cut (fun σ' H' => ∃ (NA : Addr) (ws : List Str), σ' = [some (.ref j), some (.ref lo), some (.int (1 + (d : Int))), some (.ref NA), none, none, none, none, none, none, none, none, none] ∧ JK H H' j (n + 12) ∧ NA ≠ j ∧ H' NA = some (.lst (ws.map V.str)) ∧ ws.length = 1 + d ∧ ws.Nodup ∧ (∀ x ∈ ws, IsNm x)) (fun N hN => ?_) ?_
    · refine ⟨_, rfl, j, 2, n + 11, rfl, jk2.1, by omega, by decide, by decide, fun b H3 b0 b1 hj3 kp3 => ⟨rfl, _, rfl, ?_⟩⟩
      have jk3 : JK H H3 j (n + 12) := jk2.move kp3 hj3
      have e3 := kp3 _ _ np1 e1
      refine ite2 (fun _ => ?_) (fun _ => ?_)
      · refine ⟨_, rfl, p1, _, rfl, SqL.of e3, fun p np => ?_⟩
        refine hN _ _ ⟨p, ws.reverse, rfl, jk3.new np, jk3.1.ne np, by rw [upd_same, List.map_reverse], by rw [List.length_reverse]; exact lw, (by rw [List.Nodup, List.pairwise_reverse]; exact nd_.imp fun h e => h e.symm), fun x hx => nm x (List.mem_reverse.mp hx)⟩
      · exact hN _ _ ⟨p1, ws, rfl, jk3, np1, e3, lw, nd_, nm⟩
    rintro σ3 H3 ⟨NA, ws, rfl, jk3, nNA, hNA, lw, nd_, nm⟩
    have lw3 : ws.length ≤ 3 := by omega
    have hlo3 : H3 lo = some (.dK (loreD 3 3 4)) := jk3.2 _ _ nlo hlo
    dsimp only [tSeq, tAsg, tLc, iList, List.map]
    refine ⟨_, rfl, NA, rfl, ⟨_, SqL.of hNA⟩, fun SA nSA => ?_⟩
    have nSAj := jk3.1.ne nSA
    have nSN : SA ≠ NA := fun e => by
      rw [e, hNA] at nSA
      cases nSA
    have nSlo : SA ≠ lo := fun e => by
      rw [e, hlo3] at nSA
      cases nSA
    refine lc_list (K := K) (xs := ws.map V.str) (fun i H4 => ∃ ss : List Nat, ss.length = i ∧ (∀ s ∈ ss, s = 2 ∨ s = 3) ∧ H4 SA = some (.lst (rowV ss)) ∧ H4 NA = some (.lst (ws.map V.str)) ∧ H4 lo = some (.dK (loreD 3 3 4)) ∧ JK H H4 j (n + 12 + i) ∧ i ≤ 3)
      ⟨[], rfl, (fun s hs => nomatch hs), upd_same, by rw [upd_ne nSN.symm]; exact hNA, by rw [upd_ne nSlo.symm]; exact hlo3, jk3.new nSA, by decide⟩ (fun i H4 _ ⟨_, _, _, _, q, _⟩ => SqL.of q) ?_ ?_
    · rintro i x H4 hx ⟨ss, ls, hss, hSA, hNA4, hlo4, jk4, i3⟩
      have ilt : i < ws.length := by
        have := (List.getElem?_eq_some_iff.mp hx).1
        rwa [List.length_map] at this
      refine ⟨rfl, _, rfl, _, rfl, lo, .int 3, rfl, .inl ⟨_, .inr "size", .inl hlo4, rfl, rfl⟩, _, _, rfl, rfl, j, 2, n + 12 + i, rfl, jk4.1, by omega, by decide, by decide, fun s0 H5 z0 z1 hj5 kp5 => ⟨_, _, rfl, rfl, ?_⟩⟩
      obtain ⟨s, rfl⟩ := Int.eq_ofNat_of_zero_le z0
      have jk5 := jk4.move kp5 hj5
      refine ⟨_, kp5 _ _ nSAj hSA, ?_, ss ++ [2 + s], by rw [List.length_append, ls]; rfl, fun y hy => ?_, ?_, ?_, ?_, ⟨jk5.1.upd nSAj, jk5.2.upd_new (jk3.2.free nSA nSAj)⟩, by omega⟩
      · unfold rowV
        rw [List.length_map]
        exact small1000 (by omega)
      · rcases List.mem_append.mp hy with hy | hy
        · exact hss y hy
        · rw [List.mem_singleton.mp hy]
          omega
      · rw [upd_same]
        unfold rowV
        rw [List.map_append]
        show some (HO.lst (_ ++ [V.int (2 + (s : Int))])) = some (HO.lst (_ ++ [V.int ((2 + s : Nat) : Int)]))
        rw [Int.natCast_add]
        rfl
      · rw [upd_ne nSN.symm]
        exact kp5 _ _ nNA hNA4
      · rw [upd_ne nSlo.symm]
        exact kp5 _ _ nlo hlo4
    rintro H4 ⟨ss, ls, hss, hSA, hNA4, hlo4, jk4, i3⟩
    rw [List.length_map] at ls jk4 i3
    obtain ⟨zN, zS, z1, z2⟩ := zip_names (ws := ws) (ss := ss) ls
    generalize hks : ws.zip ss = ks at zN zS z1 z2
    have lks : ks.length = ws.length := by
      rw [← z1, List.length_map]
    have hss3 : ∀ s ∈ ss, s ≤ 3 := fun s hs => by
      have := hss s hs
      omega
    have hss' : ∀ k ∈ ks, k.2 = 2 ∨ k.2 = 3 := fun k hk => hss _ (by rw [← z2]; exact List.mem_map_of_mem hk)
    refine fun dd ndd => ?_
    have nddj := jk4.1.ne ndd
    refine ⟨.ref NA, rfl, .ref SA, rfl, Nat.zero_le _, fun RU nRU => ?_⟩
    have g1 := get_new (o := .lst []) (get_new (o := .dK []) hSA ndd) nRU
    refine ⟨_, rfl, SA, ss, rfl, SqL.of g1, by omega, hss3, fun H6 RO s6 fRO hRO => ?_⟩
    have jkU : JK H (upd (upd H4 dd (.dK [])) RU (.lst [])) j (n + 12 + ws.length) := (jk4.new ndd).new nRU
    have hdd6 := s6 _ _ (get_new (o := .lst []) (upd_same (H := H4) (a := dd) (o := .dK [])) nRU)
    have hRU6 := s6 _ _ (upd_same (H := upd H4 dd (.dK [])) (a := RU) (o := .lst []))
    have hNA6 := s6 _ _ (get_new (o := .lst []) (get_new (o := .dK []) hNA4 ndd) nRU)
    have hSA6 := s6 _ _ g1
    have hlo6 := s6 _ _ (get_new (o := .lst []) (get_new (o := .dK []) hlo4 ndd) nRU)
    have jk6 := jkU.same s6
    have nRUj := (jk4.new ndd).1.ne nRU
    have nROj := jkU.1.ne fRO
    refine ⟨hdd6, [(.inr "names", .ref NA), (.inr "sizes", .ref SA), (.inr "rules", .ref RU), (.inr "rows", .ref RO)], rfl, (by show 4 ≤ 15; decide), ?_⟩
    rw [merge4]
    have fdd : H dd = none := jk4.2.free ndd nddj
    have kd6 : Keep dd H6 (upd H6 dd (.dK (sheetD NA SA RU RO))) := Keep.put
    have jk7 : JK H (upd H6 dd (.dK (sheetD NA SA RU RO))) j (n + 15) := ⟨(jk6.1.upd nddj).mono (by omega), jk6.2.upd_new fdd⟩
    have good0 : Good ks [] (worthsOf (ks.map (fun q : Key => q.2))) := ⟨by omega, by omega, by rw [z1]; exact nd_, fun k hk => nm _ (by rw [← z1]; exact List.mem_map_of_mem hk), hss', (fun l hl => nomatch hl), rfl, worths_ne fun s hs => by rw [z2] at hs; exact hss s hs⟩
    have sd7 : SD K (upd H6 dd (.dK (sheetD NA SA RU RO))) j dd NA SA RU RO ks [] (worthsOf (ks.map (fun q : Key => q.2))) :=
      ⟨nddj, nNA, nSAj, nRUj, nROj, upd_same, by rw [zN]; exact keep_of kd6 hdd6 hNA6 (by simp), by rw [zS]; exact keep_of kd6 hdd6 hSA6 (by simp), ⟨[], keep_of kd6 hdd6 hRU6 (by simp), .nil⟩, by
        obtain ⟨ts, e, q⟩ := hRO
        rw [z2]
        refine ⟨ts, keep_of kd6 hdd6 e (by simp), Paired.mapP q fun t r e => ?_⟩
        rcases e with (e | ⟨o, e⟩) | e
        · exact .inl (.inl (keep_of kd6 hdd6 e (by simp)))
        · exact .inl (.inr ⟨o, keep_of kd6 hdd6 e (by simp)⟩)
        · exact .inr e⟩
    have hlo7 : (upd H6 dd (.dK (sheetD NA SA RU RO))) lo = some (.dK (loreD 3 3 4)) := jk7.2 _ _ nlo hlo
    generalize (upd H6 dd (.dK (sheetD NA SA RU RO))) = H7 at jk7 sd7 hlo7
    clear kd6 hdd6 hRU6 hNA6 hSA6 hlo6 jk6 jkU g1 jk4 hSA hNA4 hlo4 jk3 hNA hlo3
    refine ⟨_, rfl, _, rfl, lo, .int 4, rfl, .inl ⟨_, .inr "rules", .inl hlo7, rfl, rfl⟩, _, _, rfl, rfl, j, 5, n + 15, rfl, jk7.1, by omega, by decide, by decide, fun r0 H8 z0 z1' hj8 kp8 => ?_⟩
    obtain ⟨r, rfl⟩ := Int.eq_ofNat_of_zero_le z0
    have sd8 := sd7.keep jk7.1 kp8
    have jk8 := jk7.move kp8 hj8
    refine ⟨_, rfl, by omega, by omega, for_range (lo := 0) (n := ((r : Nat) : Int).toNat) (fun i σ H' => ∃ (RU RO : Addr) (rules : List (List Lit)) (eds : List (List Nat)) (v6 v7 v8 v9 v10 : Option V), σ = [some (.ref j), some (.ref lo), some (.int (1 + (d : Int))), some (.ref NA), some (.ref SA), some (.ref dd), v6, v7, v8, v9, v10, none, none] ∧
      JK H H' j (n + 20 + 10 * i) ∧ SD K H' j dd NA SA RU RO ks rules eds ∧ Good ks rules eds ∧ rules.length ≤ i) ⟨RU, RO, [], _, none, none, none, none, none, rfl, jk8.more (by omega), sd8, good0, Nat.le_refl _⟩ ?_ ?_⟩
    · rintro i σ HB hi ⟨RU, RO, rules, eds, v6, v7, v8, v9, v10, rfl, jkB, sdB, good, lr⟩
      have i4 : i < 4 := by omega
      refine ⟨Nat.zero_le _, fun L nL => ?_⟩
      have nLj := jkB.1.ne nL
      have jkL : JK HB (upd HB L (.lst [])) j (n + 20 + 10 * i) := JK.new (H0 := HB) ⟨jkB.1, Keep.refl _ _⟩ nL
      refine ⟨_, rfl, j, 3, n + 20 + 10 * i, rfl, jkL.1, by omega, by decide, by decide, fun c0 HC z0 z1' hjC kpC => ?_⟩
      obtain ⟨c, rfl⟩ := Int.eq_ofNat_of_zero_le z0
      have jkC := jkL.move kpC hjC
      refine ⟨_, _, rfl, rfl, _, rfl, by omega, by omega, for_range (lo := 0) (n := (1 + (c : Int)).toNat) (fun q σ H' => ∃ (ls : List Lit) (ts : List Addr) (v8 v9 : Option V), σ = [some (.ref j), some (.ref lo), some (.int (1 + (d : Int))), some (.ref NA), some (.ref SA), some (.ref dd), some (.int (0 + (i : Int))), some (.ref L), v8, v9, v10, none, none] ∧
        JK HB H' j (n + 20 + 10 * i + 1 + 3 * q) ∧ H' L = some (.lst (ts.map V.ref)) ∧ Paired (fun (t : Addr) (l : Lit) => H' t = some (.tup (litV l))) ts ls ∧ (∀ x ∈ ls, ∃ k, ks[x.1]? = some k ∧ x.2.2 < k.2) ∧ ls.length = q) ⟨[], [], _, _, rfl, jkC, kpC _ _ nLj upd_same, .nil, (fun x hx => nomatch hx), rfl⟩ ?_ ?_⟩
      · rintro q σ HQ hq ⟨lits, ts, v8, v9, rfl, jkQ, hL, pr, hv, lq⟩
        have q3 : q < 3 := by omega
        refine ⟨_, rfl, _, rfl, j, 1 + (d : Int), n + 20 + 10 * i + 1 + 3 * q, rfl, jkQ.1, by omega, by omega, by omega, fun pl0 H9 z0 z1' hj9 kp9 => ?_⟩
        obtain ⟨pl, rfl⟩ := Int.eq_ofNat_of_zero_le z0
        have jk9 := jkQ.move kp9 hj9
        have hL9 := kp9 _ _ nLj hL
        refine ⟨_, rfl, .inl ⟨rfl, _, SqL.of hL9⟩, _, rfl, ?_⟩
        refine ⟨_, rfl, j, 2, _, rfl, jk9.1, by omega, by decide, by decide, fun b H10 b0 b1 hj10 kp10 => ⟨rfl, ?_⟩⟩
        have jk10 := jk9.move kp10 hj10
        have sd10 := sdB.keep jkB.1 jk10.2
        have plt : pl < ks.length := by omega
        obtain ⟨kx, hkx⟩ : ∃ kx, ks[pl]? = some kx := ⟨_, List.getElem?_eq_getElem plt⟩
        have hks2 := hss' kx (List.mem_of_getElem? hkx)
        have hat : atI (sizesV ks) ((pl : Nat) : Int) = some (.int (kx.2 : Int)) := atI_nat (by
          unfold sizesV
          rw [List.getElem?_map, hkx]
          rfl)
        refine ⟨_, rfl, _, rfl, _, rfl, SA, _, _, _, rfl, rfl, SqL.of sd10.hS, hat, j, (kx.2 : Int), _, rfl, jk10.1, by omega, by omega, by omega, fun w0 H11 z0 z1' hj11 kp11 => ?_⟩
        obtain ⟨wv, rfl⟩ := Int.eq_ofNat_of_zero_le z0
        have jk11 := jk10.move kp11 hj11
        have hL11 := kp11 _ _ nLj (kp10 _ _ nLj hL9)
        have pr11 : Paired (fun (t : Addr) (l : Lit) => H11 t = some (.tup (litV l))) ts lits := Paired.mapP pr fun t l e => keep_tup jk10.1 kp11 (keep_tup jk9.1 kp10 (keep_tup jkQ.1 kp9 e))
        refine ⟨(by show 3 ≤ sizeLine; decide), fun tq ntq => ?_⟩
        have s12 := same_upd (o := .tup [V.int (pl : Int), V.bl (decide (V.int b = V.int 0)), V.int (wv : Int)]) ntq
        have hL12 := s12 _ _ hL11
        have lts : ts.length = q := by
          rw [Paired.length pr, lq]
        refine ⟨L, _, _, rfl, rfl, hL12, by rw [List.length_map]; exact small1000 (by omega), ?_⟩
        obtain ⟨ts2, m1, m2⟩ := litsL_snoc (l := (pl, decide (V.int b = V.int 0), wv)) hL12 (Paired.mapP pr11 fun t l e => s12 _ _ e) (q := tq) upd_same
        have jk12 := jk11.same s12
        refine ⟨lits ++ [(pl, decide (V.int b = V.int 0), wv)], ts2, _, _, rfl, ⟨(jk12.1.upd nLj).mono (by omega), jk12.2.upd_new nL⟩, m1, m2, fun x hx => ?_, by rw [List.length_append, lq]; rfl⟩
        rcases List.mem_append.mp hx with hx | hx
        · exact hv x hx
        · rw [List.mem_singleton.mp hx]
          exact ⟨kx, hkx, by show wv < kx.2; omega⟩
      · rintro σ HQ ⟨lits, ts, v8, v9, rfl, jkQ, hL, pr, hv, lq⟩
        have lq3 : 1 ≤ lits.length ∧ lits.length ≤ 3 := by omega
        have sdQ := sdB.keep jkB.1 jkQ.2
        have hLl : LitsL HQ L lits := ⟨ts, hL, pr⟩
        obtain ⟨tr, hD3, prD⟩ := sdQ.hO
        have lts : tr.length = eds.length := Paired.length prD
        have rlen : ∀ r ∈ eds, r.length = ks.length := by
          rw [good.ed]
          have key : ∀ (rules : List (List Lit)) (e0 : List (List Nat)), (∀ r ∈ e0, r.length = ks.length) → ∀ r ∈ rules.foldl (fun e l => keepR l e) e0, r.length = ks.length := by
            intro rules
            induction rules with
            | nil => exact fun e0 h => h
            | cons l rs ih => exact fun e0 h => ih _ fun r hr => h r (List.mem_filter.mp hr).1
          exact key rules _ fun r hr => by rw [worths_row hr, List.length_map]
        have e27 : eds.length ≤ 27 := by
          rw [good.ed]
          have key : ∀ (rules : List (List Lit)) (e0 : List (List Nat)), (rules.foldl (fun e l => keepR l e) e0).length ≤ e0.length := by
            intro rules
            induction rules with
            | nil => exact fun e0 => Nat.le_refl _
            | cons l rs ih => exact fun e0 => Nat.le_trans (ih _) (List.length_filter_le _ _)
          refine Nat.le_trans (key rules _) ?_
          have := worths_small (ss := ks.map (fun q : Key => q.2)) (by rw [List.length_map]; exact good.three) (fun s hs => by
            obtain ⟨k, hk, rfl⟩ := List.mem_map.mp hs
            have := good.sz k hk
            omega) (ks.map (fun q : Key => q.2)).length
          rw [List.take_length] at this
          exact this
        dsimp only [tSeq, tAsg, tLc, iList, List.map]
        refine ⟨_, rfl, dd, .ref RO, rfl, .inl ⟨_, .inr "rows", .inl sdQ.hd, rfl, rfl⟩, RO, rfl, ⟨_, SqL.of hD3⟩, fun E2 nE => ?_⟩
        refine lc_list (K := K) (xs := tr.map V.ref) (fun m H' => Same HQ H' ∧ ∃ ts', H' E2 = some (.lst (ts'.map V.ref)) ∧ Paired (fun (t : Addr) (r : List Nat) => SqT K H' t (rowV r)) ts' (keepR lits (eds.take m)) ∧ ts'.length ≤ m)
          ⟨same_upd nE, [], upd_same, .nil, Nat.zero_le _⟩ (fun m H' _ z => SqL.of (z.1 _ _ hD3)) ?_ ?_
        · rintro m x H' hx ⟨s4, ts', hE, pr', lt'⟩
          rw [List.getElem?_map] at hx
          obtain ⟨t, ht, rfl⟩ := Option.map_eq_some_iff.mp hx
          obtain ⟨rr, hr1, hr2⟩ := paired_get prD ht
          have mlt : m < tr.length := (List.getElem?_eq_some_iff.mp ht).1
          have rl := rlen rr (List.mem_of_getElem? hr1)
          have kp : keepR lits (eds.take (m + 1)) = keepR lits (eds.take m) ++ (if lits.any (soB rr) = true then [rr] else []) := filter_take hr1
          refine ⟨rfl, _, rfl, _, rfl, L, t, lits, rr, rfl, hLl.same s4, sqT_same s4 hr2, fun l1 hl1 => by rw [rl]; exact lit_keep hv l1 hl1, by omega, fun H5 s5 => ⟨_, rfl, ?_⟩⟩
          refine ite2 (fun hb => ?_) (fun hb => ?_)
          · have hE5 := s5 _ _ hE
            refine ⟨_, rfl, _, hE5, by rw [List.length_map]; exact small1000 (by omega), same_new (s4.trans s5) nE, ts' ++ [t], by rw [upd_same, List.map_append]; rfl, ?_, by rw [List.length_append]; show _ + 1 ≤ _; omega⟩
            rw [kp, if_pos hb]
            exact paired_snoc (Paired.mapP pr' fun t l e => sqT_upd hE5 (sqT_same s5 e)) (sqT_upd hE5 (sqT_same (s4.trans s5) hr2))
          · refine ⟨s4.trans s5, ts', s5 _ _ hE, ?_, by omega⟩
            rw [kp, if_neg hb, List.append_nil]
            exact Paired.mapP pr' fun t l e => sqT_same s5 e
        · rintro H5 ⟨s5, ts', hE, pr', lt'⟩
          rw [List.length_map, lts, List.take_length] at pr'
          have hE5 : RowsAt K H5 E2 (keepR lits eds) := ⟨ts', hE, pr'⟩
          have jk5 : JK H H5 j (n + 20 + 10 * (i + 1)) := ((jkB.move jkQ.2 jkQ.1).same s5).more (by omega)
          have sd5 := sdQ.same jkQ.1 s5
          have hL5 := hLl.same s5
          have nE2j : E2 ≠ j := jkQ.1.ne nE
          refine ⟨_, rfl, Nat.zero_le _, fun X nX => ?_⟩
          have sX := same_upd (o := .lst []) nX
          refine ⟨_, _, (hE5.same sX).dp, .lst (SqL.of upd_same) .nil, rows_shaped _, by decide, _, rfl, ?_⟩
          rw [rows_eqv]
          refine ite2 (fun cne => ?_) (fun _ => ?_)
          · have ne' : keepR lits eds ≠ [] := fun q => by
              rw [decide_eq_true q] at cne
              cases cne
            have sd6 := sd5.same jk5.1 sX
            have jk6 := jk5.new (o := .lst []) nX
            refine ⟨_, rfl, dd, .ref RU, rfl, .inl ⟨_, .inr "rules", .inl sd6.hd, rfl, rfl⟩, _, rfl, (by show 1 ≤ sizeLine; decide), fun Y nY => ?_⟩
            obtain ⟨tu, hRU, prU⟩ := sd6.hU
            have ltu : tu.length = rules.length := Paired.length prU
            refine ⟨RU, Y, _, _, rfl, rfl, get_new hRU nY, upd_same, by rw [List.length_map]; exact Nat.le_trans (show tu.length + 1 ≤ 5 by omega) (by decide), fun RN nRN => ?_⟩
            refine ⟨_, rfl, (by show 2 ≤ sizeLine; decide), fun tq ntq => ?_⟩
            have s69 := ((same_upd (o := .lst [V.ref L]) nY).trans (same_upd (o := .lst (tu.map V.ref ++ [V.ref L])) nRN)).trans (same_upd (o := .tup [V.ref RN, V.ref E2]) ntq)
            have hRN := get_new (o := .tup [V.ref RN, V.ref E2]) (upd_same (H := upd (upd H5 X (.lst [])) Y (.lst [V.ref L])) (a := RN) (o := .lst (tu.map V.ref ++ [V.ref L]))) ntq
            have nRNj : RN ≠ j := (jk6.new (o := .lst [V.ref L]) nY).1.ne nRN
            have htq := upd_same (H := upd (upd (upd H5 X (.lst [])) Y (.lst [V.ref L])) RN (.lst (tu.map V.ref ++ [V.ref L]))) (a := tq) (o := .tup [V.ref RN, V.ref E2])
            have jk9 := jk6.same s69
            have sd9 := sd6.same jk6.1 s69
            have hL9 := hL5.same (sX.trans s69)
            have hE9 := (hE5.same sX).same s69
            have prU9 : Paired (fun (t : Addr) (l : List Lit) => t ≠ j ∧ LitsL _ t l) tu rules := Paired.mapP prU fun t l ⟨a, b⟩ => ⟨a, b.same s69⟩
            generalize (upd (upd (upd (upd H5 X (.lst [])) Y (.lst [V.ref L])) RN (.lst (tu.map V.ref ++ [V.ref L]))) tq (.tup [V.ref RN, V.ref E2])) = H9 at hRN htq jk9 sd9 hL9 hE9 prU9
            refine ⟨tq, _, rfl, SqT.of htq, rfl, .ref RN, _, rfl, _, rfl, dd, _, rfl, DPut.k (k := .inr "rules") sd9.hd (by show 4 < sizeLine; decide), .ref E2, _, rfl, _, rfl, dd, _, rfl, DPut.k (k := .inr "rows") upd_same (by show 4 < sizeLine; decide), rfl, ?_⟩
            rw [upd_upd, put_rules, put_rows]
            have kd : Keep dd H9 (upd H9 dd (.dK (sheetD NA SA RN E2))) := Keep.put
            have lk : ∀ {t : Addr} {l : List Lit}, LitsL H9 t l → LitsL (upd H9 dd (.dK (sheetD NA SA RN E2))) t l := fun {t l} ⟨a, b, c⟩ => ⟨a, keep_of kd sd9.hd b (by simp), Paired.mapP c fun t l e => keep_of kd sd9.hd e (by simp)⟩
            refine ⟨RN, E2, rules ++ [lits], keepR lits eds, _, _, _, _, _, rfl, ⟨jk9.1.upd nddj, jk9.2.upd_new fdd⟩, ⟨nddj, nNA, nSAj, nRNj, nE2j, upd_same, keep_of kd sd9.hd sd9.hN (by simp), keep_of kd sd9.hd sd9.hS (by simp), ?_, ?_⟩, ⟨good.one, good.three, good.nd, good.nm, good.sz, fun l hl => ?_, ?_, ne'⟩, ?_⟩
            · refine ⟨tu ++ [L], by rw [keep_of kd sd9.hd hRN (by simp), List.map_append]; rfl, paired_snoc (Paired.mapP prU9 fun t l ⟨a, b⟩ => ⟨a, lk b⟩) ⟨nLj, lk hL9⟩⟩
            · obtain ⟨tz, a, b⟩ := hE9
              refine ⟨tz, keep_of kd sd9.hd a (by simp), Paired.mapP b fun t r e => ?_⟩
              rcases e with (e | ⟨o, e⟩) | e
              · exact .inl (.inl (keep_of kd sd9.hd e (by simp)))
              · exact .inl (.inr ⟨o, keep_of kd sd9.hd e (by simp)⟩)
              · exact .inr e
            · rcases List.mem_append.mp hl with hl | hl
              · exact good.ls l hl
              · rw [List.mem_singleton.mp hl]
                exact ⟨lq3.1, lq3.2, hv⟩
            · rw [List.foldl_append, ← good.ed]
              rfl
            · rw [List.length_append]
              show _ + 1 ≤ _
              omega
          · refine ⟨RU, RO, rules, eds, _, _, _, _, _, rfl, jk5.new nX, sd5.same jk5.1 sX, good, by omega⟩
    · rintro σ H' ⟨RU, RO, rules, eds, v6, v7, v8, v9, v10, rfl, jkE, sdE, good, lr⟩
      refine ⟨_, rfl, k dd NA SA RU RO H' ks rules eds good (by omega) (jkE.1.mono (by omega)) jkE.2 sdE⟩
end
end K01

namespace K01
open PySem L2
/-! ### the lines of a drawn sheet, plainly -/
def numS (n : Nat) : Str := PySem.Str.ofString (toString ((n : Nat) : Int))
def nameOf (ks : List Key) (i : Nat) : Str := (ks.getD i (Str.empty, 0)).1
def keyLine (k : Key) : Str := ((("key " : Str) ++ k.1) ++ (" " : Str)) ++ numS k.2
def litText (ks : List Key) (l : Lit) : Str := (nameOf ks l.1 ++ (if l.2.1 = true then (" = " : Str) else (" != " : Str))) ++ numS l.2.2
def ruleLine (ks : List Key) (ls : List Lit) : Str := ("rule " : Str) ++ Txt.join (" or " : Str) (ls.map (litText ks))
def drawnL (ks : List Key) (rules : List (List Lit)) : List Str := ks.map keyLine ++ rules.map (ruleLine ks)
def signW (b : Bool) : Str := if b = true then wEq else wNe
def litWords (ks : List Key) (l : Lit) : List Str := [nameOf ks l.1, signW l.2.1, numS l.2.2]
def ruleWords (ks : List Key) : List Lit → List Str
  | [] => [wRule]
  | [a] => wRule :: litWords ks a
  | a :: r => wRule :: (litWords ks a ++ wOr :: (ruleWords ks r).tail)
theorem numS_tx {n : Nat} (h : n < 10) : tx (numS n) = [48 + n] := by
  have e : tx (numS n) = TL.numL n := TL.tl_num n
  rw [e, TL.numL_lt h]
theorem numS_num {n : Nat} (h : n < 10) : numOf (numS n) = some n := (numOf_small h).mpr (numS_tx h)
theorem t_key : TL.tl ("key " : Str) = TL.tl wKey ++ TL.tl blank := by decide +kernel
theorem t_rule : TL.tl ("rule " : Str) = TL.tl wRule ++ TL.tl blank := by decide +kernel
theorem t_b : TL.tl (" " : Str) = TL.tl blank := by decide +kernel
theorem t_or : TL.tl (" or " : Str) = TL.tl blank ++ (TL.tl wOr ++ TL.tl blank) := by decide +kernel
theorem t_eq : TL.tl (" = " : Str) = TL.tl blank ++ (TL.tl wEq ++ TL.tl blank) := by decide +kernel
theorem t_ne : TL.tl (" != " : Str) = TL.tl blank ++ (TL.tl wNe ++ TL.tl blank) := by decide +kernel
theorem key_join (k : Key) : keyLine k = Txt.join blank [wKey, k.1, numS k.2] := by
  refine TL.ext_tl ?_
  rw [TL.join_eq, TL.tl_join]
  unfold keyLine
  rw [TL.tl_append, TL.tl_append, TL.tl_append, t_key, t_b]
  show _ = TL.tl wKey ++ (TL.tl blank ++ (TL.tl k.1 ++ (TL.tl blank ++ TL.tl (numS k.2))))
  simp only [List.append_assoc]
theorem lit_tl (ks : List Key) (l : Lit) : TL.tl (litText ks l) = TL.tl (nameOf ks l.1) ++ (TL.tl blank ++ (TL.tl (signW l.2.1) ++ (TL.tl blank ++ TL.tl (numS l.2.2)))) := by
  unfold litText signW
  rw [TL.tl_append, TL.tl_append]
  cases l.2.1
  · rw [if_neg Bool.false_ne_true, if_neg Bool.false_ne_true, t_ne]
    simp only [List.append_assoc]
  · rw [if_pos rfl, if_pos rfl, t_eq]
    simp only [List.append_assoc]
theorem rule_join {ks : List Key} {ls : List Lit} (h1 : 1 ≤ ls.length) (h3 : ls.length ≤ 3) : ruleLine ks ls = Txt.join blank (ruleWords ks ls) := by
  refine TL.ext_tl ?_
  rw [TL.join_eq, TL.tl_join]
  unfold ruleLine
  rw [TL.tl_append, TL.join_eq, TL.tl_join, t_rule]
  match ls, h1, h3 with
  | [], h, _ => exact absurd h (by decide)
  | [a], _, _ =>
    show _ ++ TL.tl (litText ks a) = TL.tl wRule ++ (TL.tl blank ++ (TL.tl (nameOf ks a.1) ++ (TL.tl blank ++ (TL.tl (signW a.2.1) ++ (TL.tl blank ++ TL.tl (numS a.2.2))))))
    rw [lit_tl]
    simp only [List.append_assoc]
  | [a, b], _, _ =>
    show _ ++ (TL.tl (litText ks a) ++ (TL.tl (" or " : Str) ++ TL.tl (litText ks b))) = TL.tl wRule ++ (TL.tl blank ++ (TL.tl (nameOf ks a.1) ++ (TL.tl blank ++ (TL.tl (signW a.2.1) ++ (TL.tl blank ++ (TL.tl (numS a.2.2) ++ (TL.tl blank ++ (TL.tl wOr ++ (TL.tl blank ++ (TL.tl (nameOf ks b.1) ++ (TL.tl blank ++ (TL.tl (signW b.2.1) ++ (TL.tl blank ++ TL.tl (numS b.2.2))))))))))))))
    rw [lit_tl, lit_tl, t_or]
    simp only [List.append_assoc]
  | [a, b, c], _, _ =>
    show _ ++ (TL.tl (litText ks a) ++ (TL.tl (" or " : Str) ++ (TL.tl (litText ks b) ++ (TL.tl (" or " : Str) ++ TL.tl (litText ks c))))) = TL.tl wRule ++ (TL.tl blank ++ (TL.tl (nameOf ks a.1) ++ (TL.tl blank ++ (TL.tl (signW a.2.1) ++ (TL.tl blank ++ (TL.tl (numS a.2.2) ++ (TL.tl blank ++ (TL.tl wOr ++ (TL.tl blank ++ (TL.tl (nameOf ks b.1) ++ (TL.tl blank ++ (TL.tl (signW b.2.1) ++ (TL.tl blank ++ (TL.tl (numS b.2.2)
      ++ (TL.tl blank ++ (TL.tl wOr ++ (TL.tl blank ++ (TL.tl (nameOf ks c.1) ++ (TL.tl blank ++ (TL.tl (signW c.2.1) ++ (TL.tl blank ++ TL.tl (numS c.2.2))))))))))))))))))))))
    rw [lit_tl, lit_tl, lit_tl, t_or]
    simp only [List.append_assoc]
  | _ :: _ :: _ :: _ :: _, _, h => exact absurd h (by simp only [List.length_cons]; omega)
/-- no blank, no line feed, plain signs -/
def Plain (z : Str) : Prop := ∀ c ∈ TL.tl z, 33 ≤ c ∧ c < 128
theorem plain_lit {z : Str} (h : (TL.tl z).all (fun c => decide (33 ≤ c ∧ c < 128)) = true) : Plain z := fun c hc => of_decide_eq_true (List.all_eq_true.mp h c hc)
theorem plain_nm {z : Str} (h : IsNm z) : Plain z := fun c hc => by
  have := h.low c hc
  exact ⟨by have := this.1; omega, by have := this.2; omega⟩
theorem plain_num {n : Nat} (h : n < 10) : Plain (numS n) := fun c hc => by
  have hc' : c ∈ tx (numS n) := hc
  rw [numS_tx h] at hc'
  rw [List.mem_singleton.mp hc']
  omega
structure LitOk (ks : List Key) (l : Lit) : Prop where
  at_ : ∃ k, ks[l.1]? = some k ∧ l.2.2 < k.2 ∧ IsNm k.1 ∧ k.2 ≤ 3
theorem plain_litw {ks : List Key} {l : Lit} (h : LitOk ks l) : ∀ p ∈ litWords ks l, Plain p := by
  obtain ⟨k, e, lt, nm, k3⟩ := h.at_
  have en : nameOf ks l.1 = k.1 := by
    unfold nameOf
    rw [List.getD_eq_getElem?_getD, e]
    rfl
  intro p hp
  unfold litWords at hp
  simp only [List.mem_cons, List.not_mem_nil, or_false] at hp
  rcases hp with rfl | rfl | rfl
  · rw [en]
    exact plain_nm nm
  · unfold signW
    split
    · exact plain_lit (by decide +kernel)
    · exact plain_lit (by decide +kernel)
  · exact plain_num (by omega)
theorem plain_rulew {ks : List Key} : ∀ {ls : List Lit}, (∀ l ∈ ls, LitOk ks l) → ∀ p ∈ ruleWords ks ls, Plain p
  | [], _, p, hp => by
    have e : p = wRule := List.mem_singleton.mp hp
    rw [e]
    exact plain_lit (by decide +kernel)
  | [a], h, p, hp => by
    rcases List.mem_cons.mp (show p ∈ wRule :: litWords ks a from hp) with e | hp
    · rw [e]
      exact plain_lit (by decide +kernel)
    · exact plain_litw (h a (by simp)) p hp
  | a :: b :: r, h, p, hp => by
    rcases List.mem_cons.mp (show p ∈ wRule :: (litWords ks a ++ wOr :: (ruleWords ks (b :: r)).tail) from hp) with e | hp
    · rw [e]
      exact plain_lit (by decide +kernel)
    · rcases List.mem_append.mp hp with hp | hp
      · exact plain_litw (h a (by simp)) p hp
      · rcases List.mem_cons.mp hp with e | hp
        · rw [e]
          exact plain_lit (by decide +kernel)
        · exact plain_rulew (ls := b :: r) (fun l hl => h l (List.mem_cons_of_mem _ hl)) p (List.mem_of_mem_tail hp)
theorem words_of_join {ps : List Str} (ne : ps ≠ []) (h : ∀ p ∈ ps, Plain p) : wordsOf (Txt.join blank ps) = ps := by
  unfold wordsOf
  refine TL.split_join (s := 32) (S := []) (by decide +kernel) (by decide +kernel) ne fun p hp hc => ?_
  have := (h p hp 32 hc).1
  omega
theorem key_words {k : Key} (nm : IsNm k.1) (k3 : k.2 ≤ 3) : wordsOf (keyLine k) = [wKey, k.1, numS k.2] := by
  rw [key_join]
  refine words_of_join (by simp) fun p hp => ?_
  simp only [List.mem_cons, List.not_mem_nil, or_false] at hp
  rcases hp with rfl | rfl | rfl
  · exact plain_lit (by decide +kernel)
  · exact plain_nm nm
  · exact plain_num (by omega)
theorem key_read {k : Key} (nm : IsNm k.1) (h : k.2 = 2 ∨ k.2 = 3) : keyOf (wordsOf (keyLine k)) = some k := by
  rw [key_words nm (by omega)]
  have e := numS_num (show k.2 < 10 by omega)
  show (if wKey = wKey ∧ nameB k.1 = true ∧ (numOf (numS k.2) = some 2 ∨ numOf (numS k.2) = some 3) then some (k.1, if numOf (numS k.2) = some 2 then 2 else 3) else none) = some k
  rw [if_pos ⟨rfl, nameB_of nm, by rw [e]; rcases h with h | h <;> rw [h] <;> simp⟩, e]
  obtain ⟨a, b⟩ := k
  rcases h with h | h
  · have h' : b = 2 := h
    rw [h', if_pos rfl]
  · have h' : b = 3 := h
    rw [h', if_neg (by simp)]
theorem ruleWords_ne (ks : List Key) : ∀ ls : List Lit, ruleWords ks ls ≠ []
  | [] => by simp [ruleWords]
  | [_] => by simp [ruleWords]
  | _ :: _ :: _ => by simp [ruleWords]
theorem rule_words {ks : List Key} {ls : List Lit} (h1 : 1 ≤ ls.length) (h3 : ls.length ≤ 3) (h : ∀ l ∈ ls, LitOk ks l) : wordsOf (ruleLine ks ls) = ruleWords ks ls := by
  rw [rule_join h1 h3]
  exact words_of_join (ruleWords_ne ks ls) (plain_rulew h)
theorem idxS_nodup : ∀ {ks : List Key} {i : Nat} {k : Key}, (ks.map (fun q : Key => q.1)).Nodup → ks[i]? = some k → idxS k.1 ks = i
  | [], i, k, _, e => nomatch e
  | k0 :: r, 0, k, _, e => by
    cases e
    unfold idxS
    rw [if_pos rfl]
  | k0 :: r, i + 1, k, nd, e => by
    have nd' := List.nodup_cons.mp nd
    have hm : k.1 ∈ r.map (fun q : Key => q.1) := List.mem_map_of_mem (List.mem_of_getElem? (show r[i]? = some k from e))
    unfold idxS
    rw [if_neg (fun q => nd'.1 (by show k0.1 ∈ _; rw [q]; exact hm)), idxS_nodup nd'.2 (show r[i]? = some k from e)]
theorem lit_read {ks : List Key} {l : Lit} (nd : (ks.map (fun q : Key => q.1)).Nodup) (h : LitOk ks l) : litOf ks (nameOf ks l.1) (signW l.2.1) (numS l.2.2) = some l := by
  obtain ⟨k, e, lt, nm, k3⟩ := h.at_
  have en : nameOf ks l.1 = k.1 := by
    unfold nameOf
    rw [List.getD_eq_getElem?_getD, e]
    rfl
  have ei := idxS_nodup nd e
  have hs : signW l.2.1 = wEq ∨ signW l.2.1 = wNe := by
    unfold signW
    split
    · exact .inl rfl
    · exact .inr rfl
  have hd : decide (signW l.2.1 = wEq) = l.2.1 := by
    unfold signW
    cases l.2.1
    · exact decide_eq_false (by decide +kernel)
    · exact decide_eq_true rfl
  have hm : k.1 ∈ ks.map (·.1) := List.mem_map_of_mem (List.mem_of_getElem? e)
  unfold litOf
  rw [en, if_pos ⟨hm, hs⟩, numS_num (by omega), ei, hd]
  show (if l.2.2 < (ks.getD l.1 (k.1, 0)).2 then some (l.1, l.2.1, l.2.2) else none) = some l
  rw [List.getD_eq_getElem?_getD, e]
  exact if_pos lt
theorem f4 (a b c : Str) : formB [wRule, a, b, c] = true := by
  unfold formB orsB ors
  show (decide (some wRule = some wRule) && (decide (4 = 4 ∨ 4 = 8 ∨ 4 = 12) && ((List.range (4 / 4 - 1)).map fun i => [wRule, a, b, c].getD (4 * i + 4) Str.empty).all fun y => decide (y = wOr))) = true
  rw [decide_eq_true rfl, show List.range (4 / 4 - 1) = [] from rfl]
  rfl
theorem f8 (a b c d e f : Str) : formB [wRule, a, b, c, wOr, d, e, f] = true := by
  unfold formB orsB ors
  show (decide (some wRule = some wRule) && (decide (8 = 4 ∨ 8 = 8 ∨ 8 = 12) && ((List.range (8 / 4 - 1)).map fun i => [wRule, a, b, c, wOr, d, e, f].getD (4 * i + 4) Str.empty).all fun y => decide (y = wOr))) = true
  rw [decide_eq_true rfl, show List.range (8 / 4 - 1) = [0] from rfl]
  show (true && (true && (decide (wOr = wOr) && true))) = true
  rw [decide_eq_true rfl]
  rfl
theorem f12 (a b c d e f g h i : Str) : formB [wRule, a, b, c, wOr, d, e, f, wOr, g, h, i] = true := by
  unfold formB orsB ors
  show (decide (some wRule = some wRule) && (decide (12 = 4 ∨ 12 = 8 ∨ 12 = 12) && ((List.range (12 / 4 - 1)).map fun i' => [wRule, a, b, c, wOr, d, e, f, wOr, g, h, i].getD (4 * i' + 4) Str.empty).all fun y => decide (y = wOr))) = true
  rw [decide_eq_true rfl, show List.range (12 / 4 - 1) = [0, 1] from rfl]
  show (true && (true && (decide (wOr = wOr) && (decide (wOr = wOr) && true)))) = true
  rw [decide_eq_true rfl]
  rfl
theorem o4 (ks : List Key) (w a b c : Str) : litsOs ks [w, a, b, c] = [litOf ks a b c] := by
  unfold litsOs
  show (List.range (4 / 4)).map (tripL ks [w, a, b, c]) = _
  rw [show List.range (4 / 4) = [0] from rfl]
  rfl
theorem o8 (ks : List Key) (w a b c o d e f : Str) : litsOs ks [w, a, b, c, o, d, e, f] = [litOf ks a b c, litOf ks d e f] := by
  unfold litsOs
  show (List.range (8 / 4)).map (tripL ks [w, a, b, c, o, d, e, f]) = _
  rw [show List.range (8 / 4) = [0, 1] from rfl]
  rfl
theorem o12 (ks : List Key) (w a b c o d e f o' g h i : Str) : litsOs ks [w, a, b, c, o, d, e, f, o', g, h, i] = [litOf ks a b c, litOf ks d e f, litOf ks g h i] := by
  unfold litsOs
  show (List.range (12 / 4)).map (tripL ks [w, a, b, c, o, d, e, f, o', g, h, i]) = _
  rw [show List.range (12 / 4) = [0, 1, 2] from rfl]
  rfl
theorem w4 (ks : List Key) (a : Lit) : ruleWords ks [a] = [wRule, nameOf ks a.1, signW a.2.1, numS a.2.2] := by
  simp only [ruleWords, litWords]
theorem w8 (ks : List Key) (a b : Lit) : ruleWords ks [a, b] = [wRule, nameOf ks a.1, signW a.2.1, numS a.2.2, wOr, nameOf ks b.1, signW b.2.1, numS b.2.2] := by
  simp only [ruleWords, litWords, List.tail_cons, List.cons_append, List.nil_append]
theorem w12 (ks : List Key) (a b c : Lit) : ruleWords ks [a, b, c] = [wRule, nameOf ks a.1, signW a.2.1, numS a.2.2, wOr, nameOf ks b.1, signW b.2.1, numS b.2.2, wOr, nameOf ks c.1, signW c.2.1, numS c.2.2] := by
  simp only [ruleWords, litWords, List.tail_cons, List.cons_append, List.nil_append]
theorem rule_read {ks : List Key} {ls : List Lit} (nd : (ks.map (fun q : Key => q.1)).Nodup) (h1 : 1 ≤ ls.length) (h3 : ls.length ≤ 3) (h : ∀ l ∈ ls, LitOk ks l) : litsIn ks (ruleLine ks ls) = ls := by
  unfold litsIn
  rw [rule_words h1 h3 h]
  match ls, h1, h3, h with
  | [], q, _, _ => exact absurd q (by decide)
  | [a], _, _, h =>
    have ra := lit_read nd (h a (by simp))
    unfold litsOf
    rw [w4, if_pos (f4 ..), o4, ra, if_neg (by simp)]
    rfl
  | [a, b], _, _, h =>
    have ra := lit_read nd (h a (by simp))
    have rb := lit_read nd (h b (by simp))
    unfold litsOf
    rw [w8, if_pos (f8 ..), o8, ra, rb, if_neg (by simp)]
    rfl
  | [a, b, c], _, _, h =>
    have ra := lit_read nd (h a (by simp))
    have rb := lit_read nd (h b (by simp))
    have rc := lit_read nd (h c (by simp))
    unfold litsOf
    rw [w12, if_pos (f12 ..), o12, ra, rb, rc, if_neg (by simp)]
    rfl
  | _ :: _ :: _ :: _ :: _, _, q, _ => exact absurd q (by simp only [List.length_cons]; omega)
theorem rule_nokey {ks : List Key} {ls : List Lit} (h1 : 1 ≤ ls.length) (h3 : ls.length ≤ 3) (h : ∀ l ∈ ls, LitOk ks l) : keyOf (wordsOf (ruleLine ks ls)) = none := by
  rw [rule_words h1 h3 h]
  have hd : ∃ r, ruleWords ks ls = wRule :: r := by
    match ls with
    | [] => exact ⟨_, rfl⟩
    | [_] => exact ⟨_, rfl⟩
    | _ :: _ :: _ => exact ⟨_, rfl⟩
  obtain ⟨r, e⟩ := hd
  rw [e]
  unfold keyOf
  split
  · rename_i q
    refine if_neg fun z => ?_
    have e2 := (List.cons.inj q).1
    have : wRule = wKey := by rw [e2]; exact z.1
    exact absurd this (by decide +kernel)
  · rfl
theorem keys_read {rs : List Str} (hr : ∀ l ∈ rs, keyOf (wordsOf l) = none) : ∀ {ks acc : List Key} {m : Nat}, ks.length ≤ m → ((acc ++ ks).map (fun q : Key => q.1)).Nodup → (∀ k ∈ ks, IsNm k.1 ∧ (k.2 = 2 ∨ k.2 = 3)) → keysOf acc ((ks.map keyLine ++ rs).take m) = acc ++ ks
  | [], acc, m, _, _, _ => by
    rw [List.append_nil]
    show keysOf acc (rs.take m) = acc
    cases e : rs.take m with
    | nil => rfl
    | cons l r =>
      have hl : l ∈ rs := List.mem_of_mem_take (by rw [e]; exact List.mem_cons_self)
      show (match keyOf (wordsOf l) with | none => acc | some p => if p.1 ∈ acc.map (fun q : Key => q.1) then acc else keysOf (acc ++ [p]) r) = acc
      rw [hr l hl]
  | k :: ks, acc, 0, h, _, _ => absurd h (by simp)
  | k :: ks, acc, m + 1, h, nd, hk => by
    have hkk := hk k List.mem_cons_self
    show (match keyOf (wordsOf (keyLine k)) with | none => acc | some p => if p.1 ∈ acc.map (fun q : Key => q.1) then acc else keysOf (acc ++ [p]) ((ks.map keyLine ++ rs).take m)) = acc ++ k :: ks
    rw [key_read hkk.1 hkk.2]
    show (if k.1 ∈ acc.map (fun q : Key => q.1) then acc else keysOf (acc ++ [k]) ((ks.map keyLine ++ rs).take m)) = acc ++ k :: ks
    have nd2 : ((acc ++ [k] ++ ks).map (fun q : Key => q.1)).Nodup := by
      rw [List.append_assoc]
      exact nd
    have nm : k.1 ∉ acc.map (fun q : Key => q.1) := fun q => by
      rw [List.map_append, List.nodup_append] at nd
      exact nd.2.2 k.1 q k.1 (by simp) rfl
    rw [if_neg nm, keys_read hr (ks := ks) (acc := acc ++ [k]) (m := m) (by simpa using h) nd2 fun x hx => hk x (List.mem_cons_of_mem _ hx), List.append_assoc]
    rfl
theorem fold_nil : ∀ (rules : List (List Lit)), rules.foldl (fun e l => keepR l e) ([] : List (List Nat)) = []
  | [] => rfl
  | l :: rs => by
    rw [List.foldl_cons]
    exact fold_nil rs
theorem rules_read {ks : List Key} (nd : (ks.map (fun q : Key => q.1)).Nodup) : ∀ {rules : List (List Lit)} {k : Nat} {acc : List RuleL} {e0 : List (List Nat)}, acc.length + rules.length ≤ 4 → (∀ ls ∈ rules, 1 ≤ ls.length ∧ ls.length ≤ 3 ∧ ∀ l ∈ ls, LitOk ks l) → rules.foldl (fun e l => keepR l e) e0 ≠ [] →
    rulesOf ks k acc e0 (rules.map (ruleLine ks)) = .inr (acc ++ rules.map (fun ls => (ruleLine ks ls, ls)), rules.foldl (fun e l => keepR l e) e0)
  | [], k, acc, e0, _, _, _ => by
    show Sum.inr (acc, e0) = Sum.inr (acc ++ [], e0)
    rw [List.append_nil]
  | ls :: rs, k, acc, e0, h4, h, ne => by
    obtain ⟨h1, h3, hl⟩ := h ls List.mem_cons_self
    have rr := rule_read nd h1 h3 hl
    rw [List.length_cons] at h4
    show (if acc.length = 4 ∨ litsIn ks (ruleLine ks ls) = [] ∨ keepR (litsIn ks (ruleLine ks ls)) e0 = [] then Sum.inl k else rulesOf ks (k + 1) (acc ++ [(ruleLine ks ls, litsIn ks (ruleLine ks ls))]) (keepR (litsIn ks (ruleLine ks ls)) e0) (rs.map (ruleLine ks))) = _
    rw [rr, List.foldl_cons]
    rw [List.foldl_cons] at ne
    have nk : keepR ls e0 ≠ [] := fun q => ne (by rw [q]; exact fold_nil rs)
    rw [if_neg (fun q => q.elim (fun q => by omega) fun q => q.elim (fun q => by rw [q] at h1; exact absurd h1 (by decide)) nk)]
    rw [rules_read nd (rules := rs) (by rw [List.length_append]; show acc.length + 1 + rs.length ≤ 4; omega) (fun x hx => h x (List.mem_cons_of_mem _ hx)) ne, List.append_assoc]
    rfl
theorem good_lits {ks : List Key} {rules : List (List Lit)} {eds : List (List Nat)} (g : Good ks rules eds) : ∀ ls ∈ rules, 1 ≤ ls.length ∧ ls.length ≤ 3 ∧ ∀ l ∈ ls, LitOk ks l := fun ls hls => by
  obtain ⟨a, b, c⟩ := g.ls ls hls
  refine ⟨a, b, fun l hl => ⟨?_⟩⟩
  obtain ⟨k, e, lt⟩ := c l hl
  have hk := List.mem_of_getElem? e
  exact ⟨k, e, lt, g.nm k hk, by have := g.sz k hk; omega⟩
/-! ### joined by line feeds -/
def joined (ls : List Str) : Str := Txt.join nl ls
theorem key_ok {k : Key} (nm : IsNm k.1) (k3 : k.2 ≤ 3) : (keyLine k).length ≤ 60 ∧ Asc (keyLine k) ∧ 10 ∉ TL.tl (keyLine k) := by
  have all : ∀ c ∈ TL.tl (keyLine k), 32 ≤ c ∧ c < 128 := fun c hc => by
    unfold keyLine at hc
    rw [TL.tl_append, TL.tl_append, TL.tl_append] at hc
    simp only [List.mem_append] at hc
    rcases hc with ((hc | hc) | hc) | hc
    · exact of_decide_eq_true (List.all_eq_true.mp (show (TL.tl ("key " : Str)).all (fun c => decide (32 ≤ c ∧ c < 128)) = true by decide +kernel) c hc)
    · have := plain_nm nm c hc
      omega
    · exact of_decide_eq_true (List.all_eq_true.mp (show (TL.tl (" " : Str)).all (fun c => decide (32 ≤ c ∧ c < 128)) = true by decide +kernel) c hc)
    · have := plain_num (show k.2 < 10 by omega) c hc
      omega
  refine ⟨?_, fun c hc => (all c hc).2, fun hc => by have := (all 10 hc).1; omega⟩
  unfold keyLine
  rw [Str.length_append, Str.length_append, Str.length_append]
  have l4 : ("key " : Str).length = 4 := by decide +kernel
  have l1 : (" " : Str).length = 1 := by decide +kernel
  have ln := nm.len
  have ls : (numS k.2).length = 1 := by
    rw [TL.len_tl, show TL.tl (numS k.2) = tx (numS k.2) from rfl, numS_tx (by omega)]
    rfl
  omega
theorem lit_len {ks : List Key} {l : Lit} (h : LitOk ks l) : (litText ks l).length ≤ 13 ∧ ∀ c ∈ TL.tl (litText ks l), 32 ≤ c ∧ c < 128 := by
  obtain ⟨k, e, lt, nm, k3⟩ := h.at_
  have en : nameOf ks l.1 = k.1 := by
    unfold nameOf
    rw [List.getD_eq_getElem?_getD, e]
    rfl
  have ls : (numS l.2.2).length = 1 := by
    rw [TL.len_tl, show TL.tl (numS l.2.2) = tx (numS l.2.2) from rfl, numS_tx (by omega)]
    rfl
  have lsg : (if l.2.1 = true then (" = " : Str) else (" != " : Str)).length ≤ 4 ∧ ∀ c ∈ TL.tl (if l.2.1 = true then (" = " : Str) else (" != " : Str)), 32 ≤ c ∧ c < 128 := by
    split
    · exact ⟨by decide +kernel, fun c hc => of_decide_eq_true (List.all_eq_true.mp (show (TL.tl (" = " : Str)).all (fun c => decide (32 ≤ c ∧ c < 128)) = true by decide +kernel) c hc)⟩
    · exact ⟨by decide +kernel, fun c hc => of_decide_eq_true (List.all_eq_true.mp (show (TL.tl (" != " : Str)).all (fun c => decide (32 ≤ c ∧ c < 128)) = true by decide +kernel) c hc)⟩
  constructor
  · unfold litText
    rw [Str.length_append, Str.length_append, en]
    have := nm.len
    omega
  · intro c hc
    unfold litText at hc
    rw [TL.tl_append, TL.tl_append, en] at hc
    simp only [List.mem_append] at hc
    rcases hc with (hc | hc) | hc
    · have := plain_nm nm c hc
      omega
    · exact lsg.2 c hc
    · have := plain_num (show l.2.2 < 10 by omega) c hc
      omega
theorem rule_ok {ks : List Key} {ls : List Lit} (h1 : 1 ≤ ls.length) (h3 : ls.length ≤ 3) (h : ∀ l ∈ ls, LitOk ks l) : (ruleLine ks ls).length ≤ 60 ∧ Asc (ruleLine ks ls) ∧ 10 ∉ TL.tl (ruleLine ks ls) := by
  have l5 : ("rule " : Str).length = 5 := by decide +kernel
  have l4 : (TL.tl (" or " : Str)).length = 4 := by decide +kernel
  have lens : ∀ l ∈ ls, (TL.tl (litText ks l)).length ≤ 13 := fun l hl => by
    have := (lit_len (h l hl)).1
    rw [TL.len_tl] at this
    exact this
  have inor : ∀ c ∈ TL.tl (" or " : Str), 32 ≤ c ∧ c < 128 := fun c hc => of_decide_eq_true (List.all_eq_true.mp (show (TL.tl (" or " : Str)).all (fun c => decide (32 ≤ c ∧ c < 128)) = true by decide +kernel) c hc)
  have inr : ∀ c ∈ TL.tl ("rule " : Str), 32 ≤ c ∧ c < 128 := fun c hc => of_decide_eq_true (List.all_eq_true.mp (show (TL.tl ("rule " : Str)).all (fun c => decide (32 ≤ c ∧ c < 128)) = true by decide +kernel) c hc)
  have e : TL.tl (ruleLine ks ls) = TL.tl ("rule " : Str) ++ TL.joinL (TL.tl (" or " : Str)) ((ls.map (litText ks)).map TL.tl) := by
    unfold ruleLine
    rw [TL.tl_append, TL.join_eq, TL.tl_join]
  have main : (TL.tl (ruleLine ks ls)).length ≤ 60 ∧ ∀ c ∈ TL.tl (ruleLine ks ls), 32 ≤ c ∧ c < 128 := by
    rw [e]
    have l5' : (TL.tl ("rule " : Str)).length = 5 := by decide +kernel
    match ls, h1, h3, h, lens with
    | [], q, _, _, _ => exact absurd q (by decide)
    | [a], _, _, h, lens =>
      have la := lens a (by simp)
      have ca := (lit_len (h a (by simp))).2
      refine ⟨?_, fun c hc => ?_⟩
      · show (TL.tl ("rule " : Str) ++ TL.tl (litText ks a)).length ≤ 60
        rw [List.length_append]
        omega
      · rcases List.mem_append.mp (show c ∈ TL.tl ("rule " : Str) ++ TL.tl (litText ks a) from hc) with hc | hc
        · exact inr c hc
        · exact ca c hc
    | [a, b], _, _, h, lens =>
      have la := lens a (by simp)
      have ca := (lit_len (h a (by simp))).2
      have lb := lens b (by simp)
      have cb := (lit_len (h b (by simp))).2
      refine ⟨?_, fun c hc => ?_⟩
      · show (TL.tl ("rule " : Str) ++ (TL.tl (litText ks a) ++ (TL.tl (" or " : Str) ++ TL.tl (litText ks b)))).length ≤ 60
        rw [List.length_append, List.length_append, List.length_append]
        omega
      · have hc' : c ∈ TL.tl ("rule " : Str) ++ (TL.tl (litText ks a) ++ (TL.tl (" or " : Str) ++ TL.tl (litText ks b))) := hc
        simp only [List.mem_append] at hc'
        rcases hc' with hc | hc | hc | hc
        · exact inr c hc
        · exact ca c hc
        · exact inor c hc
        · exact cb c hc
    | [a, b, d], _, _, h, lens =>
      have la := lens a (by simp)
      have ca := (lit_len (h a (by simp))).2
      have lb := lens b (by simp)
      have cb := (lit_len (h b (by simp))).2
      have ld := lens d (by simp)
      have cd := (lit_len (h d (by simp))).2
      refine ⟨?_, fun c hc => ?_⟩
      · show (TL.tl ("rule " : Str) ++ (TL.tl (litText ks a) ++ (TL.tl (" or " : Str) ++ (TL.tl (litText ks b) ++ (TL.tl (" or " : Str) ++ TL.tl (litText ks d)))))).length ≤ 60
        rw [List.length_append, List.length_append, List.length_append, List.length_append, List.length_append]
        omega
      · have hc' : c ∈ TL.tl ("rule " : Str) ++ (TL.tl (litText ks a) ++ (TL.tl (" or " : Str) ++ (TL.tl (litText ks b) ++ (TL.tl (" or " : Str) ++ TL.tl (litText ks d))))) := hc
        simp only [List.mem_append] at hc'
        rcases hc' with hc | hc | hc | hc | hc | hc
        · exact inr c hc
        · exact ca c hc
        · exact inor c hc
        · exact cb c hc
        · exact inor c hc
        · exact cd c hc
    | _ :: _ :: _ :: _ :: _, _, q, _, _ => exact absurd q (by simp only [List.length_cons]; omega)
  refine ⟨?_, fun c hc => (main.2 c hc).2, fun hc => by have := (main.2 10 hc).1; omega⟩
  rw [TL.len_tl]
  exact main.1
theorem drawn_ok {ks : List Key} {rules : List (List Lit)} {eds : List (List Nat)} (g : Good ks rules eds) : ∀ l ∈ drawnL ks rules, l.length ≤ 60 ∧ Asc l ∧ 10 ∉ TL.tl l := fun l hl => by
  rcases List.mem_append.mp hl with hl | hl
  · obtain ⟨k, hk, rfl⟩ := List.mem_map.mp hl
    exact key_ok (g.nm k hk) (by have := g.sz k hk; omega)
  · obtain ⟨ls, hls, rfl⟩ := List.mem_map.mp hl
    obtain ⟨a, b, c⟩ := good_lits g ls hls
    exact rule_ok a b c
theorem drawn_len {ks : List Key} {rules : List (List Lit)} : (drawnL ks rules).length = ks.length + rules.length := by
  unfold drawnL
  rw [List.length_append, List.length_map, List.length_map]
theorem drawn_lines {ks : List Key} {rules : List (List Lit)} {eds : List (List Nat)} (g : Good ks rules eds) : linesOf (joined (drawnL ks rules)) = drawnL ks rules := by
  unfold linesOf joined
  refine TL.split_join (s := 10) (S := []) (by decide +kernel) (by decide +kernel) (fun e => ?_) fun p hp => (drawn_ok g p hp).2.2
  have l := drawn_len (ks := ks) (rules := rules)
  rw [e] at l
  have := g.one
  simp only [List.length_nil] at l
  omega
theorem drawn_read {ks : List Key} {rules : List (List Lit)} {eds : List (List Nat)} (g : Good ks rules eds) (r4 : rules.length ≤ 4) : readS (joined (drawnL ks rules)) = .inr (ks, rules.map (fun ls => (ruleLine ks ls, ls)), eds) := by
  have hr : ∀ l ∈ rules.map (ruleLine ks), keyOf (wordsOf l) = none := fun l hl => by
    obtain ⟨ls, hls, rfl⟩ := List.mem_map.mp hl
    obtain ⟨a, b, c⟩ := good_lits g ls hls
    exact rule_nokey a b c
  have ek : keysOf [] ((drawnL ks rules).take 3) = ks := keys_read hr (acc := []) (m := 3) g.three g.nd fun k hk => ⟨g.nm k hk, g.sz k hk⟩
  have ed : (drawnL ks rules).drop ks.length = rules.map (ruleLine ks) := by
    unfold drawnL
    have : ks.length = (ks.map keyLine).length := by rw [List.length_map]
    rw [this, List.drop_left]
  have ne : rules.foldl (fun e l => keepR l e) (worthsOf (ks.map (fun q : Key => q.2))) ≠ [] := by
    rw [← g.ed]
    exact g.ne
  have rr := rules_read g.nd (rules := rules) (k := ks.length) (acc := []) (e0 := worthsOf (ks.map (fun q : Key => q.2))) (by simpa using r4) (good_lits g) ne
  unfold readS
  rw [drawn_lines g, ek, ed, rr, ← g.ed]
  rfl
theorem joined_asc {ls : List Str} (h : ∀ l ∈ ls, Asc l) : Asc (joined ls) := by
  intro c hc
  have hc' : c ∈ TL.tl (Txt.join nl ls) := hc
  rw [TL.join_eq, TL.tl_join] at hc'
  have key : ∀ ps : List (List Nat), (∀ p ∈ ps, ∀ c ∈ p, c < 128) → ∀ c ∈ TL.joinL (TL.tl nl) ps, c < 128 := by
    intro ps
    induction ps with
    | nil => exact fun _ c hc => nomatch hc
    | cons p r ih =>
      intro h c hc
      cases r with
      | nil => exact h p List.mem_cons_self c hc
      | cons q t =>
        have hc' : c ∈ p ++ (TL.tl nl ++ TL.joinL (TL.tl nl) (q :: t)) := hc
        rcases List.mem_append.mp hc' with hc' | hc'
        · exact h p List.mem_cons_self c hc'
        · rcases List.mem_append.mp hc' with hc' | hc'
          · have e : TL.tl nl = [10] := by decide +kernel
            rw [e] at hc'
            rw [List.mem_singleton.mp hc']
            decide
          · exact ih (fun u hu => h u (List.mem_cons_of_mem _ hu)) c hc'
  refine key _ (fun p hp => ?_) c hc'
  (obtain ⟨q, hq, rfl⟩ := List.mem_map.mp hp)
  exact h q hq
theorem joined_len {ls : List Str} {m n : Nat} (hl : ls.length ≤ n) (h : ∀ l ∈ ls, l.length ≤ m) : (joined ls).length ≤ n * (m + 1) := by
  have e : (joined ls).length = (TL.joinL (TL.tl nl) (ls.map TL.tl)).length := by
    rw [← TL.tl_join, ← TL.join_eq]
    show (Txt.join nl ls).cps.size = (Txt.join nl ls).cps.toList.length
    simp
  have key : ∀ ps : List (List Nat), (∀ p ∈ ps, p.length ≤ m) → (TL.joinL (TL.tl nl) ps).length ≤ ps.length * (m + 1) := by
    intro ps
    induction ps with
    | nil => exact fun _ => Nat.zero_le _
    | cons p r ih =>
      intro h
      cases r with
      | nil =>
        have := h p List.mem_cons_self
        show p.length ≤ 1 * (m + 1)
        omega
      | cons q t =>
        have a := h p List.mem_cons_self
        have b := ih fun u hu => h u (List.mem_cons_of_mem _ hu)
        have en : (TL.tl nl).length = 1 := by decide +kernel
        show (p ++ (TL.tl nl ++ TL.joinL (TL.tl nl) (q :: t))).length ≤ ((q :: t).length + 1) * (m + 1)
        rw [List.length_append, List.length_append, en, Nat.add_mul]
        omega
  rw [e]
  refine Nat.le_trans (key _ fun p hp => ?_) ?_
  · obtain ⟨q, hq, rfl⟩ := List.mem_map.mp hp
    have := h q hq
    have e2 : (TL.tl q).length = q.length := by
      show q.cps.toList.length = q.cps.size
      simp
    omega
  · rw [List.length_map]
    exact Nat.mul_le_mul_right _ hl
end K01

namespace K01
open PySem L2
abbrev sSLines : Stmt := top 55
theorem sum_le {m : Nat} : ∀ {xs : List Str}, (∀ x ∈ xs, x.length ≤ m) → (xs.map (fun x : Str => x.length)).sum ≤ xs.length * m
  | [], _ => Nat.zero_le _
  | x :: xs, h => by
    have a := h x List.mem_cons_self
    have b := sum_le (xs := xs) fun y hy => h y (List.mem_cons_of_mem _ hy)
    rw [List.map_cons, List.sum_cons, List.length_cons, Nat.add_mul]
    omega
section
variable {base : Heap} {P : Program} {w : World} {K : PySem.W.Frag} {mg : Str → Option Value}
def spDrawn (K : PySem.W.Frag) : Sp := fun vs H Q _ => ∃ (j d NA SA RU RO : Addr) (n : Nat) (ks : List Key) (rules : List (List Lit)) (eds : List (List Nat)), vs = [.ref d] ∧ Jar H j n ∧ SD K H j d NA SA RU RO ks rules eds ∧ Good ks rules eds ∧ rules.length ≤ 4 ∧
  ∀ H' p, Same H H' → H p = none → H' p = some (.lst ((drawnL ks rules).map V.str)) → Q (.ref p) H'
abbrev nSLines : List Str := ["_law_sheet_here", "_law_found", "_law_lits_here", "_law_some", "_law_place", "_law_is_equal", "_law_worth", "_law_name", "_law_size"]
theorem scSLines : FnScope nSLines ["_law_sheet_here"] (defScope sSLines) := ⟨rfl, rfl, rfl, by decide +kernel, rfl, by decide +kernel, by decide +kernel⟩
theorem ok_slines {f : Addr} {fd : FuncData} (F : Fun K "_law_sheet_lines" "_law_sheet_lines" sSLines f fd) (T : Txt7 K mg) : FnOk P w K mg base CX0 1 f fd ["_law_sheet_here"] (spDrawn K) := by
  refine F.ok scSLines (fun vs H Q E h => ?_) (fun cdv A outer s H vs Q E hr h => ?_)
  · obtain ⟨j, d, NA, SA, RU, RO, n, ks, rules, eds, rfl, _⟩ := h
    rfl
  · obtain ⟨j, d, NA, SA, RU, RO, n, ks, rules, eds, rfl, hj, sd, g, r4, k⟩ := h
    refine ⟨_, pss_cons (ps_setLc (i := 1) (own := [("_law_name", 7), ("_law_size", 8)]) (g := gTup K 2 (gCons (gName 7) (gCons (gName 8) gNil))) (tt := tYes) rfl scSLines.nd rfl rfl rfl
          (pi_zip (by rfl) T.zip (pa_cons (pe_dget (units1 hr) (pv 0) pe_str (fun _ _ => rfl)) (pa_cons (pe_dget (units1 hr) (pv 0) pe_str (fun _ _ => rfl)) pa_nil)))
          (blkOk_by (N := nSLines) (sc := defScope sSLines) (by decide +kernel)) (fun _ _ _ _ _ => pg_tup rfl (pgs_cons (pg_name (i := 7) scSLines.nd rfl (Or.inl rfl)) (pgs_cons (pg_name (i := 8) scSLines.nd rfl (Or.inl rfl)) pgs_nil))) (fun _ _ _ _ _ => pts_nil)
          (fun _ _ _ _ _ => pe_op op_add_str (pe_op op_add_str (pe_op op_add_str pe_str (pv 7)) pe_str) (pe_callTy call_str_int (by rfl) T.str (by decide +kernel) (pa_cons (pv 8) pa_nil))))
      (pss_cons (ps_for PassesOwn.never rfl (pi_list (pe_dget (units1 hr) (pv 0) pe_str (fun _ _ => rfl))) (pg_name (i := 2) scSLines.nd rfl (.inl rfl))
        (pss_cons (ps_set (i := 3) scSLines.nd rfl (.inl rfl) (pe_lst pa_nil))
        (pss_cons (ps_for PassesOwn.never rfl (pi_list (pv 2)) (pg_tup rfl (pgs_cons (pg_name (i := 4) scSLines.nd rfl (.inl rfl)) (pgs_cons (pg_name (i := 5) scSLines.nd rfl (.inl rfl)) (pgs_cons (pg_name (i := 6) scSLines.nd rfl (.inl rfl)) pgs_nil))))
          (pss_one (ps_expr (pe_bm PySem.F.plainAttrs_list PySem.F.slot_list_append PySem.F.type_list_append mt_append (pv 3) (pa_cons (pe_op op_add_str (pe_op op_add_str (pe_ix ix_list (pe_dget (units1 hr) (pv 0) pe_str (fun _ _ => rfl)) (pv 4) (fun _ _ => rfl))
            (pe_ifExp (pt_val (pv 5)) pe_str pe_str)) (pe_callTy call_str_int (by rfl) T.str (by decide +kernel) (pa_cons (pv 6) pa_nil))) pa_nil)))))
        (pss_one (ps_expr (pe_bm PySem.F.plainAttrs_list PySem.F.slot_list_append PySem.F.type_list_append mt_append (pv 1) (pa_cons (pe_op op_add_str pe_str (pe_join pe_str (pv 3))) pa_nil)))))))
      (pss_one (ps_ret (pv 1)))), ?_⟩
    have sl : (sizeLine : Nat) = 16777216 := sizeLine_eq
    have l4 : ("key " : Str).length = 4 := by decide +kernel
    have l1 : (" " : Str).length = 1 := by decide +kernel
    have lor : (" or " : Str).length = 4 := by decide +kernel
    have lru : ("rule " : Str).length = 5 := by decide +kernel
    have numl : ∀ m : Nat, m < 10 → (numS m).length = 1 := fun m h => by
      rw [TL.len_tl, show TL.tl (numS m) = tx (numS m) from rfl, numS_tx h]
      rfl
    have lgs : ∀ m : Nat, m < 10 → ((m : Nat) : Int).natAbs.log2 < 1920 := fun m h => by
      have : m.log2 ≤ m := Nat.log2_le_self _
      show m.log2 < 1920
      omega
    have lN : (namesV ks).length = ks.length := by
      unfold namesV
      rw [List.length_map]
    have lS : (sizesV ks).length = ks.length := by
      unfold sizesV
      rw [List.length_map]
    have k3 := g.three
    have gl := good_lits g
    dsimp only [tSeq, tAsg, tLc, List.map]
    refine ⟨_, rfl, d, .ref NA, rfl, .inl ⟨_, .inr "names", .inl sd.hd, rfl, rfl⟩, _, rfl, d, .ref SA, rfl, .inl ⟨_, .inr "sizes", .inl sd.hd, rfl, rfl⟩, NA, SA, _, _, rfl, SqL.of sd.hN, SqL.of sd.hS, fun F nF => ?_⟩
    have nFj := hj.ne nF
    refine lc_it (walk_zip (n := ks.length) (by rw [lN, lS]; omega)) (fun i H' => Same H H' ∧ H' F = some (.lst (((ks.take i).map keyLine).map V.str))) ⟨same_upd nF, upd_same⟩ (fun i H' _ z => ⟨SqL.of (z.1 _ _ sd.hN), SqL.of (z.1 _ _ sd.hS)⟩) ?_ ?_
    · rintro i x H1 H2 hi ⟨s1, hF⟩ ⟨T1, x1, x2, rfl, nT, rfl, e1, e2⟩
      obtain ⟨kx, hkx⟩ : ∃ kx, ks[i]? = some kx := ⟨_, List.getElem?_eq_getElem hi⟩
      obtain rfl : V.str kx.1 = x1 := by
        have : (namesV ks)[i]? = some x1 := e1
        unfold namesV at this
        rw [List.getElem?_map, hkx] at this
        exact Option.some.inj this
      obtain rfl : V.int (kx.2 : Int) = x2 := by
        have : (sizesV ks)[i]? = some x2 := e2
        unfold sizesV at this
        rw [List.getElem?_map, hkx] at this
        exact Option.some.inj this
      have hmem := List.mem_of_getElem? hkx
      have sz := g.sz kx hmem
      have nl8 := (g.nm kx hmem).len
      refine ⟨T1, _, rfl, SqT.of upd_same, rfl, .str kx.1, _, rfl, .int (kx.2 : Int), _, rfl, rfl, ?_⟩
      refine ⟨rfl, _, rfl, _, _, rfl, rfl, by omega, _, _, rfl, rfl, by rw [Str.length_append]; omega, _, rfl, _, rfl, lgs kx.2 (by omega), _, _, rfl, rfl, ?_, ?_⟩
      · rw [Str.length_append, Str.length_append]
        have := numl kx.2 (by omega)
        have e : (PySem.Str.ofString (toString ((kx.2 : Nat) : Int))).length = 1 := this
        omega
      · have hF2 := get_new (o := .tup [V.str kx.1, V.int (kx.2 : Int)]) hF nT
        refine ⟨_, hF2, ?_, same_new (s1.trans (same_upd nT)) nF, ?_⟩
        · rw [List.length_map, List.length_map, List.length_take]
          exact small1000 (by omega)
        · rw [upd_same, take_one hkx, List.map_append, List.map_append]
          rfl
    · rintro H1 ⟨s1, hF⟩
      rw [List.take_length] at hF
      dsimp only [gName]
      obtain ⟨tu, hRU, prU⟩ := sd.hU
      have ltu : tu.length = rules.length := Paired.length prU
      refine ⟨_, rfl, d, .ref RU, rfl, .inl ⟨_, .inr "rules", .inl (s1 _ _ sd.hd), rfl, rfl⟩, RU, rfl, ⟨_, SqL.of (s1 _ _ hRU)⟩, for_list (K := K) (xs := tu.map V.ref) (fun i σ H' => ∃ v2 v3 v4 v5 v6 : Option V, σ = [some (.ref d), some (.ref F), v2, v3, v4, v5, v6, none, none] ∧ Same H H' ∧ H' F = some (.lst ((ks.map keyLine ++ (rules.take i).map (ruleLine ks)).map V.str)))
        ⟨none, none, none, none, none, rfl, s1, by rw [List.take_zero, List.map_nil, List.append_nil]; exact hF⟩ (fun i σ H' _ ⟨_, _, _, _, _, _, z, _⟩ => SqL.of (z _ _ hRU)) ?_ ?_⟩
      · rintro i x σ HB hx ⟨v2, v3, v4, v5, v6, rfl, sB, hFB⟩
        rw [List.getElem?_map] at hx
        obtain ⟨t, ht, rfl⟩ := Option.map_eq_some_iff.mp hx
        obtain ⟨ls, hls1, htj, hls2⟩ := paired_get prU ht
        have ilt : i < tu.length := (List.getElem?_eq_some_iff.mp ht).1
        obtain ⟨q1, q3, qk⟩ := gl ls (List.mem_of_getElem? hls1)
        obtain ⟨tl, hL, prL⟩ := hls2
        have ltl : tl.length = ls.length := Paired.length prL
        refine ⟨Nat.zero_le _, fun S nS => ?_⟩
        have sS := same_upd (o := .lst []) nS
        refine ⟨_, rfl, t, rfl, ⟨_, SqL.of ((sB.trans sS) _ _ hL)⟩, for_list (K := K) (xs := tl.map V.ref) (fun q σ H' => ∃ v4 v5 v6 : Option V, σ = [some (.ref d), some (.ref F), some (.ref t), some (.ref S), v4, v5, v6, none, none] ∧ Same HB H' ∧ H' S = some (.lst (((ls.take q).map (litText ks)).map V.str)))
          ⟨_, _, _, rfl, sS, upd_same⟩ (fun q σ H' _ ⟨_, _, _, _, z, _⟩ => SqL.of ((sB.trans z) _ _ hL)) ?_ ?_⟩
        · rintro q x σ HQ hx ⟨v4, v5, v6, rfl, sQ, hS⟩
          rw [List.getElem?_map] at hx
          obtain ⟨u, hu, rfl⟩ := Option.map_eq_some_iff.mp hx
          obtain ⟨l, hl1, hl2⟩ := paired_get prL hu
          have qlt : q < tl.length := (List.getElem?_eq_some_iff.mp hu).1
          have lok := qk l (List.mem_of_getElem? hl1)
          have tlen := (lit_len lok).1
          obtain ⟨kx, hkx, wlt, nm, kx3⟩ := lok.at_
          have sAll := sB.trans sQ
          refine ⟨u, _, rfl, SqT.of (sAll _ _ hl2), rfl, .int (l.1 : Int), _, rfl, .bl l.2.1, _, rfl, .int (l.2.2 : Int), _, rfl, rfl, ?_⟩
          have hat : atI (namesV ks) ((l.1 : Nat) : Int) = some (.str kx.1) := atI_nat (by
            unfold namesV
            rw [List.getElem?_map, hkx]
            rfl)
          have en : nameOf ks l.1 = kx.1 := by
            unfold nameOf
            rw [List.getD_eq_getElem?_getD, hkx]
            rfl
          refine ⟨_, rfl, .inl ⟨rfl, _, SqL.of hS⟩, _, rfl, d, .ref NA, rfl, .inl ⟨_, .inr "names", .inl (sAll _ _ sd.hd), rfl, rfl⟩, _, rfl, NA, _, _, _, rfl, rfl, SqL.of (sAll _ _ sd.hN), hat, ?_⟩
          have fin : ∀ s : Str, s = (if l.2.1 = true then (" = " : Str) else (" != " : Str)) → (∃ i j, V.str kx.1 = .str i ∧ V.str s = .str j ∧ i.length + j.length ≤ sizeLine ∧ ∃ v, ([some (V.ref d), some (V.ref F), some (V.ref t), some (V.ref S), some (.int (l.1 : Int)), some (.bl l.2.1), some (.int (l.2.2 : Int)), none, none] : L2.St)[6]? = some (some v) ∧ v = .int (l.2.2 : Int)) := fun s e => by
            refine ⟨_, _, rfl, rfl, ?_, _, rfl, rfl⟩
            rw [e]
            have := nm.len
            have le : (if l.2.1 = true then (" = " : Str) else (" != " : Str)).length ≤ 4 := by
              split
              · decide +kernel
              · decide +kernel
            omega
          have rest : ∀ s : Str, s = (if l.2.1 = true then (" = " : Str) else (" != " : Str)) → kx.1.length + s.length ≤ sizeLine ∧ (kx.1 ++ s).length + (numS l.2.2).length ≤ sizeLine ∧ (kx.1 ++ s) ++ numS l.2.2 = litText ks l := fun s e => by
            have et : (kx.1 ++ s) ++ numS l.2.2 = litText ks l := by
              unfold litText
              rw [en, e]
            rw [← et, Str.length_append, Str.length_append] at tlen
            rw [Str.length_append]
            exact ⟨by omega, by omega, et⟩
          have done : ∀ s : Str, s = (if l.2.1 = true then (" = " : Str) else (" != " : Str)) → ∃ v4 v5 v6 : Option V, [some (V.ref d), some (V.ref F), some (V.ref t), some (V.ref S), some (.int (l.1 : Int)), some (.bl l.2.1), some (.int (l.2.2 : Int)), none, none] = [some (.ref d), some (.ref F), some (.ref t), some (.ref S), v4, v5, v6, none, none] ∧ Same HB (upd HQ S (.lst (((ls.take q).map (litText ks)).map V.str ++ [V.str ((kx.1 ++ s) ++ numS l.2.2)]))) ∧ (upd HQ S (.lst (((ls.take q).map (litText ks)).map V.str ++ [V.str ((kx.1 ++ s) ++ numS l.2.2)]))) S = some (.lst (((ls.take (q + 1)).map (litText ks)).map V.str)) := fun s e => by
            refine ⟨_, _, _, rfl, same_new sQ nS, ?_⟩
            rw [upd_same, (rest s e).2.2, take_one hl1, List.map_append, List.map_append]
            rfl
          have sm : (((ls.take q).map (litText ks)).map V.str).length < sizeLine := by
            rw [List.length_map, List.length_map, List.length_take]
            exact small1000 (by omega)
          refine ⟨_, rfl, l.2.1, rfl, ?_⟩
          refine ite2 (fun hb => ?_) (fun hb => ?_)
          · have r := rest " = " (by rw [if_pos hb])
            exact ⟨_, _, rfl, rfl, r.1, _, rfl, _, rfl, lgs l.2.2 (by omega), _, _, rfl, rfl, r.2.1, S, _, _, rfl, rfl, hS, sm, done " = " (by rw [if_pos hb])⟩
          · have r := rest " != " (by rw [if_neg hb])
            exact ⟨_, _, rfl, rfl, r.1, _, rfl, _, rfl, lgs l.2.2 (by omega), _, _, rfl, rfl, r.2.1, S, _, _, rfl, rfl, hS, sm, done " != " (by rw [if_neg hb])⟩
        · rintro σ HQ ⟨v4, v5, v6, rfl, sQ, hS⟩
          rw [List.length_map, ltl, List.take_length] at hS
          have hFQ := sQ _ _ hFB
          have rok := (rule_ok q1 q3 qk).1
          have eru : ("rule " : Str) ++ Txt.join (" or " : Str) (ls.map (litText ks)) = ruleLine ks ls := rfl
          refine ⟨_, rfl, .inl ⟨rfl, _, SqL.of hFQ⟩, ⟨_, rfl⟩, _, rfl, _, S, ls.map (litText ks), rfl, rfl, .inl (SqL.of hS), ?_, _, _, rfl, rfl, ?_, F, _, _, rfl, rfl, hFQ, ?_, ?_⟩
          · have b := sum_le (m := 13) (xs := ls.map (litText ks)) fun x hx => by
              obtain ⟨l, hl, rfl⟩ := List.mem_map.mp hx
              exact (lit_len (qk l hl)).1
            rw [List.length_map] at b ⊢
            have e4 : (PySem.Str.ofString " or ").length = 4 := lor
            rw [e4]
            omega
          · rw [← Str.length_append]
            exact Nat.le_trans rok (by decide)
          · rw [List.length_map, List.length_append, List.length_map, List.length_map, List.length_take]
            exact small1000 (by omega)
          · refine ⟨_, _, _, _, _, rfl, same_new (sB.trans sQ) nF, ?_⟩
            rw [upd_same, take_one hls1]
            simp only [List.map_append, List.append_assoc]
            rfl
      · rintro σ HB ⟨v2, v3, v4, v5, v6, rfl, sB, hFB⟩
        rw [List.length_map, ltu, List.take_length] at hFB
        exact ⟨_, rfl, k HB F sB nF hFB⟩
end
end K01

namespace K01
open PySem PySem.Spec PyProof.Rows L2 CwR
open Builtin.Str in
/-- x with the first y as z -/
def repl1 (x y z : Str) : Str := if ((occurrences x y 0 x.length 1).isEmpty || (y.length == 0 && z.length == 0)) = true then x else glued z (partsBetween x (occurrences x y 0 x.length 1) y.length)
open Builtin.Str in
theorem gl_len (x y z : Str) (lim : Nat) : (glued z (partsBetween x (occurrences x y 0 x.length lim) y.length)).length ≤ x.length + lim * z.length := by
  have h1 := StrLaws.occ_length_le x y 0 x.length lim
  have hy : (glued y (partsBetween x (occurrences x y 0 x.length lim) y.length)).length = x.length := by rw [StrLaws.glued_between_self]
  (rw [size_glued, length_partsBetween, Nat.add_sub_cancel] at hy)
  (rw [size_glued, length_partsBetween, Nat.add_sub_cancel])
  have h2 : (occurrences x y 0 x.length lim).length * z.length ≤ lim * z.length := Nat.mul_le_mul_right _ h1
  omega
theorem repl1_len (x y z : Str) : (repl1 x y z).length ≤ x.length + z.length := by
  unfold repl1
  split
  · exact Nat.le_add_right _ _
  · have := gl_len x y z 1
    omega
open Builtin.Str in
theorem gl_asc {x z : Str} (hx : Asc x) (hz : Asc z) (cuts : List Nat) (n : Nat) : Asc (glued z (partsBetween x cuts n)) := by
  have hp : ∀ p ∈ partsBetween x cuts n, ∀ c ∈ p.cps.toList, c < 128 := fun p hp c hc => by
    obtain ⟨q, _, rfl⟩ := List.mem_map.mp hp
    have e : c ∈ (x.cps.extract q.1 q.2).toList := hc
    rw [Array.toList_extract] at e
    exact hx c (List.mem_of_mem_drop (List.mem_of_mem_take (by simpa [List.extract] using e)))
  have fold : ∀ (ps : List Str) (acc : Array Nat), (∀ c ∈ acc.toList, c < 128) → (∀ p ∈ ps, ∀ c ∈ p.cps.toList, c < 128) → ∀ c ∈ (ps.foldl (fun acc p => acc ++ z.cps ++ p.cps) acc).toList, c < 128 := by
    intro ps
    induction ps with
    | nil => exact fun acc h _ c hc => h c hc
    | cons p r ih =>
      intro acc h h2 c hc
      refine ih (acc ++ z.cps ++ p.cps) (fun c hc => ?_) (fun q hq => h2 q (List.mem_cons_of_mem _ hq)) c hc
      simp only [Array.toList_append, List.mem_append] at hc
      rcases hc with (hc | hc) | hc
      · exact h c hc
      · exact hz c hc
      · exact h2 p List.mem_cons_self c hc
  intro c hc
  refine fold ((partsBetween x cuts n).drop 1) ((partsBetween x cuts n).headD Str.empty).cps (fun c hc => ?_) (fun p h => hp p (List.mem_of_mem_drop h)) c hc
  cases e : partsBetween x cuts n with
  | nil =>
    rw [e] at hc
    cases hc
  | cons p r =>
    rw [e] at hc
    exact hp p (by rw [e]; exact List.mem_cons_self) c hc
theorem repl1_asc {x y z : Str} (hx : Asc x) (hz : Asc z) : Asc (repl1 x y z) := by
  unfold repl1
  split
  · exact hx
  · exact gl_asc hx hz _ _
theorem repl_asc {x y z : Str} (hx : Asc x) (hz : Asc z) : Asc (Txt.replace x y z) := by
  unfold Txt.replace
  split
  · exact hx
  · exact gl_asc hx hz _ _
open Builtin Builtin.Str in
theorem gives_repl1 (x y z : Str) (t u v m : Tok) (h0 : (u == 0 || v == 0) = false) (huv : (u == v) = false) (hyz : (y == z) = false) (hl : x.length + z.length ≤ 16777216) :
    Gives («str.replace» ⟨[.str x t, .str y u, .str z v, .int 1 m], []⟩) (if ((occurrences x y 0 x.length 1).isEmpty || (y.length == 0 && z.length == 0)) = true then .val (.str x t) else .str (glued z (partsBetween x (occurrences x y 0 x.length 1) y.length))) := by
  have e : («str.replace» ⟨[.str x t, .str y u, .str z v, .int 1 m], []⟩ : Sem Fin) = (if ((occurrences x y 0 x.length 1).isEmpty || (y.length == 0 && z.length == 0)) = true then (do rule "str.replace.nothing"; ret (.str x t)) else
          (do let eqs ← isSame (.str y u) (.str z v)
              if eqs = true then (do rule "str.replace.old-is-new"; ret (.str x t)) else
              if tooLong (x.length + (occurrences x y 0 x.length 1).length * z.length) = true then unsupported "str.replace:memory" else
              retStr (glued z (partsBetween x (occurrences x y 0 x.length 1) y.length)))) := by
    show (do let limit ← countLimit "str.replace" (some (.int 1 m)) (x.length + 1); _) = _
    rw [countLimit_int "str.replace" 1 m (x.length + 1) (by decide)]
    rfl
  rw [e]
  cases hc : ((occurrences x y 0 x.length 1).isEmpty || (y.length == 0 && z.length == 0))
  · have tl : tooLong (x.length + (occurrences x y 0 x.length 1).length * z.length) = false := by
      have h1 := StrLaws.occ_length_le x y 0 x.length 1
      have h2 : (occurrences x y 0 x.length 1).length * z.length ≤ 1 * z.length := Nat.mul_le_mul_right _ h1
      exact decide_eq_false (by rw [sizeLine_eq]; omega)
    rw [isSame_str_other y z u v h0 huv hyz, tl]
    exact .of_eq rfl
  · exact .rule (.of_eq rfl)
/-! ### rules behind which a token is out -/
def tRepl1 (to : TE) (y z : Str) : TE := fun σ H Q => to σ H fun v H1 => ∃ x, v = .str x ∧ x.length + z.length ≤ 16777216 ∧ Q (.str (repl1 x y z)) H1
section
variable {X : Cx} {o e f : Expr} {te tf : TE} {to : TE} {y z x : Str} {i j k l : Nat} {c0 c1 c2 apos pos p p' : Pos}
theorem call3 {prog : Program} {w : World} {A : Around} {E : Value → Shared → Prop} {s : Shared} {env : Env} {o a b d : Expr} {name : Str} {apos pos : Pos} {Q : Value → Shared → Prop} (hbase : attributeBase o name env (eval o env) = eval o env)
    (hs : starEach [a, b, d] env = [(false, eval a env), (false, eval b env), (false, eval d env)]) (hline : (apos.endLine == pos.line) = true)
    (h : wpAny (model prog w) A (eval o env) (fun ov s1 => MethodOnS prog w A E name ov pos [(false, eval a env), (false, eval b env), (false, eval d env)] Q s1) E s) :
    wpAny (model prog w) A (eval (.Call (.Attribute o name apos) [a, b, d] [] pos) env) Q E s := by
  (refine wpAny_Call_method_lateS hbase (by rw [hs]; rfl) hline ?_)
  rw [hs]
  exact h
theorem pet_repl1 (ho : PET X o to) (hyz : (y == z) = false := by decide)
    (hst : starEach [.Constant (.str y) j c0, .Constant (.str z) k c1, .Constant (.int 1) l c2] X.env = [(false, eval (.Constant (.str y) j c0) X.env), (false, eval (.Constant (.str z) k c1) X.env), (false, eval (.Constant (.int 1) l c2) X.env)] := by rfl)
    (hbase : attributeBase o "replace" X.env (eval o X.env) = eval o X.env := by rfl) (hline : (apos.endLine == pos.line) = true := by (rfl)) :
    PET X (.Call (.Attribute o "replace" apos) [.Constant (.str y) j c0, .Constant (.str z) k c1, .Constant (.int 1) l c2] [] pos) (tRepl1 to y z) := by
  intro pins s σ H Q h0 I h
  refine call3 hbase hst hline ?_
  refine wpAny_mono (PySem.wpAny_toks (ho pins s σ H _ h0 I h)) (fun v s1 q => ?_) fun _ _ z => z.2
  obtain ⟨hk, v', H1, I1, r1, xx, e1, hb, q⟩ := q
  subst e1
  obtain ⟨tx, e2⟩ := r1
  subst e2
  (refine ⟨"str", _, PySem.F.plainAttrs_str, PySem.F.slot_str_replace, PySem.F.type_str_replace, typeIs_str _ _ _, (fun _ e => nomatch e), Calls.callWith_builtin rfl (Calls.evalArgs_plain (Calls.spliced_cons ?_))⟩)
  refine Calls.Constant_str (Calls.spliced_cons ?_)
  refine Calls.Constant_str (Calls.spliced_cons ?_)
  refine wpAny_Constant_int (Calls.spliced_nil ?_)
  have n0 : (s1.toks == 0 || s1.toks + 1 == 0) = false := by
    have a : (s1.toks == 0) = false := beq_eq_false_iff_ne.mpr (by omega)
    have b : (s1.toks + 1 == 0) = false := beq_eq_false_iff_ne.mpr (by omega)
    rw [a, b]
    rfl
  have n1 : (s1.toks == s1.toks + 1) = false := beq_eq_false_iff_ne.mpr (by omega)
  refine call_gives PySem.F.slot_str_replace (typeIs_str _ _ _) PySem.F.entry_str_replace (PySem.F.args_str_replace_4 _ _ _ _) (gives_repl1 xx y z tx _ _ _ n0 n1 hyz hb) ?_
  have ln := repl1_len xx y z
  unfold repl1 at q ln
  split
  · rename_i c
    rw [if_pos c] at q
    exact ⟨V.str xx, H1, I1.tok _, ⟨tx, rfl⟩, q⟩
  · rename_i c
    rw [if_neg c] at q ln
    exact ⟨by show _ ≤ sizeLine; rw [sizeLine_eq]; omega, V.str _, H1, I1.tok _, ⟨_, rfl⟩, q⟩
/-- a name set to a list that begins with a written text -/
theorem pss_lits {rest : List Stmt} {u : TS} {c : Str} {es : List Expr} {ta : TA} {cp lp pos' : Pos} (hN : X.N.Nodup) (hi : X.N[i]? = some x) (hx : Loc X.env.scope x) (ha : PA X es ta) (h2 : PSsT X rest u)
    (hst : starEach (.Constant (.str c) j cp :: es) X.env = (false, eval (.Constant (.str c) j cp) X.env) :: starEach es X.env := by rfl)
    (hs : swapsWith (.List (.Constant (.str c) j cp :: es) lp) (some (.Name x pos')) pos.line X.env = pure false := by rfl) (hf : X.fn x = true ∨ X.env.scope.names.lookup x = some .local := by first | exact .inl rfl | exact .inr rfl | assumption) :
    PSs X (.Assign [.Name x pos'] (.List (.Constant (.str c) j cp :: es) lp) pos :: rest) (tSeq (tAsg (tLst (tCons (tC (.str c)) ta)) (gName i)) u) := by
  (refine ⟨fun pins s σ H D I h => ?_⟩)
  refine wpAny_execs_cons (wpAny_Assign_Name (wpAny_List_spliced ?_) hs)
  rw [hst]
  show wpAny _ _ (spliced ((false, eval (.Constant (.str c) j cp) X.env) :: backTo lp (starEach es X.env))) _ _ s
  (refine Calls.spliced_cons (Calls.Constant_str ?_))
  refine wpAny_mono (PySem.wpAny_toks (ha.run lp pins { s with toks := s.toks + 1 } σ H _ (I.tok _) h)) (fun us s1 q => ?_) fun _ _ z => z.2
  obtain ⟨hk, xs, H1, I1, r, zz, q⟩ := q
  have hk' : s.toks + 1 ≤ s1.toks := hk
  have rr : Vals (V.str c :: xs) (Value.str c s.toks :: us) := .cons ⟨s.toks, rfl⟩ r
  refine ⟨by rw [← rr.length]; exact zz, ?_⟩
  have I2 : Inv X pins σ (upd H1 s1.heap.objs.size (.lst (V.str c :: xs))) { s1 with heap := s1.heap.push { cls := .type "list", data := .seq (Value.str c s.toks :: us).toArray } } :=
    I1.laid (t' := s1.toks) (fun b u e => Heap.get?_push_of_some _ e) (Nat.le_refl _) ⟨zz, _, 0, rr, Heap.get?_push_size _ rfl⟩
  refine wpAny_mono (PySem.wpAny_toks (store_ok (v := V.ref s1.heap.objs.size) (u := Value.ref s1.heap.objs.size) (Q := fun _ s2 => Inv X pins (σ.set i (some (V.ref s1.heap.objs.size))) (upd H1 s1.heap.objs.size (.lst (V.str c :: xs))) s2) I2 hN hi hx rfl (fun _ I3 => I3) hf)) (fun _ s2 q2 => ?_) fun _ _ z => z.2
  have hk2 : s1.toks ≤ s2.toks := q2.1
  exact h2 pins s2 _ _ D (by omega) q2.2 (q _ (I1.hok.fresh (Nat.le_refl _)))
theorem pst_set {pos' : Pos} (hN : X.N.Nodup) (hi : X.N[i]? = some x) (hx : Loc X.env.scope x) (he : PET X e te) (hs : swapsWith e (some (.Name x pos')) pos.line X.env = pure false := by rfl) (hf : X.fn x = true ∨ X.env.scope.names.lookup x = some .local := by first | exact .inl rfl | exact .inr rfl | assumption) :
    PST X (.Assign [.Name x pos'] e pos) (tAsg te (gName i)) := by
  intro pins s σ H D h0 I h
  exact wpAny_Assign_Name (thn (he pins s σ H _ h0 I h) fun v s1 ⟨y, H1, I1, r1, q1⟩ => store_ok I1 hN hi hx r1 (fun s2 I2 => ⟨_, H1, I2, q1⟩) hf) hs
theorem pet_has {nm : Str} {k : Nat} {ps : List Str} {sp : Sp} {e : Expr} {es : List Expr} {t : TA} {p pos : Pos} (h : Has X.prog X.w X.K X.mg X.base nm k ps sp) (hr : Room k X.A) (ha : PAT X (e :: es) t) (hg : Gl X nm := by rfl)
    (hdb : (nm == ("__debug__" : Str)) = false := by decide) (he : starEach (e :: es) X.env = (false, eval e X.env) :: starEach es X.env := by rfl) (hpl : (backTo pos (starEach es X.env)).any (·.1) = false := by rfl) :
    PET X (.Call (.Name nm p) (e :: es) [] pos) (tCall sp [] E0 t) := by
  obtain ⟨f, fd, F, hm, hk, hb⟩ := h
  intro pins s σ H Q h0 I h
  (refine wpAny_Call_Name_kw (ld_glob I hg hm ?_ hdb))
  refine PySem.W.callWith_K (h₀ := X.base) I.ok.mod.kin hk (thn (ha pos pins s σ H _ h0 I h) fun us s1 ⟨vs, H1, I1, r, q⟩ => ⟨I1.kIn, ?_⟩) he hpl
  exact run_fn F hr hb .nil pass0 I1 r q
end
end K01

namespace K01
open PySem PySem.Spec PyProof.Rows L2 CwR
abbrev sLine : Stmt := top 59
/-! ### a line otherwise -/
def GoodT (z : Str) : Prop := z.length ≤ 400 ∧ Asc z
def goodB (z : Str) : Bool := decide (z.length ≤ 30) && z.cps.toList.all fun c => decide (c < 128)
theorem good_of {z : Str} (h : goodB z = true) : z.length ≤ 30 ∧ Asc z := by
  unfold goodB at h
  rw [Bool.and_eq_true] at h
  exact ⟨of_decide_eq_true h.1, fun c hc => of_decide_eq_true (List.all_eq_true.mp h.2 c hc)⟩
theorem asc_cat {a b : Str} (ha : Asc a) (hb : Asc b) : Asc (a ++ b) := fun c hc => by
  have e : c ∈ TL.tl (a ++ b) := hc
  rw [TL.tl_append, List.mem_append] at e
  rcases e with e | e
  · exact ha c e
  · exact hb c e
theorem asc_cut {a : Str} (ha : Asc a) (lo hi : Option Int) : Asc (cutS a lo hi) := fun c hc => by
  have e : c ∈ TL.tl (cutS a lo hi) := hc
  unfold cutS at e
  rw [TL.tl_mk] at e
  exact ha c (List.mem_of_mem_drop (List.mem_of_mem_take e))
theorem asc_up {a : Str} (ha : Asc a) : Asc (Txt.upper a) ∧ (Txt.upper a).length = a.length := by
  rw [upper_ascii ha]
  refine ⟨fun c hc => ?_, ?_⟩
  · have e : c ∈ (a.cps.map up1).toList := hc
    rw [Array.toList_map] at e
    obtain ⟨d, hd, rfl⟩ := List.mem_map.mp e
    have := ha d hd
    unfold up1
    split <;> omega
  · show (a.cps.map up1).size = a.cps.size
    simp
def AllGood (xs : List V) : Prop := ∀ v ∈ xs, ∃ z : Str, v = .str z ∧ GoodT z
theorem allgood_cat {xs ys : List V} (h : AllGood xs) (k : AllGood ys) : AllGood (xs ++ ys) := fun v hv => by
  rcases List.mem_append.mp hv with hv | hv
  · exact h v hv
  · exact k v hv
theorem allgood_cons {z : Str} {xs : List V} (h : GoodT z) (k : AllGood xs) : AllGood (.str z :: xs) := fun v hv => by
  (rcases List.mem_cons.mp hv with rfl | hv)
  · exact ⟨z, rfl, h⟩
  · exact k v hv
theorem allgood_nil : AllGood [] := fun v hv => nomatch hv
theorem allgood_lit {l : List Str} (h : l.all goodB = true) : AllGood (l.map V.str) := fun v hv => by
  obtain ⟨z, hz, rfl⟩ := List.mem_map.mp hv
  have g := good_of (List.all_eq_true.mp h z hz)
  exact ⟨z, rfl, Nat.le_trans g.1 (by decide), g.2⟩
def lit17 : List V := ([.str "", .str " ", .str "key", .str "key a", .str "key a 1", .str "key a 2", .str "key b 3", .str "key a 4", .str "key a 02", .str "key A 2"] : List V) ++ ([.str "key abcdefghi 2", .str "key abcdefgh 2", .str "rule", .str "rule a", .str "rule a = 0", .str "or a = 0", .str "key a 2 2"] : List V)
def near11 (z : Str) : List V := ([.str (z ++ " "), .str (" " ++ z), .str (repl1 z " " "  "), .str (Txt.upper z), .str (z ++ " 0"), .str (cutS z none (some (-1))), .str (z ++ " or")] : List V) ++ ([.str (Txt.replace z "=" "=="), .str (Txt.replace z "!=" "="), .str (Txt.replace z " = " " != "), .str (z ++ cutS z (some 4) none)] : List V)
section
variable {base : Heap} {P : Program} {w : World} {K : PySem.W.Frag} {mg : Str → Option Value}
def spLine : Sp := fun vs H Q _ => ∃ (j p : Addr) (n : Nat) (ls : List Str), vs = [.ref j, .ref p] ∧ Jar H j n ∧ n ≤ 8000 ∧ p ≠ j ∧ H p = some (.lst (ls.map V.str)) ∧ 1 ≤ ls.length ∧ ls.length ≤ 100 ∧ (∀ l ∈ ls, l.length ≤ 60 ∧ Asc l) ∧
  ∀ (z : Str) (H' : Hp), GoodT z → Jar H' j (n + 2) → Keep j H H' → Q (.str z) H'
abbrev nLine : List Str := ["_law_jar_here", "_law_lines", "_law_line_here", "_law_some", "_law_near", "_law_sign"]
theorem scLine : FnScope nLine ["_law_jar_here", "_law_lines"] (defScope sLine) := ⟨rfl, rfl, rfl, by decide +kernel, rfl, by decide +kernel, by decide +kernel⟩
theorem ok_line {f : Addr} {fd : FuncData} (F : Fun K "_law_line" "_law_line" sLine f fd) (GO : jarOf P w K mg base) : FnOk P w K mg base CX0 3 f fd ["_law_jar_here", "_law_lines"] spLine := by
  refine F.ok scLine (fun vs H Q E h => ?_) (fun cdv A outer s H vs Q E hr h => ?_)
  · obtain ⟨j, p, n, ls, rfl, _⟩ := h
    rfl
  · obtain ⟨j, p, n, ls, rfl, hj, hn, npj, hp, l1, l2, hok, k⟩ := h
    refine ⟨_, pss_cons (ps_set (i := 2) scLine.nd rfl (.inr rfl) (pe_has GO hr (pa_cons (pv 0) (pa_cons (pv 1) pa_nil))))
      (pss_lits (i := 3) scLine.nd rfl (.inl rfl) (pa_cons pe_str (pa_cons pe_str (pa_cons pe_str (pa_cons pe_str (pa_cons pe_str (pa_cons pe_str (pa_cons pe_str (pa_cons pe_str (pa_cons pe_str pa_nil)))))))))
      (psst_cons (PST.of (ps_set (i := 3) scLine.nd rfl (.inl rfl) (pe_op op_cat (pv 3) (pe_lst (pa_cons pe_str (pa_cons pe_str (pa_cons pe_str (pa_cons pe_str (pa_cons pe_str (pa_cons pe_str (pa_cons pe_str pa_nil)))))))))))
      (psst_cons (pst_set (i := 4) scLine.nd rfl (.inl rfl) (pet_lst (pat_cons (PET.of (pe_op op_add_str (pv 2) pe_str)) (pat_cons (PET.of (pe_op op_add_str pe_str (pv 2))) (pat_cons (pet_repl1 (PET.of (pv 2)))
          (pat_cons (PET.of (pe_upper (pv 2))) (pat_cons (PET.of (pe_op op_add_str (pv 2) pe_str)) (pat_cons (PET.of (pe_slice sl_str (pv 2) po_none (po_some (pe_un un_neg pe_int)))) (pat_cons (PET.of (pe_op op_add_str (pv 2) pe_str)) pat_nil)))))))))
      (psst_cons (pst_set (i := 4) scLine.nd rfl (.inl rfl) (pet_op op_cat (PET.of (pv 4)) (pet_lst (pat_cons (pet_replC (pv 2)) (pat_cons (pet_replC (pv 2)) (pat_cons (pet_replC (pv 2)) (pat_cons (PET.of (pe_op op_add_str (pv 2) (pe_slice sl_str (pv 2) (po_some pe_int) po_none))) pat_nil)))))))
      (psst_cons (pst_set (i := 4) scLine.nd rfl (.inl rfl) (pet_op op_cat (PET.of (pe_op op_cat (pv 4) (pe_lc (own := [("_law_sign", 5)]) (g := gName 5) (tt := tYes) rfl scLine.nd (pi_str pe_str)
          (blkOk_by (N := nLine) (sc := defScope sLine) (by decide +kernel)) (fun _ _ _ _ _ => pg_name (i := 5) scLine.nd rfl (Or.inl rfl)) (fun _ _ _ _ _ => pts_nil)
          (fun _ _ _ _ _ => pe_op op_add_str (pe_slice sl_str (pv 2) po_none (po_some (pe_un un_neg pe_int))) (pv 5))))) (pet_lst (pat_cons (pet_replC (pv 2)) pat_nil))))
      (psst_one (PST.of (ps_ret (pe_has GO hr (pa_cons (pv 0) (pa_cons (pe_op op_cat (pe_op op_cat (pv 3) (pv 4)) (pe_op op_rep (pe_lst (pa_cons (pe_op op_add_str (pe_op op_add_str (pv 2) pe_str) (pe_slice sl_str (pv 2) (po_some pe_int) po_none)) pa_nil)) pe_int)) pa_nil))))))))))), ?_⟩
    refine ⟨.ref j, rfl, .ref p, rfl, j, n, .ref p, rfl, hj, by omega, .inl ⟨p, _, rfl, npj, SqL.of hp, by rw [List.length_map]; exact l1, by rw [List.length_map]; omega, fun y H1 hy hj1 kp1 => ?_⟩⟩
    obtain ⟨z, hz, rfl⟩ := List.mem_map.mp hy
    obtain ⟨zl, za⟩ := hok z hz
    have sl : (sizeLine : Nat) = 16777216 := sizeLine_eq
    have c1 : (" " : Str).length = 1 := by decide +kernel
    have c2 : (" 0" : Str).length = 2 := by decide +kernel
    have c3 : (" or" : Str).length = 3 := by decide +kernel
    have c4 : (" or " : Str).length = 4 := by decide +kernel
    have c5 : ("  " : Str).length = 2 := by decide +kernel
    have c6 : ("==" : Str).length = 2 := by decide +kernel
    have c7 : ("=" : Str).length = 1 := by decide +kernel
    have c8 : (" != " : Str).length = 4 := by decide +kernel
    have c9 : ("and" : Str).length = 3 := by decide +kernel
    refine ⟨(by show 10 ≤ sizeLine; decide), fun q1 n1 => ?_⟩
    have k0 : JK H H1 j (n + 1) := ⟨hj1, kp1⟩
    refine ⟨.ref q1, rfl, (by show 7 ≤ sizeLine; decide), fun q2 n2 => ⟨q1, q2, _, _, rfl, rfl, get_new upd_same n2, upd_same, (by show 10 + 7 ≤ sizeLine; decide), fun q3 n3 => ?_⟩⟩
    have a3 : AllGood lit17 :=
      allgood_lit (l := ["", " ", "key", "key a", "key a 1", "key a 2", "key b 3", "key a 4", "key a 02", "key A 2", "key abcdefghi 2", "key abcdefgh 2", "rule", "rule a", "rule a = 0", "or a = 0", "key a 2 2"]) (by decide +kernel)
    have r1 := repl1_len z " " "  "
    have u1 := asc_up za
    have w1 := cutS_length z none (some (-1))
    have w4 := cutS_length z (some 4) none
    have w5 := cutS_length z (some 5) none
    have rt := TK.replace_len z "=" "=="
    have rp := TK.replace_len z "!=" "="
    have rq := TK.replace_len z " = " " != "
    have ro := TK.replace_len z "or" "and"
    rw [c6] at rt
    rw [c7] at rp
    rw [c8] at rq
    rw [c9] at ro
    rw [c5] at r1
    refine ⟨.str z, rfl, _, _, rfl, rfl, by omega, .str z, rfl, _, _, rfl, rfl, by omega, .str z, rfl, z, rfl, by rw [c5]; omega, .str z, rfl, ⟨z, rfl⟩, z, rfl, rfl, by omega, .str z, rfl, _, _, rfl, rfl, by omega, ?_⟩
    refine ⟨.str z, rfl, 1, rfl, -1, rfl, z, rfl, by omega, .str z, rfl, _, _, rfl, rfl, by omega, (by show 7 ≤ sizeLine; decide), fun q4 n4 => ?_⟩
    refine ⟨.ref q4, rfl, .str z, rfl, z, rfl, by rw [c6]; omega, .str z, rfl, z, rfl, by rw [c7]; omega, .str z, rfl, z, rfl, by rw [c8]; omega, .str z, rfl, .str z, rfl, 4, rfl, z, rfl, by omega, _, _, rfl, rfl, by omega, (by show 4 ≤ sizeLine; decide), fun q5 n5 => ⟨q4, q5, _, _, rfl, rfl, get_new upd_same n5, upd_same, (by show 7 + 4 ≤ sizeLine; decide), fun q6 n6 => ?_⟩⟩
    have gz : ∀ {u : Str}, u.length ≤ 400 → Asc u → GoodT u := fun a b => ⟨a, b⟩
    have ab : ∀ {u : Str}, goodB u = true → Asc u := fun h => (good_of h).2
    have a6 : AllGood (near11 z) := allgood_cat
      (allgood_cons (z := z ++ " ") (gz (by rw [Str.length_append]; omega) (asc_cat za (ab (by decide +kernel))))
      (allgood_cons (z := " " ++ z) (gz (by rw [Str.length_append]; omega) (asc_cat (ab (by decide +kernel)) za))
      (allgood_cons (z := repl1 z " " "  ") (gz (by omega) (repl1_asc za (ab (by decide +kernel))))
      (allgood_cons (z := Txt.upper z) (gz (by omega) u1.1)
      (allgood_cons (z := z ++ " 0") (gz (by rw [Str.length_append]; omega) (asc_cat za (ab (by decide +kernel))))
      (allgood_cons (z := cutS z none (some (-1))) (gz (by omega) (asc_cut za _ _))
      (allgood_cons (z := z ++ " or") (gz (by rw [Str.length_append]; omega) (asc_cat za (ab (by decide +kernel)))) allgood_nil)))))))
      (allgood_cons (z := Txt.replace z "=" "==") (gz (by omega) (repl_asc za (ab (by decide +kernel))))
      (allgood_cons (z := Txt.replace z "!=" "=") (gz (by omega) (repl_asc za (ab (by decide +kernel))))
      (allgood_cons (z := Txt.replace z " = " " != ") (gz (by omega) (repl_asc za (ab (by decide +kernel))))
      (allgood_cons (z := z ++ cutS z (some 4) none) (gz (by rw [Str.length_append]; omega) (asc_cat za (asc_cut za _ _))) allgood_nil))))
    refine ⟨.ref q6, rfl, _, rfl, fun D nD => ?_⟩
    have nDj : D ≠ j := (JK.new (JK.new (JK.new (JK.new (JK.new (JK.new k0 n1) n2) n3) n4) n5) n6).1.ne nD
    have fD : H D = none := (JK.new (JK.new (JK.new (JK.new (JK.new (JK.new k0 n1) n2) n3) n4) n5) n6).2.free nD nDj
    have e3 : q3 ≠ D := ne_of_none (get_new (get_new (get_new upd_same n4) n5) n6) nD
    have e6 : q6 ≠ D := ne_of_none upd_same nD
    refine lc_it (walk_str (z := "0123")) (fun i H' => ∃ ys : List V, H' D = some (.lst ys) ∧ ys.length = i ∧ AllGood ys ∧ H' q3 = some (.lst lit17) ∧ H' q6 = some (.lst (near11 z)) ∧ JK H H' j (n + 1))
      ⟨[], upd_same, rfl, allgood_nil, get_new (get_new (get_new (get_new upd_same n4) n5) n6) nD, get_new upd_same nD, JK.new (JK.new (JK.new (JK.new (JK.new (JK.new (JK.new k0 n1) n2) n3) n4) n5) n6) nD⟩ (fun _ _ _ _ => trivial) ?_ ?_
    · rintro i x HA HB hi ⟨ys, hD, ly, gy, h3, h6, jkA⟩ ⟨rfl, c, hc, rfl⟩
      have i4 : i < 4 := hi
      have hcl : c < 128 := by
        have m : c ∈ ("0123" : Str).cps.toList := by
          rw [← Array.getElem?_toList] at hc
          exact List.mem_of_getElem? hc
        exact of_decide_eq_true (List.all_eq_true.mp (show ("0123" : Str).cps.toList.all (fun c => decide (c < 128)) = true by decide +kernel) c m)
      have lc1 : (⟨#[c]⟩ : Str).length = 1 := rfl
      refine ⟨rfl, .str z, rfl, 1, rfl, -1, rfl, z, rfl, by omega, _, rfl, _, _, rfl, rfl, by omega, ys, hD, small1000 (by omega), ys ++ [.str (cutS z none (some (-1)) ++ ⟨#[c]⟩)], upd_same, by rw [List.length_append, ly]; rfl, allgood_cat gy (allgood_cons ⟨by rw [Str.length_append]; omega, asc_cat (asc_cut za _ _) fun d hd => ?_⟩ allgood_nil), by rw [upd_ne e3]; exact h3, by rw [upd_ne e6]; exact h6, ⟨jkA.1.upd nDj, jkA.2.upd_new fD⟩⟩
      have : d ∈ [c] := hd
      rw [List.mem_singleton.mp this]
      exact hcl
    rintro H7 ⟨ys, hD, ly, gy, h3, h6, k7⟩
    have ly4 : ys.length = 4 := ly
    have l11 : (near11 z).length = 11 := rfl
    have l17 : lit17.length = 17 := rfl
    refine ⟨q6, D, _, _, rfl, rfl, h6, hD, by omega, fun q7 n7 => ?_⟩
    refine ⟨.str z, rfl, z, rfl, by rw [c9]; omega, (by show 1 ≤ sizeLine; decide), fun q8 n8 => ⟨q7, q8, _, _, rfl, rfl, get_new upd_same n8, upd_same, (by rw [List.length_append, l11]; show 11 + _ + 1 ≤ sizeLine; omega), fun q9 n9 => ?_⟩⟩
    refine ⟨.ref j, rfl, .ref q3, rfl, .ref q9, rfl, q3, q9, _, _, rfl, rfl, get_new (get_new (get_new h3 n7) n8) n9, upd_same, (by rw [List.length_append, List.length_append, l11, l17]; show 17 + (11 + _ + 1) ≤ sizeLine; omega), fun q10 n10 => ?_⟩
    refine ⟨.str z, rfl, _, _, rfl, rfl, by omega, .str z, rfl, 5, rfl, z, rfl, by omega, _, _, rfl, rfl, by rw [Str.length_append]; omega, (by show 1 ≤ sizeLine; decide), fun q11 n11 => ⟨q11, 4, _, rfl, rfl, upd_same, by decide, by decide, (by show 1 * 4 ≤ sizeLine; decide), fun q12 n12 => ?_⟩⟩
    refine ⟨q10, q12, _, _, rfl, rfl, get_new (get_new upd_same n11) n12, upd_same, (by rw [List.length_append, List.length_append, List.length_append, l11, l17]; show 17 + (11 + _ + 1) + 4 ≤ sizeLine; omega), fun q13 n13 => ?_⟩
    refine ⟨j, n + 1, .ref q13, rfl, (JK.new (JK.new (JK.new (JK.new (JK.new (JK.new (JK.new k7 n7) n8) n9) n10) n11) n12) n13).1, by omega, .inl ⟨q13, _, rfl, ?_, SqL.of upd_same, ?_, ?_, fun y H9 hy9 hj9 kp9 => ?_⟩⟩
    · exact (JK.new (JK.new (JK.new (JK.new (JK.new (JK.new k7 n7) n8) n9) n10) n11) n12).1.ne n13
    · rw [List.length_append, List.length_append, l17]
      omega
    · rw [List.length_append, List.length_append, List.length_append, List.length_append, l11, l17]
      show 17 + (11 + _ + 1) + 4 ≤ 1000
      omega
    have kp := (JK.new (JK.new (JK.new (JK.new (JK.new (JK.new (JK.new k7 n7) n8) n9) n10) n11) n12) n13).2.trans kp9
    have g1 : GoodT ((z ++ " or ") ++ cutS z (some 5) none) := gz (by rw [Str.length_append, Str.length_append]; omega) (asc_cat (asc_cat za (ab (by decide +kernel))) (asc_cut za _ _))
    have all9 := allgood_cat (allgood_cat a3 (allgood_cat (allgood_cat a6 gy) (allgood_cons (z := Txt.replace z "or" "and") (gz (by omega) (repl_asc za (ab (by decide +kernel)))) allgood_nil)))
      (allgood_cons g1 (allgood_cons g1 (allgood_cons g1 (allgood_cons g1 allgood_nil))))
    obtain ⟨u, rfl, gu⟩ := all9 y hy9
    exact k u H9 gu hj9 kp
end
end K01

namespace K01
open L2 PySem PySem.Spec PyProof.Rows
abbrev sOther : Stmt := top 60
theorem allgood_strs : ∀ {vs : List V}, AllGood vs → ∃ xs : List Str, vs = xs.map V.str ∧ ∀ x ∈ xs, GoodT x
  | [], _ => ⟨[], rfl, fun _ h => nomatch h⟩
  | v :: vs, h => by
    obtain ⟨z, rfl, g⟩ := h v List.mem_cons_self
    obtain ⟨xs, rfl, k⟩ := allgood_strs (vs := vs) fun u hu => h u (List.mem_cons_of_mem _ hu)
    exact ⟨z :: xs, rfl, fun x hx => by
      (rcases List.mem_cons.mp hx with rfl | hx)
      · exact g
      · exact k x hx⟩
theorem allgood_cut {xs : List V} (h : AllGood xs) (lo hi : Option Int) : AllGood (cutV xs lo hi) := fun v hv => h v (List.mem_of_mem_drop (List.mem_of_mem_take hv))
theorem cutV_len (xs : List V) (lo hi : Option Int) : (cutV xs lo hi).length ≤ xs.length := by
  unfold cutV
  simp only [List.length_take, List.length_drop]
  omega
section
variable {base : Heap} {P : Program} {w : World} {K : PySem.W.Frag} {mg : Str → Option Value}
def spOther : Sp := fun vs H Q _ => ∃ (j p : Addr) (n : Nat) (ls : List Str), vs = [.ref j, .ref p] ∧ Jar H j n ∧ n ≤ 7000 ∧ p ≠ j ∧ H p = some (.lst (ls.map V.str)) ∧ 1 ≤ ls.length ∧ ls.length ≤ 7 ∧ (∀ l ∈ ls, l.length ≤ 60 ∧ Asc l) ∧
  ∀ (q : Addr) (H' : Hp) (xs : List Str), xs.length ≤ 16 → (∀ x ∈ xs, GoodT x) → Jar H' j (n + 6) → Keep j H H' → H' q = some (.lst (xs.map V.str)) → Q (.ref q) H'
abbrev nOther : List Str := ["_law_jar_here", "_law_lines", "_law_at", "_law_way"]
theorem scOther : FnScope nOther ["_law_jar_here", "_law_lines"] (defScope sOther) := ⟨rfl, rfl, rfl, by decide +kernel, rfl, by decide +kernel, by decide +kernel⟩
theorem ok_other {f : Addr} {fd : FuncData} (F : Fun K "_law_otherwise" "_law_otherwise" sOther f fd) (T : Txt0 mg) (G : jarTake P w K mg base) (GL : Has P w K mg base "_law_line" 3 ["_law_jar_here", "_law_lines"] spLine) : FnOk P w K mg base CX0 4 f fd ["_law_jar_here", "_law_lines"] spOther := by
  refine F.ok scOther (fun vs H Q E h => ?_) (fun cdv A outer s H vs Q E hr h => ?_)
  · obtain ⟨j, p, n, ls, rfl, _⟩ := h
    rfl
  · obtain ⟨j, p, n, ls, rfl, hj, hn, npj, hp, l1, l2, hok, k⟩ := h
    have hr1 : Room 1 _ := (hr.mono (by decide))
    refine ⟨_, pss_cons (ps_par (i := 2) (j := 3) rfl scOther.nd rfl rfl (by decide) rfl rfl (pa_cons (pe_has G hr1 (pa_cons (pv 0) (pa_cons (pe_callB call_len_seq (by rfl) T.len PySem.boot_len (pa_cons (pv 1) pa_nil)) pa_nil))) (pa_cons (pe_has G hr1 (pa_cons (pv 0) (pa_cons pe_int pa_nil))) pa_nil)) rfl)
      (pss_cons (ps_if (pt_cmpR op_eq (pv 3) pe_int (nomark _)) (pss_one (ps_ret (pe_op op_cat (pe_slice sl_list (pv 1) po_none (po_some (pv 2))) (pe_slice sl_list (pv 1) (po_some (pe_op op_add (pv 2) pe_int)) po_none)))) pss_nil)
      (pss_cons (ps_if (pt_cmpR op_eq (pv 3) pe_int (nomark _)) (pss_one (ps_ret (pe_op op_cat (pe_op op_cat (pe_slice sl_list (pv 1) po_none (po_some (pv 2))) (pe_lst (pa_cons (pe_ix ix_list (pv 1) (pv 2) (fun _ _ => rfl)) pa_nil))) (pe_slice sl_list (pv 1) (po_some (pv 2)) po_none)))) pss_nil)
      (pss_cons (ps_if (pt_cmpR op_eq (pv 3) pe_int (nomark _)) (pss_one (ps_ret (pe_op op_cat (pe_op op_cat (pe_slice sl_list (pv 1) po_none (po_some (pv 2))) (pe_slice sl_list (pv 1) (po_some (pe_op op_add (pv 2) pe_int)) po_none)) (pe_lst (pa_cons (pe_ix ix_list (pv 1) (pv 2) (fun _ _ => rfl)) pa_nil))))) pss_nil)
      (pss_cons (ps_if (pt_cmpR op_eq (pv 3) pe_int (nomark _)) (pss_one (ps_ret (pe_op op_cat (pe_op op_cat (pe_slice sl_list (pv 1) po_none (po_some (pv 2))) (pe_lst (pa_cons (pe_has GL hr (pa_cons (pv 0) (pa_cons (pv 1) pa_nil))) pa_nil))) (pe_slice sl_list (pv 1) (po_some (pv 2)) po_none)))) pss_nil)
      (pss_one (ps_ret (pe_op op_cat (pe_op op_cat (pe_op op_cat (pe_slice sl_list (pv 1) po_none (po_some (pv 2))) (pe_lst (pa_cons (pe_has GL hr (pa_cons (pv 0) (pa_cons (pv 1) pa_nil))) pa_nil))) (pe_slice sl_list (pv 1) (po_some (pe_op op_add (pv 2) pe_int)) po_none))
        (pe_op op_rep (pe_lst (pa_cons pe_str pa_nil)) (pe_callTy call_int1 (by rfl) T.int (by decide +kernel) (pa_cons (pe_cmpR op_eq (pe_has G hr1 (pa_cons (pv 0) (pa_cons pe_int pa_nil))) pe_int (nomark _)) pa_nil)))))))))), ?_⟩
    have ag : AllGood (ls.map V.str) := fun v hv => by
      obtain ⟨z, hz, rfl⟩ := List.mem_map.mp hv
      exact ⟨z, rfl, Nat.le_trans (hok z hz).1 (by decide), (hok z hz).2⟩
    refine ⟨.ref j, rfl, .ref p, rfl, _, _, rfl, .inl (SqL.of hp), ?_⟩
    refine ⟨j, _, n, rfl, hj, by omega, by rw [List.length_map]; omega, by rw [List.length_map]; omega, fun d H1 d0 d1 hj1 kp1 => ?_⟩
    refine ⟨.ref j, rfl, j, 6, n + 1, rfl, hj1, by omega, by decide, by decide, fun e H2 e0 e1 hj2 kp2 => ?_⟩
    have k2 : JK H H2 j (n + 2) := ⟨hj2, kp1.trans kp2⟩
    have hp2 : H2 p = some (.lst (ls.map V.str)) := k2.2 _ _ npj hp
    rw [List.length_map] at d1
    have l4 : (ls.map V.str).length ≤ 7 := by
      rw [List.length_map]
      exact l2
    obtain ⟨x0, hx0, mx0⟩ := atI_in (xs := ls.map V.str) d0 (by rw [List.length_map]; exact d1)
    have ag0 : AllGood [x0] := fun v hv => by
      rw [List.mem_singleton.mp hv]
      exact ag x0 mx0
    have sl : (sizeLine : Nat) = 16777216 := sizeLine_eq
    have cl := cutV_len (ls.map V.str)
    have fin : ∀ (q : Addr) (H3 : Hp) (vs : List V) (m : Nat), m ≤ n + 6 → vs.length ≤ 16 → AllGood vs → JK H H3 j m → H3 q = some (.lst vs) → Q (.ref q) H3 := fun q H3 vs m hm hl hv hk hq => by
      obtain ⟨xs, rfl, gx⟩ := allgood_strs hv
      exact k q H3 xs (by rw [List.length_map] at hl; exact hl) gx (hk.1.mono hm) hk.2 hq
    refine ⟨_, _, rfl, ?_⟩
    refine ⟨.int e, rfl, rfl, _, rfl, ?_⟩
    (refine ite2 (fun _ => ?_) (fun _ => ?_))
    · refine ⟨.ref p, rfl, .int d, rfl, d, rfl, p, _, rfl, SqL.of hp2, fun q1 n1 => ?_⟩
      refine ⟨.ref p, rfl, .int d, rfl, _, _, rfl, rfl, _, rfl, p, _, rfl, SqL.of (get_new hp2 n1), fun q2 n2 => ?_⟩
      refine ⟨q1, q2, _, _, rfl, rfl, get_new upd_same n2, upd_same, ?_, fun q3 n3 => ?_⟩
      · have a := cl none (some d)
        have b := cl (some (d + 1)) none
        omega
      · refine fin q3 _ _ (n + 2) (by omega) ?_ (allgood_cat (allgood_cut ag _ _) (allgood_cut ag _ _)) (JK.new (JK.new (JK.new k2 n1) n2) n3) upd_same
        have a := cl none (some d)
        have b := cl (some (d + 1)) none
        rw [List.length_append]
        omega
    refine ⟨.int e, rfl, rfl, _, rfl, ?_⟩
    (refine ite2 (fun _ => ?_) (fun _ => ?_))
    · have a := cl none (some d)
      have b := cl (some d) none
      refine ⟨.ref p, rfl, .int d, rfl, d, rfl, p, _, rfl, SqL.of hp2, fun q1 n1 => ?_⟩
      have hp3 := fun o : HO => get_new (u := HO.lst (ls.map V.str)) (o := o) hp2 n1
      refine ⟨.ref p, rfl, .int d, rfl, p, _, _, x0, rfl, rfl, SqL.of (hp3 _), hx0, (by show 1 ≤ sizeLine; decide), fun q2 n2 => ?_⟩
      refine ⟨q1, q2, _, _, rfl, rfl, get_new upd_same n2, upd_same, (by show _ + 1 ≤ sizeLine; omega), fun q3 n3 => ?_⟩
      refine ⟨.ref p, rfl, .int d, rfl, d, rfl, p, _, rfl, SqL.of (get_new (get_new (hp3 _) n2) n3), fun q4 n4 => ?_⟩
      refine ⟨q3, q4, _, _, rfl, rfl, get_new upd_same n4, upd_same, ?_, fun q5 n5 => ?_⟩
      · rw [List.length_append]
        show _ + 1 + _ ≤ sizeLine
        omega
      · refine fin q5 _ _ (n + 2) (by omega) ?_ (allgood_cat (allgood_cat (allgood_cut ag _ _) ag0) (allgood_cut ag _ _)) (JK.new (JK.new (JK.new (JK.new (JK.new k2 n1) n2) n3) n4) n5) upd_same
        rw [List.length_append, List.length_append]
        show _ + 1 + _ ≤ 16
        omega
    refine ⟨.int e, rfl, rfl, _, rfl, ?_⟩
    (refine ite2 (fun _ => ?_) (fun _ => ?_))
    · have a := cl none (some d)
      have b := cl (some (d + 1)) none
      refine ⟨.ref p, rfl, .int d, rfl, d, rfl, p, _, rfl, SqL.of hp2, fun q1 n1 => ?_⟩
      have hp3 := fun o : HO => get_new (u := HO.lst (ls.map V.str)) (o := o) hp2 n1
      refine ⟨.ref p, rfl, .int d, rfl, _, _, rfl, rfl, _, rfl, p, _, rfl, SqL.of (hp3 _), fun q2 n2 => ?_⟩
      refine ⟨q1, q2, _, _, rfl, rfl, get_new upd_same n2, upd_same, by omega, fun q3 n3 => ?_⟩
      refine ⟨.ref p, rfl, .int d, rfl, p, _, _, x0, rfl, rfl, SqL.of (get_new (get_new (hp3 _) n2) n3), hx0, (by show 1 ≤ sizeLine; decide), fun q4 n4 => ?_⟩
      refine ⟨q3, q4, _, _, rfl, rfl, get_new upd_same n4, upd_same, ?_, fun q5 n5 => ?_⟩
      · rw [List.length_append]
        show _ + _ + 1 ≤ sizeLine
        omega
      · refine fin q5 _ _ (n + 2) (by omega) ?_ (allgood_cat (allgood_cat (allgood_cut ag _ _) (allgood_cut ag _ _)) ag0) (JK.new (JK.new (JK.new (JK.new (JK.new k2 n1) n2) n3) n4) n5) upd_same
        rw [List.length_append, List.length_append]
        show _ + _ + 1 ≤ 16
        omega
    refine ⟨.int e, rfl, rfl, _, rfl, ?_⟩
    (refine ite2 (fun _ => ?_) (fun _ => ?_))
    · have a := cl none (some d)
      have b := cl (some d) none
      refine ⟨.ref p, rfl, .int d, rfl, d, rfl, p, _, rfl, SqL.of hp2, fun q1 n1 => ?_⟩
      have nq1 := k2.1.ne n1
      refine ⟨.ref j, rfl, .ref p, rfl, j, p, n + 2, ls, rfl, (JK.new k2 n1).1, by omega, npj, get_new hp2 n1, l1, by omega, hok, fun z H3 gz hj3 kp3 => ?_⟩
      have k3 : JK H H3 j (n + 4) := ⟨hj3, (JK.new k2 n1).2.trans kp3⟩
      have hp3 : H3 p = some (.lst (ls.map V.str)) := kp3 _ _ npj (get_new hp2 n1)
      have hq1 : H3 q1 = some _ := kp3 _ _ nq1 upd_same
      refine ⟨(by show 1 ≤ sizeLine; decide), fun q2 n2 => ?_⟩
      refine ⟨q1, q2, _, _, rfl, rfl, get_new hq1 n2, upd_same, (by show _ + 1 ≤ sizeLine; omega), fun q3 n3 => ?_⟩
      refine ⟨.ref p, rfl, .int d, rfl, d, rfl, p, _, rfl, SqL.of (get_new (get_new hp3 n2) n3), fun q4 n4 => ?_⟩
      refine ⟨q3, q4, _, _, rfl, rfl, get_new upd_same n4, upd_same, ?_, fun q5 n5 => ?_⟩
      · rw [List.length_append]
        show _ + 1 + _ ≤ sizeLine
        omega
      · refine fin q5 _ _ (n + 4) (by omega) ?_ (allgood_cat (allgood_cat (allgood_cut ag _ _) (allgood_cons gz allgood_nil)) (allgood_cut ag _ _)) (JK.new (JK.new (JK.new (JK.new k3 n2) n3) n4) n5) upd_same
        rw [List.length_append, List.length_append]
        show _ + 1 + _ ≤ 16
        omega
    · have a := cl none (some d)
      have b := cl (some (d + 1)) none
      refine ⟨.ref p, rfl, .int d, rfl, d, rfl, p, _, rfl, SqL.of hp2, fun q1 n1 => ?_⟩
      have nq1 := k2.1.ne n1
      refine ⟨.ref j, rfl, .ref p, rfl, j, p, n + 2, ls, rfl, (JK.new k2 n1).1, by omega, npj, get_new hp2 n1, l1, by omega, hok, fun z H3 gz hj3 kp3 => ?_⟩
      have k3 : JK H H3 j (n + 4) := ⟨hj3, (JK.new k2 n1).2.trans kp3⟩
      have hp3 : H3 p = some (.lst (ls.map V.str)) := kp3 _ _ npj (get_new hp2 n1)
      have hq1 : H3 q1 = some _ := kp3 _ _ nq1 upd_same
      refine ⟨(by show 1 ≤ sizeLine; decide), fun q2 n2 => ?_⟩
      refine ⟨q1, q2, _, _, rfl, rfl, get_new hq1 n2, upd_same, (by show _ + 1 ≤ sizeLine; omega), fun q3 n3 => ?_⟩
      refine ⟨.ref p, rfl, .int d, rfl, _, _, rfl, rfl, _, rfl, p, _, rfl, SqL.of (get_new (get_new hp3 n2) n3), fun q4 n4 => ?_⟩
      refine ⟨q3, q4, _, _, rfl, rfl, get_new upd_same n4, upd_same, ?_, fun q5 n5 => ?_⟩
      · rw [List.length_append]
        show _ + 1 + _ ≤ sizeLine
        omega
      refine ⟨(by show 1 ≤ sizeLine; decide), fun q6 n6 => ?_⟩
      have j5 := (JK.new (JK.new (JK.new k3 n2) n3) n4).1.ne n5
      have j6 := (JK.new (JK.new (JK.new (JK.new k3 n2) n3) n4) n5).1.ne n6
      refine ⟨.ref j, rfl, j, 9, n + 4, rfl, (JK.new (JK.new (JK.new (JK.new (JK.new k3 n2) n3) n4) n5) n6).1, by omega, by decide, by decide, fun t H7 t0 t1 hj7 kp7 => ?_⟩
      have k7 := (JK.new (JK.new (JK.new (JK.new (JK.new k3 n2) n3) n4) n5) n6).2.trans kp7
      have rl : ∀ c : Bool, (List.replicate (Int.toNat (if c = true then 1 else 0)) ([.str ""] : List V)).flatten.length ≤ 1 ∧ AllGood (List.replicate (Int.toNat (if c = true then 1 else 0)) ([.str ""] : List V)).flatten := fun c => by
        cases c
        · exact ⟨by decide, allgood_nil⟩
        · exact ⟨by decide, allgood_lit (l := [""]) (by decide +kernel)⟩
      refine ⟨rfl, .inr ⟨_, rfl, q6, _, _, rfl, rfl, kp7 _ _ j6 upd_same, ?_, ?_, ?_, fun q7 n7 => ?_⟩⟩
      · split <;> decide
      · split <;> decide
      · show 1 * _ ≤ sizeLine
        split
        · rw [sl]
          decide
        · rw [sl]
          decide
      refine ⟨q5, q7, _, _, rfl, rfl, get_new (kp7 _ _ j5 (get_new upd_same n6)) n7, upd_same, ?_, fun q8 n8 => ?_⟩
      · have c1 := (rl (decide (V.int t = V.int 0))).1
        rw [List.length_append, List.length_append]
        show _ + 1 + _ + _ ≤ sizeLine
        omega
      · refine fin q8 _ _ (n + 5) (by omega) ?_ (allgood_cat (allgood_cat (allgood_cat (allgood_cut ag _ _) (allgood_cons gz allgood_nil)) (allgood_cut ag _ _)) (rl (decide (V.int t = V.int 0))).2) (JK.new (JK.new ⟨hj7, k7⟩ n7) n8) upd_same
        have c1 := (rl (decide (V.int t = V.int 0))).1
        rw [List.length_append, List.length_append, List.length_append]
        show _ + 1 + _ + _ ≤ 16
        omega
end
end K01

namespace K01
open PySem L2
abbrev sHeard : Stmt := top 61
theorem tyx_same {K : PySem.W.Frag} {H H' : Hp} {x : V} {t : Value} (s : Same H H') (h : TyX K H x t) : TyX K H' x t := by
  cases h with
  | base b =>
    cases b with
    | non => exact .base .non
    | bl x => exact .base (.bl x)
    | int i => exact .base (.int i)
    | str x => exact .base (.str x)
    | flt x => exact .base (.flt x)
    | lst e => exact .base (.lst (s _ _ e))
    | frz e => exact .base (.frz (s _ _ e))
    | tup e => exact .base (.tup (s _ _ e))
    | dK e => exact .base (.dK (s _ _ e))
    | dT e => exact .base (.dT (s _ _ e))
    | ins e cl ha hn ht hm => exact .base (.ins (s _ _ e) cl ha hn ht hm)
  | byt b => exact .byt b
  | set e => exact .set (s _ _ e)
  | kList e c => exact .kList e c
  | kTuple e c => exact .kTuple e c
  | kDict e c => exact .kDict e c
  | fTuple e => exact .fTuple (s _ _ e)
  | fDict e => exact .fDict (s _ _ e)
theorem notStr_same {K : PySem.W.Frag} {H H' : Hp} {x : V} (s : Same H H') (h : NotStr K H x) : NotStr K H' x := by
  obtain ⟨t, a, b⟩ := h
  exact ⟨t, tyx_same s a, b⟩
/-- the class Sheet and its __init__, as makers know it -/
structure SheetC (P : Program) (w : World) (K : PySem.W.Frag) (mg : Str → Option Value) (base : Heap) (C CB CR : Addr) : Prop extends SheetT K mg C where
  init : ∃ (fI : Addr) (fd : FuncData), Mk K C fI ∧ FnOk P w K mg base (L2.CX P w) 5 fI fd ["self", "text"] (spSI K C CB CR) ∧ Binds K fd ["self", "text"] []
/-- what the clause of SettledError knows -/
structure Caught (K : PySem.W.Frag) (mg : Str → Option Value) (CS CB : Addr) : Prop where
  gS : mg "SettledError" = some (.ref CS)
  te : PySem.W.exmOne K (.ref CB) (.ref CS) = some true
  ec : ExcC K CB
  xf : XfC K CB
  k1 : PySem.W.kitOne K (.ref CB) (.ref CB) = some true
  k2 : PySem.W.kitOne K (.ref CB) (.type "ValueError") = some true
  ve : mg "ValueError" = none
theorem look_fV (v : V) : (fV v).lookup ("value" : Str) = some v := by
  simp [fV, List.lookup]
def heardV (o : Option Nat) : List V := match o with
  | some n => [.str "text", .int (n : Int)]
  | none => [.str "told", .non]
section
variable {base : Heap} {P : Program} {w : World} {K : PySem.W.Frag} {mg : Str → Option Value}
def spHeard (K : PySem.W.Frag) : Sp := fun vs H Q _ => ∃ x : V, vs = [x] ∧
  ((NotStr K H x ∧ ∀ H' p, Same H H' → H p = none → H' p = some (.tup [.str "text", .int (-1)]) → Q (.ref p) H') ∨
   (∃ z : Str, x = .str z ∧ z.length ≤ 100000 ∧ ∀ H' p, Same H H' → H p = none → H' p = some (.tup (heardV (wrongN z))) → Q (.ref p) H'))
abbrev nHeard : List Str := ["_law_thing", "_law_caught", "error", "_law_is_alone"]
theorem scHeard : FnScope nHeard ["_law_thing"] (defScope sHeard) := ⟨rfl, rfl, rfl, by decide +kernel, rfl, by decide +kernel, by decide +kernel⟩
theorem ok_heard {f C CB CR CS : Addr} {fd : FuncData} (F : Fun K "_law_heard" "_law_heard" sHeard f fd) (T : SheetC P w K mg base C CB CR) (B : Err P w K mg base CB) (Z : Caught K mg CS CB) : FnOk P w K mg base CX0 7 f fd ["_law_thing"] (spHeard K) := by
  refine F.ok scHeard (fun vs H Q E h => ?_) (fun cdv A outer s H vs Q E hr h => ?_)
  · obtain ⟨x, rfl, _⟩ := h
    rfl
  · obtain ⟨x, rfl, h⟩ := h
    obtain ⟨fI, fdI, M, FI, bI⟩ := T.init
    refine ⟨_, pss_cons (ps_set (i := 1) scHeard.nd rfl (.inl rfl) pe_non)
      (pss_cons (ps_try_keep (i := 2) (tb := fun W => tDrop (tMakeS C (spSI K C CB CR) (WE W) (tCons (tVar 0) tNil))) (ts := fun _ _ _ => tAsg (tVar 2) (gName 1)) (Wout := fun _ _ _ _ => False) rfl rfl rfl scHeard.nd rfl rfl ⟨rfl, by decide, .inl Z.gS⟩ takes0
          (fun W pn xe tk _ => pss_one (ps_expr (pe_makeS M FI hr rfl T.gS bI (fun σ => passAt tk σ) (pa_cons (pv 0) pa_nil))))
          (fun a oe cls d pn hz hf => pss_one (ps_set (i := 1) scHeard.nd rfl (.inl rfl) (pv 2))))
      (pss_cons (ps_if (pt_cmpR op_isN (pv 1) pe_non (nomark _)) (pss_one (ps_ret (pe_tup (pa_cons pe_str (pa_cons pe_non pa_nil))))) pss_nil)
      (pss_cons (ps_set (i := 3) scHeard.nd rfl (.inl rfl) (pe_and (pe_callB (call_isV Z.ec) (by rfl) T.isinst (by decide +kernel) (pa_cons (pv 1) (pa_cons (pe_glob (v := .ref CB) (by rfl) B.gB rfl) pa_nil)))
          (pe_one (pe_callB (call_isV Z.ec) (by rfl) T.isinst (by decide +kernel) (pa_cons (pv 1) (pa_cons (pe_bltn (v := .ty "ValueError") (by rfl) Z.ve PyProof.Rows.Boot.«ValueError» rfl) pa_nil))))))
      (pss_one (ps_ret (pe_ifExp (pt_val (pv 3)) (pe_tup (pa_cons pe_str (pa_cons (pe_exv Z.xf B.nv (pv 1)) pa_nil))) (pe_tup (pa_cons pe_str (pa_cons pe_non pa_nil))))))))), ?_⟩
    rcases h with ⟨ns, k⟩ | ⟨z, rfl, hz, k⟩
    · refine ⟨_, rfl, fun xp dx nx ndx nex => ?_⟩
      have s0 : Same H (upd (upd H dx (.own xp)) xp (.ins C dx [])) := (same_upd ndx).trans (same_upd (by rw [upd_ne nex.symm]; exact nx))
      refine ⟨xp, dx, x, rfl, upd_same, .inl ⟨notStr_same s0 ns, fun d H1 s1 hd e1 => ⟨true, Z.te, fun _ a na => ?_, fun q => Bool.noConfusion q⟩⟩⟩
      have s2 := same_upd (o := ExV (.ref CB) (some d) a) na
      have ed : (upd H1 a (ExV (.ref CB) (some d) a)) d = some (.xd (fV (.int (-1)))) := s2 _ _ e1
      refine ⟨.ref a, rfl, ?_⟩
      (refine ⟨_, rfl, rfl, _, rfl, ?_⟩)
      refine ite2 (fun q => by cases of_decide_eq_true q) (fun _ => ?_)
      refine ⟨_, rfl, a, d, fV (.int (-1)), .ref CB, .ref CB, true, rfl, upd_same, ed, fun u r => r, Z.k1, _, rfl, _, rfl, a, d, fV (.int (-1)), .ty "ValueError", .type "ValueError", true, rfl, upd_same, ed, fun u r => r, Z.k2, ?_⟩
      refine ⟨_, rfl, _, rfl, ?_⟩
      refine ⟨_, rfl, a, d, fV (.int (-1)), .int (-1), rfl, upd_same, ed, look_fV _, (by show 2 ≤ sizeLine; decide), fun p hp => ?_⟩
      have s02 := (s0.trans s1).trans s2
      exact k _ p (s02.trans (same_upd hp)) (s02.free hp) upd_same
    · refine ⟨_, rfl, fun xp dx nx ndx nex => ?_⟩
      have s0 : Same H (upd (upd H dx (.own xp)) xp (.ins C dx [])) := (same_upd ndx).trans (same_upd (by rw [upd_ne nex.symm]; exact nx))
      refine ⟨xp, dx, .str z, rfl, upd_same, .inr ⟨z, rfl, hz, fun n e => fun d H1 s1 hd e1 => ⟨true, Z.te, fun _ a na => ?_, fun q => Bool.noConfusion q⟩, fun ks rows eds e H1 n' s' e' r' k1 _ _ _ _ _ => ⟨rfl, ?_⟩⟩⟩
      · have ew : wrongN z = some n := by
          rw [wrong_read, e]
          rfl
        rw [ew] at k
        have s2 := same_upd (o := ExV (.ref CB) (some d) a) na
        have ed : (upd H1 a (ExV (.ref CB) (some d) a)) d = some (.xd (fV (.int (n : Int)))) := s2 _ _ e1
        refine ⟨.ref a, rfl, ?_⟩
        (refine ⟨_, rfl, rfl, _, rfl, ?_⟩)
        refine ite2 (fun q => by cases of_decide_eq_true q) (fun _ => ?_)
        refine ⟨_, rfl, a, d, fV (.int (n : Int)), .ref CB, .ref CB, true, rfl, upd_same, ed, fun u r => r, Z.k1, _, rfl, _, rfl, a, d, fV (.int (n : Int)), .ty "ValueError", .type "ValueError", true, rfl, upd_same, ed, fun u r => r, Z.k2, ?_⟩
        refine ⟨_, rfl, _, rfl, ?_⟩
        refine ⟨_, rfl, a, d, fV (.int (n : Int)), .int (n : Int), rfl, upd_same, ed, look_fV _, (by show 2 ≤ sizeLine; decide), fun p hp => ?_⟩
        have s02 := (s0.trans s1).trans s2
        exact k _ p (s02.trans (same_upd hp)) (s02.free hp) upd_same
      · have ew : wrongN z = none := by
          rw [wrong_read, e]
          rfl
        rw [ew] at k
        have s1 : Same H H1 := fun b o q => k1 b o (ne_of_none q nx) (s0 _ _ q)
        (refine ⟨_, rfl, rfl, _, rfl, ?_⟩)
        refine ite2 (fun _ => ?_) (fun q => absurd (decide_eq_true rfl) q)
        exact ⟨(by show 2 ≤ sizeLine; decide), fun p hp => k _ p (s1.trans (same_upd hp)) (s1.free hp) upd_same⟩
end
end K01

namespace K01
open PySem L2
/-! ### data that is shown, or compared -/
def Rp (d : PyData) : Prop := d.showable = true ∧ d.hasDict = false ∧ d.depth ≤ 50 ∧ d.shown.length ≤ sizeLine
theorem rp_of {d : PyData} (h1 : d.canLay0 = true) (h2 : d.depth ≤ 50) (h3 : d.weight ≤ 2 ^ 20) (h4 : d.intsShort 13 = true) (h5 : d.showable = true) : Rp d := by
  have lay : d.layable0 = true := by
    unfold PyData.layable0
    rw [h1, decide_eq_true (show d.depth ≤ 64 by omega), decide_eq_true h3]
    rfl
  have s := PyProof.Rows.shown_le13 lay h4
  have e : (sizeLine : Nat) = 16777216 := by decide
  exact ⟨h5, PyData.hasDict_of_canLay d h1, h2, by omega⟩
def heardD (o : Option Nat) : PyData := match o with
  | some n => .tuple [.str "text", .int (n : Int)]
  | none => .tuple [.str "told", .none]
theorem rp_heard {o : Option Nat} (h : ∀ n, o = some n → n ≤ 20) : Rp (heardD o) := by
  cases o with
  | none => exact rp_of (by decide +kernel) (by decide +kernel) (by decide +kernel) (by decide +kernel) (by decide +kernel)
  | some n =>
    have hn := h n rfl
    have all : ∀ k : Nat, k < 21 → ((heardD (some k)).canLay0 && decide ((heardD (some k)).depth ≤ 50) && decide ((heardD (some k)).weight ≤ 2 ^ 20) && (heardD (some k)).intsShort 13 && (heardD (some k)).showable) = true := by decide +kernel
    have q := all n (by omega)
    (simp only [Bool.and_eq_true, decide_eq_true_eq] at q)
    exact rp_of q.1.1.1.1 q.1.1.1.2 q.1.1.2 q.1.2 q.2
theorem rulesOf_le {ks : List Key} : ∀ {ls : List Str} {k : Nat} {acc : List RuleL} {e0 : List (List Nat)} {n : Nat}, acc.length ≤ 4 → rulesOf ks k acc e0 ls = .inl n → n + acc.length ≤ k + 4
  | [], k, acc, e0, n, _, h => nomatch h
  | l :: r, k, acc, e0, n, h4, h => by
    have h' : (if acc.length = 4 ∨ litsIn ks l = [] ∨ keepR (litsIn ks l) e0 = [] then Sum.inl k else rulesOf ks (k + 1) (acc ++ [(l, litsIn ks l)]) (keepR (litsIn ks l) e0) r) = .inl n := h
    by_cases c : acc.length = 4 ∨ litsIn ks l = [] ∨ keepR (litsIn ks l) e0 = []
    · rw [if_pos c] at h'
      cases h'
      omega
    · rw [if_neg c] at h'
      have n4 : acc.length ≠ 4 := fun z => c (.inl z)
      have := rulesOf_le (ls := r) (acc := acc ++ [(l, litsIn ks l)]) (by rw [List.length_append]; show acc.length + 1 ≤ 4; omega) h'
      rw [List.length_append] at this
      simp only [List.length_cons, List.length_nil] at this
      omega
theorem wrongN_le {z : Str} {n : Nat} (h : wrongN z = some n) : n ≤ 7 := by
  rw [wrong_read] at h
  unfold readS at h
  have kl : (keysOf [] ((linesOf z).take 3)).length ≤ 3 := by
    have := keysOf_len (ls := (linesOf z).take 3) (acc := [])
    rw [List.length_take] at this
    simp only [List.length_nil] at this
    omega
  cases e : rulesOf (keysOf [] ((linesOf z).take 3)) (keysOf [] ((linesOf z).take 3)).length [] (worthsOf ((keysOf [] ((linesOf z).take 3)).map (·.2))) ((linesOf z).drop (keysOf [] ((linesOf z).take 3)).length) with
  | inl m =>
    rw [e] at h
    cases h
    have := rulesOf_le (acc := []) (by decide) e
    simp only [List.length_nil] at this
    omega
  | inr q =>
    obtain ⟨rows, eds⟩ := q
    rw [e] at h
    cases h
/-- (text, (names ..), (sizes ..)) -/
def toldD (z : Str) (ws : List Str) (r : List Nat) : PyData := .tuple [.str z, .tuple (ws.map PyData.str), .tuple (r.map fun (n : Nat) => PyData.int (n : Int))]
theorem told_lay {z : Str} {ws : List Str} {r : List Nat} (hz : Asc z) (hw : ∀ x ∈ ws, Asc x) : (toldD z ws r).canLay0 = true := by
  have d := texts_lay hw
  obtain ⟨a, b⟩ := ints_lay r
  have ez := asc_ok hz
  unfold toldD
  simp only [PyData.canLay0, PyData.canLayAll0, d, a, Bool.and_true] at ez ⊢
  exact ez
theorem told_shaped {z : Str} {ws : List Str} {r : List Nat} (hz : Asc z) (hw : ∀ x ∈ ws, Asc x) : SeqAt.shaped (toldD z ws r) = true := by
  have e := texts_depth ws
  obtain ⟨a, b⟩ := ints_lay r
  unfold SeqAt.shaped
  have h2 : (toldD z ws r).depth ≤ 64 := by
    unfold toldD
    simp only [PyData.depth, PyData.depthAll, e, b]
    decide
  rw [told_lay hz hw, decide_eq_true h2]
  rfl
theorem told_eqv {z : Str} {ws : List Str} {r : List Nat} (hz : Asc z) (hw : ∀ x ∈ ws, Asc x) : PyData.eqv (toldD z ws r) (toldD z ws r) = true := SeqAt.eqv_refl _ (told_lay hz hw)
theorem texts_eqv {l : List Str} (h : ∀ z ∈ l, Asc z) : PyData.eqv (.list (l.map PyData.str)) (.list (l.map PyData.str)) = true := by
  refine SeqAt.eqv_refl _ ?_
  simpa [PyData.canLay0] using texts_lay h
/-! ### what stands while a drawn sheet is looked at -/
structure WW (H H' : Hp) (j L m C dm : Addr) (fs : List (Str × V)) (n : Nat) (ks : List Key) (rules : List (List Lit)) : Prop where
  jar : Jar H' j n
  keep : Keep j H H'
  hm : H' m = some (.ins C dm fs)
  hL : H' L = some (.lst ((drawnL ks rules).map V.str))
  nL : L ≠ j
section
variable {H H' H'' : Hp} {j L m C dm p : Addr} {fs : List (Str × V)} {n n' : Nat} {ks : List Key} {rules : List (List Lit)}
theorem WW.same (h : WW H H' j L m C dm fs n ks rules) (s : Same H' H'') : WW H H'' j L m C dm fs n ks rules :=
  ⟨h.jar.same s, h.keep.trans (K01.Same.keep s), s _ _ h.hm, s _ _ h.hL, h.nL⟩
theorem WW.new {o : HO} (h : WW H H' j L m C dm fs n ks rules) (hn : H' p = none) : WW H (upd H' p o) j L m C dm fs n ks rules := h.same (same_upd hn)
theorem WW.move (h : WW H H' j L m C dm fs n ks rules) (k : Keep j H' H'') (hj : Jar H'' j n') : WW H H'' j L m C dm fs n' ks rules :=
  ⟨hj, h.keep.trans k, k _ _ (not_jar h.jar h.hm fun _ q => nomatch q) h.hm, k _ _ h.nL h.hL, h.nL⟩
end
theorem mk_same {H H1 : Hp} {xp dx C : Addr} (nx : H xp = none) (ndx : H dx = none) (nex : dx ≠ xp) (k : Keep xp (upd (upd H dx (.own xp)) xp (.ins C dx [])) H1) : Same H H1 := fun b o q =>
  k b o (ne_of_none q nx) ((same_upd ndx).trans (same_upd (by rw [upd_ne nex.symm]; exact nx)) _ _ q)
theorem inr_ne {z : Str} {q : List Key × List RuleL × List (List Nat)} {n : Nat} {p : Prop} (h : readS z = .inr q) (e : readS z = .inl n) : p := by
  rw [h] at e
  cases e
/-- what the comparisons of sheets know of the classes -/
structure OddK (P : Program) (w : World) (K : PySem.W.Frag) (mg : Str → Option Value) (base : Heap) (C CR : Addr) : Prop where
  cs : PySem.W.kitOne K (.ref C) (.type "str") = some false
  sC : PySem.W.kitOne K (.type "str") (.ref C) = some false
  tC : PySem.W.kitOne K (.type "tuple") (.ref C) = some false
  nC : PySem.W.kitOne K (.type "NoneType") (.ref C) = some false
  cC : PySem.W.kitOne K (.ref C) (.ref C) = some true
  fs : PySem.W.notFirst K C (.type "str") = true
  ft : PySem.W.notFirst K C (.type "tuple") = true
  fn : PySem.W.notFirst K C (.type "NoneType") = true
  fC : PySem.W.notFirst K C (.ref C) = true
  ti : ∀ {H : Hp} {a dx : Addr} {fs : List (Str × V)}, H a = some (.ins C dx fs) → TyX K H (.ref a) (.ref C)
  eq : ∃ (g : Addr) (fd : FuncData), PySem.W.findIn K (.ref C) "__eq__" = some (some (.ref g)) ∧ PySem.W.isFn K (.ref g) = true ∧ FnOk P w K mg base CX0 1 g fd ["self", "other"] (spSEq K C) ∧ Binds K fd ["self", "other"] []
  p1 : HasP P w K mg base C "text" "_text"
  p2 : HasP P w K mg base C "names" "_names"
  p3 : HasP P w K mg base C "sizes" "_sizes"
  p4 : HasP P w K mg base C "rules" "_rules"
  pr : HasP P w K mg base CR "text" "_text"
  cr : Cls K CR
def oddL (q1 q2 q3 q4 q5 q6 q7 L : Addr) : List V := [.non, .bl true, .int 0, .int (-1), .ref q1, .ref q2, .ref q3, .ref q4, .ref q5, .ref q6, .ref q7, .ref L]
theorem odd_ns {K : PySem.W.Frag} {H : Hp} {q1 q2 q3 q4 q5 q6 q7 L : Addr} {x4 x5 x7 x8 : List V} {k3 k6 : List (L2.Key × V)} (e1 : H q1 = some (.tup [])) (e2 : H q2 = some (.lst [])) (e3 : H q3 = some (.dK k3)) (e4 : H q4 = some (.tup x4))
    (e5 : H q5 = some (.lst x5)) (e6 : H q6 = some (.dK k6)) (e7 : H q7 = some (.tup x7)) (e8 : H L = some (.lst x8)) : ∀ x ∈ oddL q1 q2 q3 q4 q5 q6 q7 L, NotStr K H x := fun x hx => by
  have kt : ∀ T : String, kitB T "str" = some false → PySem.W.kitOne K (.type T) (.type "str") = some false := fun T h => kit_ty h
  unfold oddL at hx
  (simp only [List.mem_cons, List.not_mem_nil, or_false] at hx)
  rcases hx with rfl | rfl | rfl | rfl | rfl | rfl | rfl | rfl | rfl | rfl | rfl | rfl
  · exact ⟨.type "NoneType", .base .non, kt _ (by decide +kernel)⟩
  · exact ⟨.type "bool", .base (.bl true), kt _ (by decide +kernel)⟩
  · exact ⟨.type "int", .base (.int 0), kt _ (by decide +kernel)⟩
  · exact ⟨.type "int", .base (.int (-1)), kt _ (by decide +kernel)⟩
  · exact ⟨.type "tuple", .base (.tup e1), kt _ (by decide +kernel)⟩
  · exact ⟨.type "list", .base (.lst e2), kt _ (by decide +kernel)⟩
  · exact ⟨.type "dict", .base (.dK e3), kt _ (by decide +kernel)⟩
  · exact ⟨.type "tuple", .base (.tup e4), kt _ (by decide +kernel)⟩
  · exact ⟨.type "list", .base (.lst e5), kt _ (by decide +kernel)⟩
  · exact ⟨.type "dict", .base (.dK e6), kt _ (by decide +kernel)⟩
  · exact ⟨.type "tuple", .base (.tup e7), kt _ (by decide +kernel)⟩
  · exact ⟨.type "list", .base (.lst e8), kt _ (by decide +kernel)⟩
theorem odd_all {K : PySem.W.Frag} {σ : L2.St} {H : Hp} {Q : VK} {te : TE} {q : Addr} {xs : List V} (h8 : σ[9]? = some (some (.ref q))) (hq : H q = some (.lst xs)) (ns : ∀ x ∈ xs, NotStr K H x) (hl : xs.length ≤ 100) (hw : ∀ x : V, wipe ((wipe σ [12]).set 12 (some x)) [12] = wipe σ [12])
    (he : ∀ (x : V) (H1 : Hp) (R : VK), NotStr K H1 x → (∀ H2, Same H1 H2 → R (.bl true) H2) → te ((wipe σ [12]).set 12 (some x)) H1 R)
    (k : ∀ D H', Same H H' → H' D = some (.lst (List.replicate xs.length (V.bl true))) → Q (.ref D) H') : tLc (iList K (tVar 9)) (gName 12) tYes te [12] σ H Q := by
  refine ⟨_, h8, q, rfl, ⟨xs, SqL.of hq⟩, fun D nD => ?_⟩
  refine lc_list (xs := xs) (fun i H' => Same H H' ∧ H' D = some (.lst (List.replicate i (V.bl true))) ∧ i ≤ 100) ⟨same_upd nD, upd_same, by decide⟩ (fun i H' _ z => SqL.of (z.1 _ _ hq)) ?_ ?_
  · rintro i x H' hx ⟨s1, hD, hi⟩
    have ilt : i < xs.length := (List.getElem?_eq_some_iff.mp hx).1
    refine ⟨hw x, ?_⟩
    show te _ H' _
    refine he x H' _ (notStr_same s1 (ns x (List.mem_of_getElem? hx))) fun H2 s2 => ?_
    refine ⟨_, s2 _ _ hD, by rw [List.length_replicate]; exact small1000 (by omega), same_new (s1.trans s2) nD, ?_, by omega⟩
    rw [upd_same, List.replicate_succ']
  · rintro H' ⟨s1, hD, _⟩
    exact k D H' s1 hD
end K01

namespace K01
open PySem L2
abbrev sRight : Stmt := top 62
structure Txt8 (K : PySem.W.Frag) (mg : Str → Option Value) : Prop extends Txt7 K mg where
  repr : mg "repr" = none
theorem merge3 : mergeK [] [(.inr "keys", .int 3), (.inr "size", .int 3), (.inr "rules", .int 4)] = loreD 3 3 4 := rfl
theorem names_map (ks : List Key) : namesV ks = (ks.map (fun q : Key => q.1)).map V.str := by
  unfold namesV
  rw [List.map_map]
  rfl
theorem sizes_map (ks : List Key) : sizesV ks = rowV (ks.map (fun q : Key => q.2)) := by
  unfold sizesV rowV
  rw [List.map_map]
  rfl
section
variable {base : Heap} {P : Program} {w : World} {K : PySem.W.Frag} {mg : Str → Option Value}
def spRight : Sp := fun vs H Q _ => ∃ (j : Addr) (n : Nat), vs = [.ref j] ∧ Jar H j n ∧ n ≤ 5000 ∧ ∀ H', Jar H' j (n + 200) → Keep j H H' → Q (.bl true) H'
abbrev nRight : List Str := ["_law_jar_here", "_law_sheet_here", "_law_lines", "_law_text", "_law_many", "_law_made", "_law_turn", "_law_other", "_law_wrong_here", "_law_odd", "_law_rule", "_law_line_here", "_law_thing"]
theorem scRight : FnScope nRight ["_law_jar_here"] (defScope sRight) := ⟨rfl, rfl, rfl, by decide +kernel, rfl, by decide +kernel, by decide +kernel⟩
theorem ok_right {f C CB CR : Addr} {fd : FuncData} (F : Fun K "_law_right" "_law_right" sRight f fd) (T : Txt8 K mg) (TP : SheetC P w K mg base C CB CR) (O : OddK P w K mg base C CR)
    (GP : Has P w K mg base "_law_sheet" 4 ["_law_jar_here", "_law_lore"] (spSheet K)) (GL : Has P w K mg base "_law_sheet_lines" 1 ["_law_sheet_here"] (spDrawn K)) (GO : Has P w K mg base "_law_otherwise" 4 ["_law_jar_here", "_law_lines"] spOther)
    (GW : Has P w K mg base "_law_wrong" 2 ["_law_text"] spWrong) (GH : Has P w K mg base "_law_heard" 7 ["_law_thing"] (spHeard K)) : FnG P w K mg base 8 f fd ["_law_jar_here"] spRight := by
  refine K01.Fun.okG F scRight (fun vs H Q E h => ?_) (fun cdv A outer s H vs Q E hgu hr h => ?_)
  · obtain ⟨j, n, rfl, _⟩ := h
    rfl
  · obtain ⟨j, n, rfl, hj, hn, k⟩ := h
    obtain ⟨fI, fdI, M, FI, bI⟩ := TP.init
    obtain ⟨gE, fdE, hs, hf, FE, bE⟩ := O.eq
    have r6 : Room 6 _ := hr.mono (by decide)
    have r4 : Room 4 _ := hr.mono (by decide)
    have r2 : Room 2 _ := hr.mono (by decide)
    have r1 : Room 1 _ := hr.mono (by decide)
    have u64 := fun {k : Nat} {A : Around} (h : Room k A) => (show A.units + 64 < cLine by have := units65 h; omega)
    refine ⟨_, pss_cons (ps_set (i := 1) scRight.nd rfl (.inl rfl) (pe_has GP r4 (pa_cons (pv 0) (pa_cons (pe_disp (pps_cons pe_str pe_int (pps_cons pe_str pe_int (pps_cons pe_str pe_int pps_nil))) rfl rfl (by simp) (by decide)) pa_nil))))
      (pss_cons (ps_set (i := 2) scRight.nd rfl (.inl rfl) (pe_has GL r1 (pa_cons (pv 1) pa_nil)))
      (pss_cons (ps_par (i := 3) (j := 4) rfl scRight.nd rfl rfl (by decide) rfl rfl (pa_cons (pe_join pe_str (pv 2)) (pa_cons (pe_callB call_len_seq (by rfl) T.len PySem.boot_len (pa_cons (pe_dget (units1 hr) (pv 1) pe_str (fun _ _ => rfl)) pa_nil)) pa_nil)) rfl)
      (pss_cons (ps_set (i := 5) scRight.nd rfl (.inl rfl) (pe_makeS M FI r6 rfl TP.gS bI (fun σ => passAt takes0 σ) (pa_cons (pv 3) pa_nil)))
      (pss_cons (ps_if (pt_cmpR (op_neD (u64 hr)) (pe_tup (pa_cons (pe_get O.p1 TP.cl r2 (pv 5)) (pa_cons (pe_get O.p2 TP.cl r2 (pv 5)) (pa_cons (pe_get O.p3 TP.cl r2 (pv 5)) pa_nil))))
          (pe_tup (pa_cons (pv 3) (pa_cons (pe_callTy call_tuple_of (by rfl) T.tuple (by decide +kernel) (pa_cons (pe_dget (units1 hr) (pv 1) pe_str (fun _ _ => rfl)) pa_nil)) (pa_cons (pe_callTy call_tuple_of (by rfl) T.tuple (by decide +kernel) (pa_cons (pe_dget (units1 hr) (pv 1) pe_str (fun _ _ => rfl)) pa_nil)) pa_nil)))) (nomark _)) (pss_one (ps_ret pe_bl)) pss_nil)
      (pss_cons (ps_if (pt_not (pt_val (pe_callB call_isi (by rfl) T.isinst (by decide +kernel) (pa_cons (pe_get O.p4 TP.cl r2 (pv 5)) (pa_cons (pe_bltn (v := .ty "tuple") (by rfl) T.tuple PyProof.Rows.boot_tuple rfl) pa_nil))))) (pss_one (ps_ret pe_bl)) pss_nil)
      (pss_cons (ps_if (pt_cmpR (op_neD (u64 hr))
          (pe_lc (own := [("_law_rule", 10)]) (g := gName 10) (tt := tYes) rfl scRight.nd (pi_tup (pe_get O.p4 TP.cl r2 (pv 5))) (blkOk_by (N := nRight) (sc := defScope sRight) (by decide +kernel)) (fun _ _ _ _ _ => pg_name (i := 10) scRight.nd rfl (Or.inl rfl)) (fun _ _ _ _ _ => pts_nil)
            (fun _ _ _ _ _ => pe_get O.pr O.cr r2 (pv 10)))
          (pe_lc (own := [("_law_line_here", 11)]) (g := gName 11) (tt := tYes) rfl scRight.nd (pi_list (pe_slice (r := rSlL K) sl_list (pv 2) (po_some (pv 4)) po_none)) (blkOk_by (N := nRight) (sc := defScope sRight) (by decide +kernel)) (fun _ _ _ _ _ => pg_name (i := 11) scRight.nd rfl (Or.inl rfl)) (fun _ _ _ _ _ => pts_nil)
            (fun _ _ _ _ _ => pe_slice (r := rSlS) sl_str (pv 11) (po_some pe_int) po_none)) (nomark _)) (pss_one (ps_ret pe_bl)) pss_nil)
      (pss_cons (ps_if (PW.pt (pw_or (pt_not (pt_cmpR (op_ownEq hs hf FE bE r1) (pv 5) (pe_makeS M FI r6 rfl TP.gS bI (fun σ => passAt takes0 σ) (pa_cons (pv 3) pa_nil)) (nomark _)))
          (pw_or (pt_cmpR (op_ownEq hs hf FE bE r1) (pv 5) (pv 3) (nomark _)) (pw_or (pt_cmpR (op_ownEq hs hf FE bE r1) (pv 5) (pe_get O.p2 TP.cl r2 (pv 5)) (nomark _)) (pw_or1 (pt_cmpR (op_ownEq hs hf FE bE r1) (pv 5) pe_non (nomark _))))))) (pss_one (ps_ret pe_bl)) pss_nil)
      (pss_cons (ps_for PassesOwn.never rfl (pi_range1 (by rfl) T.range (pa_cons pe_int pa_nil)) (pg_name (i := 6) scRight.nd rfl (.inl rfl))
        (pss_cons (ps_set (i := 7) scRight.nd rfl (.inl rfl) (pe_join pe_str (pe_has GO r4 (pa_cons (pv 0) (pa_cons (pv 2) pa_nil)))))
        (pss_cons (ps_set (i := 8) scRight.nd rfl (.inl rfl) (pe_has GW r2 (pa_cons (pv 7) pa_nil)))
        (pss_cons (ps_if (pt_cmpR op_ne (pe_callB (call_reprD hgu (u64 hr)) (by rfl) T.repr (by decide +kernel) (pa_cons (pe_has GH hr (pa_cons (pv 7) pa_nil)) pa_nil))
            (pe_callB (call_reprD hgu (u64 hr)) (by rfl) T.repr (by decide +kernel) (pa_cons (pe_ifExp (pt_cmpR op_isN (pv 8) pe_non (nomark _)) (pe_tup (pa_cons pe_str (pa_cons pe_non pa_nil))) (pe_tup (pa_cons pe_str (pa_cons (pv 8) pa_nil)))) pa_nil)) (nomark _)) (pss_one (ps_ret pe_bl)) pss_nil)
        (pss_one (ps_if (PW.pt (pw_and (pt_cmpR op_isN (pv 8) pe_non (nomark _)) (pw_and1 (pt_cmpR op_ne (pe_cmpR (op_ownEq hs hf FE bE r1) (pv 5) (pe_makeS M FI r6 rfl TP.gS bI (fun σ => passAt takes0 σ) (pa_cons (pv 7) pa_nil)) (nomark _)) (pe_cmpR op_eq (pv 7) (pv 3) (nomark _)) (nomark _))))) (pss_one (ps_ret pe_bl)) pss_nil))))))
      (pss_cons (ps_set (i := 9) scRight.nd rfl (.inl rfl) (pe_lst (pa_cons pe_non (pa_cons pe_bl (pa_cons pe_int (pa_cons (pe_un un_neg pe_int) (pa_cons (pe_tup pa_nil) (pa_cons (pe_lst pa_nil) (pa_cons pe_dnewK (pa_cons (pe_tup (pa_cons (pv 3) pa_nil)) (pa_cons (pe_lst (pa_cons (pv 3) pa_nil))
          (pa_cons (pe_disp (pps_cons pe_str (pv 3) pps_nil) rfl rfl (by simp) (by decide)) (pa_cons (pe_callTy call_tuple_of (by rfl) T.tuple (by decide +kernel) (pa_cons (pv 2) pa_nil)) (pa_cons (pv 2) pa_nil))))))))))))))
      (pss_one (ps_ret (pe_callB (cr_all rfl) (by rfl) T.all (by decide +kernel) (pa_cons (pe_lc (own := [("_law_thing", 12)]) (g := gName 12) (tt := tYes) rfl scRight.nd (pi_list (pv 9))
          (blkOk_by (N := nRight) (sc := defScope sRight) (by decide +kernel)) (fun _ _ _ _ _ => pg_name (i := 12) scRight.nd rfl (Or.inl rfl)) (fun _ _ _ _ _ => pts_nil)
          (fun _ _ _ _ _ => pe_cmpR (r := rEqD K) (op_eqD (u64 hr)) (pe_has GH hr (pa_cons (pv 12) pa_nil)) (pe_tup (pa_cons pe_str (pa_cons (pe_un un_neg pe_int) pa_nil))) (nomark _))) pa_nil))))))))))))), ?_⟩
    refine ⟨.ref j, rfl, fun lo nlo => ?_⟩
    have nloj := hj.ne nlo
    refine ⟨upd_same, [(.inr "keys", .int 3), (.inr "size", .int 3), (.inr "rules", .int 4)], rfl, (by show 3 ≤ 15; decide), ?_⟩
    rw [upd_upd, merge3]
    refine ⟨j, lo, n, rfl, hj.upd nloj, by omega, nloj, upd_same, fun d NA SA RU RO H1 ks rules eds g r4' hj1 kp1' sd => ?_⟩
    have kp1 : Keep j H H1 := (Keep.new nlo).trans kp1'
    refine ⟨.ref d, rfl, j, d, NA, SA, RU, RO, n + 100, ks, rules, eds, rfl, hj1, sd, g, r4', fun H2 L s2 nL hL => ?_⟩
    have dok : ∀ l ∈ drawnL ks rules, l.length ≤ 60 ∧ Asc l := fun l hl => ⟨(drawn_ok g l hl).1, (drawn_ok g l hl).2.1⟩
    have dl := drawn_len (ks := ks) (rules := rules)
    have t1 := g.one
    have t3 := g.three
    have nl1 : nl.length = 1 := by decide +kernel
    have ta : Asc (joined (drawnL ks rules)) := joined_asc fun l hl => (dok l hl).2
    have tl : (joined (drawnL ks rules)).length ≤ 7 * (60 + 1) := joined_len (by omega) fun l hl => (dok l hl).1
    have rd := drawn_read g r4'
    have nLj : L ≠ j := hj1.ne nL
    have sd2 := sd.same hj1 s2
    generalize hzt : joined (drawnL ks rules) = zt at ta tl rd
    refine ⟨⟨_, rfl⟩, .ref L, rfl, _, L, drawnL ks rules, rfl, rfl, .inl (SqL.of hL), ?_, ?_⟩
    · have := sum_le (xs := drawnL ks rules) (m := 60) fun l hl => (dok l hl).1
      show _ + _ * nl.length ≤ 16777216
      rw [nl1]
      omega
    refine ⟨.ref d, rfl, d, .ref NA, rfl, .inl ⟨_, .inr "names", .inl sd2.hd, rfl, rfl⟩, NA, _, rfl, .inl (SqL.of sd2.hN), ?_⟩
    refine ⟨_, _, rfl, ?_⟩
    have ezt : Txt.join (PySem.Str.ofString "\n") (drawnL ks rules) = zt := hzt
    rw [ezt]
    refine ⟨_, rfl, fun m dm nm ndm nem => ⟨m, dm, _, rfl, upd_same, .inr ⟨zt, rfl, by omega, fun n e => inr_ne rd e, fun ks' rows' eds' e H3 a b e4 r k3 e1 e2 e3 e5 e6 => ⟨rfl, ?_⟩⟩⟩⟩
    have s3 := mk_same nm ndm nem k3
    rw [rd] at e
    cases e
    have w3 : WW H H3 j L m C dm (sf zt a b e4 r) (n + 100) ks rules :=
      ⟨(hj1.same s2).same s3, (kp1.trans (K01.Same.keep s2)).trans (K01.Same.keep s3), e1, s3 _ _ hL, nLj⟩
    have sd3 := sd2.same (hj1.same s2) s3
    have wa : ∀ x ∈ ks.map (fun q : Key => q.1), Asc x := fun x hx => by
      obtain ⟨q, hq, rfl⟩ := List.mem_map.mp hx
      exact fun c hc => by have := ((g.nm q hq).low c hc).2; omega
    have tsh := told_shaped (r := ks.map (fun q : Key => q.2)) ta wa
    have tev := told_eqv (r := ks.map (fun q : Key => q.2)) ta wa
    have dpN : ∀ {H' : Hp} {q : Addr}, SqT K H' q (namesV ks) → Dp K H' (.ref q) (.tuple ((ks.map (fun q : Key => q.1)).map PyData.str)) := fun {H' q} z => by
      rw [names_map] at z
      exact .tup z (texts_dp _)
    have dpS : ∀ {H' : Hp} {q : Addr}, SqT K H' q (sizesV ks) → Dp K H' (.ref q) (.tuple ((ks.map (fun q : Key => q.2)).map fun (n : Nat) => PyData.int (n : Int))) := fun {H' q} z => by
      rw [sizes_map] at z
      exact .tup z (ints_dp _)
    -- the first look
    refine ⟨.ref m, rfl, m, dm, _, rfl, e1, m, dm, _, .str zt, rfl, e1, rfl, .ref m, rfl, m, dm, _, rfl, e1, m, dm, _, .ref a, rfl, e1, rfl, .ref m, rfl, m, dm, _, rfl, e1, m, dm, _, .ref b, rfl, e1, rfl, (by show 3 ≤ sizeLine; decide), fun q1 y1 => ?_⟩
    refine ⟨_, rfl, .ref d, rfl, d, .ref NA, rfl, .inl ⟨_, .inr "names", .inl (get_new sd3.hd y1), rfl, rfl⟩, NA, _, rfl, .inl ⟨SqL.of (get_new sd3.hN y1), fun q2 y2 => ?_⟩⟩
    refine ⟨.ref d, rfl, d, .ref SA, rfl, .inl ⟨_, .inr "sizes", .inl (get_new (get_new sd3.hd y1) y2), rfl, rfl⟩, SA, _, rfl, .inl ⟨SqL.of (get_new (get_new sd3.hS y1) y2), fun q3 y3 => ?_⟩⟩
    refine ⟨(by show 3 ≤ sizeLine; decide), fun q4 y4 => ?_⟩
    have s34 := (((same_upd (o := .tup [V.str zt, V.ref a, V.ref b]) y1).trans (same_upd (o := .tup (namesV ks)) y2)).trans (same_upd (o := .tup (sizesV ks)) y3)).trans (same_upd (o := .tup [V.str zt, V.ref q2, V.ref q3]) y4)
    have h1 := get_new (o := .tup [V.str zt, V.ref q2, V.ref q3]) (get_new (o := .tup (sizesV ks)) (get_new (o := .tup (namesV ks)) (upd_same (H := H3) (a := q1) (o := .tup [V.str zt, V.ref a, V.ref b])) y2) y3) y4
    have h2 := get_new (o := .tup [V.str zt, V.ref q2, V.ref q3]) (get_new (o := .tup (sizesV ks)) (upd_same (H := upd H3 q1 (.tup [V.str zt, V.ref a, V.ref b])) (a := q2) (o := .tup (namesV ks))) y3) y4
    have h3 := get_new (o := .tup [V.str zt, V.ref q2, V.ref q3]) (upd_same (H := upd (upd H3 q1 (.tup [V.str zt, V.ref a, V.ref b])) q2 (.tup (namesV ks))) (a := q3) (o := .tup (sizesV ks))) y4
    have h4 := upd_same (H := upd (upd (upd H3 q1 (.tup [V.str zt, V.ref a, V.ref b])) q2 (.tup (namesV ks))) q3 (.tup (sizesV ks))) (a := q4) (o := .tup [V.str zt, V.ref q2, V.ref q3])
    generalize (upd (upd (upd (upd H3 q1 (.tup [V.str zt, V.ref a, V.ref b])) q2 (.tup (namesV ks))) q3 (.tup (sizesV ks))) q4 (.tup [V.str zt, V.ref q2, V.ref q3])) = H4 at s34 h1 h2 h3 h4
    refine ⟨toldD zt (ks.map (fun q : Key => q.1)) (ks.map (fun q : Key => q.2)), toldD zt (ks.map (fun q : Key => q.1)) (ks.map (fun q : Key => q.2)), .tup (SqT.of h1) (.cons (.str _) (.cons (dpN (e2.same s34).sq) (.cons (dpS (SqT.of (s34 _ _ e3))) .nil))),
      .tup (SqT.of h4) (.cons (.str _) (.cons (dpN (SqT.of h2)) (.cons (dpS (SqT.of h3)) .nil))), tsh, tsh, _, rfl, ?_⟩
    rw [tev]
    refine ite2 (fun z => absurd z (by decide)) (fun _ => ?_)
    -- rules are a tuple
    have w4 := w3.same s34
    have em := w4.hm
    obtain ⟨tr, hr1, prR⟩ := e6
    have hr4 := s34 _ _ hr1
    refine ⟨.ref m, rfl, m, dm, _, rfl, em, m, dm, _, .ref r, rfl, em, rfl, _, _, _, _, true, rfl, .ty "tuple", .base (.tup hr4), kit_ty (by decide +kernel), _, rfl, ?_⟩
    refine ite2 (fun z => absurd z (by decide)) (fun _ => ?_)
    -- the rules' texts
    have gl := good_lits g
    have ltr : tr.length = rules.length := by
      have := Paired.length prR
      rw [List.length_map] at this
      exact this
    have hca : ∀ z ∈ rules.map (fun ls => cutS (ruleLine ks ls) (some 5) none), Asc z := fun z hz => by
      obtain ⟨ls, hls, rfl⟩ := List.mem_map.mp hz
      obtain ⟨c1, c2, c3⟩ := gl ls hls
      exact asc_cut (rule_ok c1 c2 c3).2.1 _ _
    dsimp only [tNext, tSeq, tIfS, List.map]
    refine ⟨.ref m, rfl, m, dm, _, rfl, em, m, dm, _, .ref r, rfl, em, rfl, r, rfl, ⟨_, SqT.of hr4⟩, fun D1 nD1 => ?_⟩
    refine lc_tup (K := K) (xs := tr.map V.ref) (fun i H' => Same H4 H' ∧ H' D1 = some (.lst (((rules.take i).map (fun ls => cutS (ruleLine ks ls) (some 5) none)).map V.str))) ⟨same_upd nD1, upd_same⟩ (fun i H' _ z => SqT.of (z.1 _ _ hr4)) ?_ ?_
    · rintro i x H' hx ⟨s5, hD⟩
      rw [List.getElem?_map] at hx
      obtain ⟨t, ht, rfl⟩ := Option.map_eq_some_iff.mp hx
      obtain ⟨rl, hrl, dxx, l, ht2, hl2⟩ := paired_get prR ht
      rw [List.getElem?_map] at hrl
      obtain ⟨ls, hls, rfl⟩ := Option.map_eq_some_iff.mp hrl
      have htH := s5 _ _ (s34 _ _ ht2)
      refine ⟨rfl, .ref t, rfl, t, dxx, _, rfl, htH, t, dxx, _, .str (cutS (ruleLine ks ls) (some 5) none), rfl, htH, rfl, _, hD, ?_, same_new s5 nD1, ?_⟩
      · rw [List.length_map, List.length_map, List.length_take]
        exact small1000 (by omega)
      · rw [upd_same, take_one hls, List.map_append, List.map_append]
        rfl
    rintro H5 ⟨s5, hD1⟩
    rw [List.length_map, ltr, List.take_length] at hD1
    have w5 := w4.same s5
    have lnk : (namesV ks).length = ks.length := by
      unfold namesV
      rw [List.length_map]
    refine ⟨.ref L, rfl, .int ((namesV ks).length : Int), rfl, ((namesV ks).length : Int), rfl, L, _, rfl, SqL.of w5.hL, fun C1 nC1 => ?_⟩
    have ecut : cutV ((drawnL ks rules).map V.str) (some ((namesV ks).length : Int)) none = (rules.map (ruleLine ks)).map V.str := by
      rw [cut_from, lnk]
      unfold drawnL
      rw [← List.map_drop]
      have : ks.length = (ks.map keyLine).length := by rw [List.length_map]
      rw [this, List.drop_left]
    rw [ecut]
    refine ⟨C1, rfl, ⟨_, SqL.of upd_same⟩, fun D2 nD2 => ?_⟩
    have nDC : D2 ≠ C1 := fun e => by
      rw [e, upd_same] at nD2
      cases nD2
    refine lc_list (K := K) (xs := (rules.map (ruleLine ks)).map V.str) (fun i H' => Same H5 H' ∧ H' C1 = some (.lst ((rules.map (ruleLine ks)).map V.str)) ∧ H' D2 = some (.lst (((rules.take i).map (fun ls => cutS (ruleLine ks ls) (some 5) none)).map V.str)))
      ⟨(same_upd nC1).trans (same_upd nD2), get_new upd_same nD2, upd_same⟩ (fun i H' _ z => SqL.of z.2.1) ?_ ?_
    · rintro i x H' hx ⟨s6, hC, hD⟩
      rw [List.getElem?_map, List.getElem?_map] at hx
      obtain ⟨z1, hz1, rfl⟩ := Option.map_eq_some_iff.mp hx
      obtain ⟨ls, hls, rfl⟩ := Option.map_eq_some_iff.mp hz1
      obtain ⟨c1, c2, c3⟩ := gl ls (List.mem_of_getElem? hls)
      have ilt : i < rules.length := (List.getElem?_eq_some_iff.mp hls).1
      refine ⟨rfl, .str (ruleLine ks ls), rfl, 5, rfl, ruleLine ks ls, rfl, Nat.le_trans (rule_ok c1 c2 c3).1 (by decide), _, hD, ?_, ?_, ?_, ?_⟩
      · rw [List.length_map, List.length_map, List.length_take]
        exact small1000 (by omega)
      · refine same_new s6 ?_
        rw [← upd_ne (H := H5) (o := .lst ((rules.map (ruleLine ks)).map V.str)) nDC]
        exact nD2
      · rw [upd_ne nDC.symm]
        exact hC
      · rw [upd_same, take_one hls, List.map_append, List.map_append]
        rfl
    rintro H6 ⟨s6, hC, hD2⟩
    rw [List.length_map, List.length_map, List.take_length] at hD2
    refine ⟨.list ((rules.map (fun ls => cutS (ruleLine ks ls) (some 5) none)).map PyData.str), .list ((rules.map (fun ls => cutS (ruleLine ks ls) (some 5) none)).map PyData.str), .lst (SqL.of (s6 _ _ hD1)) (texts_dp _), .lst (SqL.of hD2) (texts_dp _), texts_shaped hca, texts_shaped hca, _, rfl, ?_⟩
    rw [texts_eqv hca]
    refine ite2 (fun z => absurd z (by decide)) (fun _ => ?_)
    have w6 := w5.same s6
    have ea6 : ∃ o : Obj, H6 a = some (.frz o (.tup (namesV ks))) := by
      obtain ⟨o, z, _⟩ := ((e2.same s34).same s5).same s6
      exact ⟨o, z⟩
    obtain ⟨oa, ea6⟩ := ea6
    have em6 := w6.hm
    clear w3 w4 w5 sd sd2 sd3 hD1 hD2 hC nDC nD2 nC1 nD1 prR hr4 hr1 h1 h2 h3 h4 tsh tev dpN dpS wa em e1 e2 e3 e5
    -- the sheet compared
    refine ⟨.ref m, rfl, _, rfl, fun m2 dm2 nm2 ndm2 nem2 => ⟨m2, dm2, _, rfl, upd_same, .inr ⟨zt, rfl, by omega, fun n e => inr_ne rd e, fun ks2 rows2 eds2 e H7 a2 b2 e42 r2' k7 g1 g2 g3 g4 g5 => ⟨rfl, ?_⟩⟩⟩⟩
    have s7 := mk_same nm2 ndm2 nem2 k7
    have em7 := s7 _ _ em6
    refine ⟨m, dm, _, .ref C, rfl, em7, ?_, O.fC, ⟨m, dm, _, zt, .ref m2, rfl, em7, rfl, .inr ⟨m2, dm2, _, zt, .ref C, rfl, g1, rfl, ?_, O.cC, fun H8 s8 => ?_⟩⟩⟩
    · exact O.ti g1
    · exact O.ti g1
    refine ⟨_, rfl, ?_⟩
    refine ite2 (fun z => absurd z (by simp)) (fun _ => ?_)
    have em8 := s8 _ _ em7
    refine ⟨.ref m, rfl, .str zt, rfl, m, dm, _, .type "str", rfl, em8, .base (.str _), O.fs, ⟨m, dm, _, zt, .str zt, rfl, em8, rfl, .inl ⟨.type "str", .base (.str _), O.sC, fun H9 s9 => ?_⟩⟩⟩
    refine ⟨_, rfl, ?_⟩
    refine ite2 (fun z => Bool.noConfusion z) (fun _ => ?_)
    have em9 := s9 _ _ em8
    have ea9 : H9 a = some (.frz oa (.tup (namesV ks))) := s9 _ _ (s8 _ _ (s7 _ _ ea6))
    refine ⟨.ref m, rfl, .ref m, rfl, m, dm, _, rfl, em9, m, dm, _, .ref a, rfl, em9, rfl, ?_⟩
    refine ⟨m, dm, _, .type "tuple", rfl, em9, .fTuple ea9, O.ft, ⟨m, dm, _, zt, .ref a, rfl, em9, rfl, .inl ⟨.type "tuple", .fTuple ea9, O.tC, fun H10 s10 => ?_⟩⟩⟩
    refine ⟨_, rfl, ?_⟩
    refine ite2 (fun z => Bool.noConfusion z) (fun _ => ?_)
    have em10 := s10 _ _ em9
    refine ⟨.ref m, rfl, m, dm, _, .type "NoneType", rfl, em10, .base .non, O.fn, ⟨m, dm, _, zt, .non, rfl, em10, rfl, .inl ⟨.type "NoneType", .base .non, O.nC, fun H11 s11 => ?_⟩⟩⟩
    refine ⟨_, rfl, ?_⟩
    refine ite2 (fun z => Bool.noConfusion z) (fun _ => ?_)
    have w11 := ((((w6.same s7).same s8).same s9).same s10).same s11
    clear w6 em6 em7 em8 em9 em10 ea6 ea9 g1 g2 g3 g4 g5
    generalize hsf : sf zt a b e4 r = fs at w11
    have hfs : fs.lookup ("_text" : Str) = some (.str zt) := by
      rw [← hsf]
      rfl
    clear hsf k3
    refine ⟨_, rfl, by decide, by decide, for_range (lo := 0) (n := 10) (fun i σ H' => ∃ v6 v7 v8 : Option V, σ = [some (.ref j), some (.ref d), some (.ref L), some (.str zt), some (.int ((namesV ks).length : Int)), some (.ref m), v6, v7, v8, none, none, none, none] ∧ WW H H' j L m C dm fs (n + 100 + 6 * i) ks rules) ⟨_, _, _, rfl, w11⟩ ?_ ?_⟩
    · rintro i σ H4 hi ⟨v6, v7, v8, rfl, w4⟩
      refine ⟨⟨_, rfl⟩, .ref j, rfl, .ref L, rfl, j, L, n + 100 + 6 * i, drawnL ks rules, rfl, w4.jar, by omega, w4.nL, w4.hL, by omega, by omega, dok, fun q H5 xs lx gx hj5 kp5 hq => ?_⟩
      refine ⟨_, q, xs, rfl, rfl, .inl (SqL.of hq), ?_, ?_⟩
      · have := sum_le (xs := xs) (m := 400) fun l hl => (gx l hl).1
        show _ + _ * nl.length ≤ 16777216
        rw [nl1]
        omega
      have ol : (joined xs).length ≤ 16 * (400 + 1) := joined_len lx fun l hl => (gx l hl).1
      have ez : Txt.join (PySem.Str.ofString "\n") xs = joined xs := rfl
      rw [ez]
      generalize joined xs = z at ol
      have w5 := w4.move kp5 hj5
      have wl : ∀ w1, wrongN z = some w1 → w1 ≤ 20 := fun w1 h => Nat.le_trans (wrongN_le h) (by decide)
      obtain ⟨ra, rb, rc, rdd⟩ := rp_heard wl
      refine ⟨_, rfl, z, rfl, by omega, fun H6 s6 => ?_⟩
      have w6 := w5.same s6
      refine resN_at (fun hw => ?_) (fun w1 hw => ?_)
      · rw [hw] at ra rb rc rdd
        refine ⟨_, rfl, .str z, rfl, .inr ⟨z, rfl, by omega, fun H7 p s7 np hp => ?_⟩⟩
        rw [hw] at hp
        have w7 := w6.same s7
        refine ⟨p, _, rfl, .tup (SqT.of hp) (.cons (.str _) (.cons .non .nil)), ra, rb, rc, rdd, ?_⟩
        (refine ⟨_, rfl, rfl, _, rfl, ?_⟩)
        refine ite2 (fun _ => ?_) (fun z => absurd (decide_eq_true rfl) z)
        refine ⟨(by show 2 ≤ sizeLine; decide), fun p2 np2 => ?_⟩
        refine ⟨p2, _, rfl, .tup (SqT.of upd_same) (.cons (.str "told") (.cons .non .nil)), ra, rb, rc, rdd, ?_⟩
        refine ⟨rfl, _, rfl, ?_⟩
        refine ite2 (fun z => absurd z (by simp)) (fun _ => ?_)
        (refine ⟨_, rfl, rfl, _, rfl, ?_⟩)
        refine ite2 (fun _ => ?_) (fun z => absurd (decide_eq_true rfl) z)
        have w8 := w7.new (o := HO.tup [V.str "told", V.non]) np2
        obtain ⟨q3, hrows⟩ : ∃ q3, readS z = .inr q3 := by
          rw [wrong_read] at hw
          cases e : readS z with
          | inl w1 =>
            rw [e] at hw
            cases hw
          | inr q3 => exact ⟨q3, rfl⟩
        refine ⟨.ref m, rfl, _, rfl, fun m2 dm2 nm2 ndm2 nem2 => ⟨m2, dm2, _, rfl, upd_same, .inr ⟨z, rfl, by omega, fun n1 e => inr_ne hrows e, fun ks2 rows2 eds2 e H9 a2 b2 e42 r2' k7 g1 g2 g3 g4 g5 => ⟨rfl, ?_⟩⟩⟩⟩
        have w9 := w8.same (mk_same nm2 ndm2 nem2 k7)
        refine ⟨m, dm, _, .ref C, rfl, w9.hm, O.ti g1, O.fC, ⟨m, dm, _, zt, .ref m2, rfl, w9.hm, hfs, .inr ⟨m2, dm2, _, z, .ref C, rfl, g1, rfl, O.ti g1, O.cC, fun H10 s10 => ?_⟩⟩⟩
        refine ⟨_, rfl, _, rfl, rfl, rfl, _, rfl, ?_⟩
        refine ite2 (fun y => ?_) (fun _ => ?_)
        · have y' : (!decide (V.bl (decide (zt = z)) = V.bl (decide (V.str z = V.str zt)))) = true := y
          have ee : decide (zt = z) = decide (V.str z = V.str zt) := decide_eq_decide.mpr ⟨fun q => congrArg V.str q.symm, fun q => (V.str.inj q).symm⟩
          rw [ee, decide_eq_true rfl] at y'
          exact absurd y' (by decide)
        · exact ⟨_, _, _, rfl, w9.same s10⟩
      · rw [hw] at ra rb rc rdd
        refine ⟨_, rfl, .str z, rfl, .inr ⟨z, rfl, by omega, fun H7 p s7 np hp => ?_⟩⟩
        rw [hw] at hp
        have w7 := w6.same s7
        refine ⟨p, _, rfl, .tup (SqT.of hp) (.cons (.str _) (.cons (.int _) .nil)), ra, rb, rc, rdd, ?_⟩
        (refine ⟨_, rfl, rfl, _, rfl, ?_⟩)
        refine ite2 (fun z => by cases of_decide_eq_true z) (fun _ => ?_)
        refine ⟨_, rfl, (by show 2 ≤ sizeLine; decide), fun p2 np2 => ?_⟩
        refine ⟨p2, _, rfl, .tup (SqT.of upd_same) (.cons (.str "text") (.cons (.int _) .nil)), ra, rb, rc, rdd, ?_⟩
        refine ⟨rfl, _, rfl, ?_⟩
        refine ite2 (fun z => absurd z (by simp)) (fun _ => ?_)
        (refine ⟨_, rfl, rfl, _, rfl, ?_⟩)
        refine ite2 (fun z => by cases of_decide_eq_true z) (fun _ => ?_)
        refine ite2 (fun z => Bool.noConfusion z) (fun _ => ?_)
        exact ⟨_, _, _, rfl, w7.new np2⟩
    · rintro σ H4 ⟨v6, v7, v8, rfl, w4⟩
      refine ⟨1, rfl, (by show 0 ≤ sizeLine; decide), fun q1 y1 => ⟨(by show 0 ≤ sizeLine; decide), fun q2 y2 => fun q3 y3 => ⟨.str zt, rfl, (by show 1 ≤ sizeLine; decide), fun q4 y4 => ⟨.str zt, rfl, (by show 1 ≤ sizeLine; decide), fun q5 y5 => fun q6 y6 => ?_⟩⟩⟩⟩
      refine ⟨.str zt, rfl, upd_same, [(.inr "text", .str zt)], rfl, (by show 1 ≤ 15; decide), ?_⟩
      rw [upd_upd]
      refine ⟨.ref L, rfl, L, _, rfl, .inl ⟨SqL.of ((((((w4.new y1).new y2).new y3).new y4).new y5).new y6).hL, fun q7 y7 => ?_⟩⟩
      refine ⟨.ref L, rfl, (by show 12 ≤ sizeLine; decide), fun q8 y8 => ?_⟩
      dsimp only [gName, tRet, tCB, tCons, List.map]
      refine odd_all (K := K) (q := q8) (xs := oddL q1 q2 q3 q4 q5 q6 q7 L) ?_ upd_same (odd_ns (get_new (get_new (get_new (get_new (get_new (get_new (get_new (upd_same) y2) y3) y4) y5) y6) y7) y8) (get_new (get_new (get_new (get_new (get_new (get_new (upd_same) y3) y4) y5) y6) y7) y8) (get_new (get_new (get_new (get_new (get_new (upd_same) y4) y5) y6) y7) y8) (get_new (get_new (get_new (get_new (upd_same) y5) y6) y7) y8) (get_new (get_new (get_new (upd_same) y6) y7) y8) (get_new (get_new (upd_same) y7) y8) (get_new (upd_same) y8) (get_new (get_new (get_new (get_new (get_new (get_new (get_new (get_new (w4.hL) y1) y2) y3) y4) y5) y6) y7) y8)) (by show 12 ≤ 100; decide) ?_ ?_ ?_
      · rfl
      · exact fun _ => rfl
      · intro x H5 R ns kk
        refine ⟨_, rfl, x, rfl, .inl ⟨ns, fun H6 p s6 np hp => ?_⟩⟩
        refine ⟨1, rfl, (by show 2 ≤ sizeLine; decide), fun p2 np2 => ?_⟩
        refine ⟨.tuple [.str "text", .int (-1)], .tuple [.str "text", .int (-1)], .tup (SqT.of (get_new hp np2)) (.cons (.str _) (.cons (.int _) .nil)), .tup (SqT.of upd_same) (.cons (.str _) (.cons (.int _) .nil)), by decide +kernel, by decide +kernel, ?_⟩
        have ev : PyData.eqv (.tuple [.str "text", .int (-1)]) (.tuple [.str "text", .int (-1)]) = true := by decide +kernel
        rw [ev]
        exact kk _ (s6.trans (same_upd np2))
      · intro D H5 s5 hD
        refine ⟨D, List.replicate 12 true, rfl, SqL.of hD, ?_⟩
        have w8 := ((((((((w4.new y1).new y2).new y3).new y4).new y5).new y6).new y7).new y8).same s5
        exact k H5 (w8.jar.mono (by omega)) w8.keep
end
end K01

namespace K01
open PySem L2
abbrev sLaw : Stmt := top 63
structure Txt9 (K : PySem.W.Frag) (mg : Str → Option Value) : Prop extends Txt8 K mg where
  max : mg "max" = none
  min : mg "min" = none
theorem seq_over {K : PySem.W.Frag} {H H5 H6 : Hp} {p a : Addr} {xs : List V} (s : Same H H5) (hp : H p = none) (k : Keep p H5 H6) (q : SqL K H a xs) : SqL K H6 a xs := by
  rcases q with (q | ⟨o, q⟩) | q
  · exact .inl (.inl (k _ _ (ne_of_none q hp) (s _ _ q)))
  · exact .inl (.inr ⟨o, k _ _ (ne_of_none q hp) (s _ _ q)⟩)
  · exact .inr q
section
variable {base : Heap} {P : Program} {w : World} {K : PySem.W.Frag} {mg : Str → Option Value}
def spLaw (K : PySem.W.Frag) : Sp := (fun vs H Q _ => ∃ (a : Addr) (ns : List Int), vs = [.ref a] ∧ SqL K H a (ns.map V.int) ∧ ns.length ≤ 63 ∧ ∀ H', Q (.bl true) H')
abbrev nLaw : List Str := ["_law_script", "_law_k", "_law_jar_here", "_law_turn"]
theorem scLaw : FnScope nLaw ["_law_script"] (defScope sLaw) := ⟨rfl, rfl, rfl, by decide +kernel, rfl, by decide +kernel, by decide +kernel⟩
theorem ok_law {f : Addr} {fd : FuncData} (F : Fun K "law" "law" sLaw f fd) (T : Txt9 K mg) (GJ : Has P w K mg base "_law_jar" 1 ["_law_script", "_law_k"] (spJar K)) (GR : HasG P w K mg base "_law_right" 8 ["_law_jar_here"] spRight) : FnG P w K mg base 9 f fd ["_law_script"] (spLaw K) := by
  refine K01.Fun.okG F scLaw (fun vs H Q E h => ?_) (fun cdv A outer s H vs Q E hgu hr h => ?_)
  · obtain ⟨a, ns, rfl, _⟩ := h
    rfl
  · obtain ⟨a, ns, rfl, hS, hn, k⟩ := h
    have r1 : Room 1 _ := hr.mono (by decide)
    refine ⟨_, pss_cons (ps_for PassesOwn.never rfl (pi_range1 (by rfl) T.range (pa_cons (pe_callB (call_max2 rfl) (by rfl) T.max (by decide +kernel) (pa_cons pe_int (pa_cons (pe_callB (call_min2 rfl) (by rfl) T.min (by decide +kernel)
          (pa_cons pe_int (pa_cons (pe_callB call_len_seq (by rfl) T.len PySem.boot_len (pa_cons (pv 0) pa_nil)) pa_nil))) pa_nil))) pa_nil)) (pg_name (i := 1) scLaw.nd rfl (.inl rfl))
        (pss_cons (ps_set (i := 2) scLaw.nd rfl (.inr rfl) (pe_has GJ r1 (pa_cons (pv 0) (pa_cons (pv 1) pa_nil))))
        (pss_one (ps_if (pt_not (pt_val (pe_callB (cr_all rfl) (by rfl) T.all (by decide +kernel) (pa_cons (pe_lc (own := [("_law_turn", 3)]) (g := gName 3) (tt := tYes) rfl scLaw.nd (pi_range1 (by rfl) T.range (pa_cons pe_int pa_nil))
          (blkOk_by (N := nLaw) (sc := defScope sLaw) (by decide +kernel)) (fun _ _ _ _ _ => pg_name (i := 3) scLaw.nd rfl (Or.inl rfl)) (fun _ _ _ _ _ => pts_nil)
          (fun _ _ _ _ _ => pe_hasG GR hgu hr (pa_cons (pv 2) pa_nil))) pa_nil)))) (pss_one (ps_ret pe_bl)) pss_nil))))
      (pss_one (ps_ret pe_bl)), ?_⟩
    refine ⟨.ref a, rfl, a, _, rfl, .inl hS, ?_⟩
    refine ⟨3, _, rfl, 1, _, rfl, ?_⟩
    rw [List.length_map]
    obtain ⟨N, hN, N3⟩ : ∃ N : Nat, (if (if (ns.length : Int) < 3 then (ns.length : Int) else 3) > 1 then (if (ns.length : Int) < 3 then (ns.length : Int) else 3) else 1) = (N : Int) ∧ N ≤ 3 := by
      by_cases c : (ns.length : Int) < 3
      · rw [if_pos c]
        by_cases c2 : (ns.length : Int) > 1
        · rw [if_pos c2]
          exact ⟨ns.length, rfl, by omega⟩
        · rw [if_neg c2]
          exact ⟨1, rfl, by decide⟩
      · rw [if_neg c, if_pos (by decide)]
        exact ⟨3, rfl, by decide⟩
    rw [hN]
    refine ⟨_, rfl, by omega, by omega, for_range (lo := 0) (n := ((N : Nat) : Int).toNat) (fun i σ H' => ∃ v1 v2 v3 : Option V, σ = [some (.ref a), v1, v2, v3] ∧ SqL K H' a (ns.map V.int)) ⟨_, _, _, rfl, hS⟩ ?_ ?_⟩
    · rintro i σ H4 hi ⟨v1, v2, v3, rfl, h4⟩
      refine ⟨.ref a, rfl, .int (0 + (i : Int)), rfl, a, ns, 0 + (i : Int), rfl, h4, by omega, by omega, fun p H5 np s5 hj5 => ?_⟩
      refine ⟨_, rfl, by decide, by decide, fun D nD => ?_⟩
      have nDp := hj5.ne nD
      refine lc_range (lo := 0) (n := 3) (fun t H6 => Jar H6 p (200 * t) ∧ Keep p H5 H6 ∧ H6 D = some (.lst (List.replicate t (V.bl true)))) ⟨hj5.upd nDp, Keep.new nD, upd_same⟩ ?_ ?_
      · rintro t H6 ht ⟨hj6, kp6, hD⟩
        refine ⟨rfl, .ref p, rfl, p, 200 * t, rfl, hj6, by omega, fun H7 hj7 kp7 => ?_⟩
        refine ⟨_, kp7 _ _ nDp hD, by rw [List.length_replicate]; exact small1000 (by omega), (hj7.upd nDp).mono (by omega), (kp6.trans kp7).upd_new nD, ?_⟩
        rw [upd_same, List.replicate_succ']
      · rintro H6 ⟨hj6, kp6, hD⟩
        refine ⟨D, List.replicate 3 true, rfl, SqL.of hD, _, rfl, ?_⟩
        refine ite2 (fun z => absurd z (by decide)) (fun _ => ?_)
        exact ⟨_, _, _, rfl, seq_over s5 np kp6 h4⟩
    · rintro σ H4 ⟨v1, v2, v3, rfl, h4⟩
      exact k H4
end
end K01

namespace K01
open L2 PySem PySem.W PyProof.Rows
theorem all_mk {P : Program} {w : World} {K : PySem.W.Frag} {h : Heap} {mg : Str → Option Value} {fa : Addr} (X : K.In h) (G : h.Ns mainGlobals mg) (hfa : mg "law" = some (.ref fa))
    {f14 : Addr} {od14 an14 : Option Addr} {sl14 : Array (Option Value)} {oc14 kV14 dc14 pm14 cd14 ct14 : Value}
    {f15 : Addr} {od15 an15 : Option Addr} {sl15 : Array (Option Value)} {oc15 kV15 dc15 pm15 cd15 ct15 : Value}
    {f16 : Addr} {od16 an16 : Option Addr} {sl16 : Array (Option Value)} {oc16 kV16 dc16 pm16 cd16 ct16 : Value}
    {f17 : Addr} {od17 an17 : Option Addr} {sl17 : Array (Option Value)} {oc17 kV17 dc17 pm17 cd17 ct17 : Value}
    {f22 : Addr} {od22 an22 : Option Addr} {sl22 : Array (Option Value)} {oc22 kV22 dc22 pm22 cd22 ct22 : Value}
    {f23 : Addr} {od23 an23 : Option Addr} {sl23 : Array (Option Value)} {oc23 kV23 dc23 pm23 cd23 ct23 : Value}
    {f24 : Addr} {od24 an24 : Option Addr} {sl24 : Array (Option Value)} {oc24 kV24 dc24 pm24 cd24 ct24 : Value}
    {f25 : Addr} {od25 an25 : Option Addr} {sl25 : Array (Option Value)} {oc25 kV25 dc25 pm25 cd25 ct25 : Value}
    {f26 : Addr} {od26 an26 : Option Addr} {sl26 : Array (Option Value)} {oc26 kV26 dc26 pm26 cd26 ct26 : Value}
    {f44 : Addr} {od44 an44 : Option Addr} {sl44 : Array (Option Value)} {oc44 kV44 dc44 pm44 cd44 ct44 : Value}
    {f45 : Addr} {od45 an45 : Option Addr} {sl45 : Array (Option Value)} {oc45 kV45 dc45 pm45 cd45 ct45 : Value}
    {f46 : Addr} {od46 an46 : Option Addr} {sl46 : Array (Option Value)} {oc46 kV46 dc46 pm46 cd46 ct46 : Value}
    {f48 : Addr} {od48 an48 : Option Addr} {sl48 : Array (Option Value)} {oc48 kV48 dc48 pm48 cd48 ct48 : Value}
    {f49 : Addr} {od49 an49 : Option Addr} {sl49 : Array (Option Value)} {oc49 kV49 dc49 pm49 cd49 ct49 : Value}
    {f50 : Addr} {od50 an50 : Option Addr} {sl50 : Array (Option Value)} {oc50 kV50 dc50 pm50 cd50 ct50 : Value}
    {f51 : Addr} {od51 an51 : Option Addr} {sl51 : Array (Option Value)} {oc51 kV51 dc51 pm51 cd51 ct51 : Value}
    {f52 : Addr} {od52 an52 : Option Addr} {sl52 : Array (Option Value)} {oc52 kV52 dc52 pm52 cd52 ct52 : Value}
    {f53 : Addr} {od53 an53 : Option Addr} {sl53 : Array (Option Value)} {oc53 kV53 dc53 pm53 cd53 ct53 : Value}
    {f54 : Addr} {od54 an54 : Option Addr} {sl54 : Array (Option Value)} {oc54 kV54 dc54 pm54 cd54 ct54 : Value}
    {f55 : Addr} {od55 an55 : Option Addr} {sl55 : Array (Option Value)} {oc55 kV55 dc55 pm55 cd55 ct55 : Value}
    {f56 : Addr} {od56 an56 : Option Addr} {sl56 : Array (Option Value)} {oc56 kV56 dc56 pm56 cd56 ct56 : Value}
    {f57 : Addr} {od57 an57 : Option Addr} {sl57 : Array (Option Value)} {oc57 kV57 dc57 pm57 cd57 ct57 : Value}
    {f58 : Addr} {od58 an58 : Option Addr} {sl58 : Array (Option Value)} {oc58 kV58 dc58 pm58 cd58 ct58 : Value}
    {f59 : Addr} {od59 an59 : Option Addr} {sl59 : Array (Option Value)} {oc59 kV59 dc59 pm59 cd59 ct59 : Value}
    {f60 : Addr} {od60 an60 : Option Addr} {sl60 : Array (Option Value)} {oc60 kV60 dc60 pm60 cd60 ct60 : Value}
    {f61 : Addr} {od61 an61 : Option Addr} {sl61 : Array (Option Value)} {oc61 kV61 dc61 pm61 cd61 ct61 : Value}
    {f62 : Addr} {od62 an62 : Option Addr} {sl62 : Array (Option Value)} {oc62 kV62 dc62 pm62 cd62 ct62 : Value}
    {f63 : Addr} {od63 an63 : Option Addr} {sl63 : Array (Option Value)} {oc63 kV63 dc63 pm63 cd63 ct63 : Value}
    {CS CB CR C pp1 pp2 pp3 pp4 pp5 : Addr}
    {rr1 rr2 rr3 rr4 rr5 : List Value}
    {fE : Addr} {odE anE : Option Addr} {slE : Array (Option Value)} {ocE kVE dcE pmE cdE ctE : Value}
    {fR : Addr} {odR anR : Option Addr} {slR : Array (Option Value)} {ocR kVR dcR pmR cdR ctR : Value}
    {fP : Addr} {odP anP : Option Addr} {slP : Array (Option Value)} {ocP kVP dcP pmP cdP ctP : Value}
    {fG1 : Addr} {odG1 anG1 : Option Addr} {slG1 : Array (Option Value)} {ocG1 kVG1 dcG1 pmG1 cdG1 ctG1 : Value}
    {fG2 : Addr} {odG2 anG2 : Option Addr} {slG2 : Array (Option Value)} {ocG2 kVG2 dcG2 pmG2 cdG2 ctG2 : Value}
    {fG3 : Addr} {odG3 anG3 : Option Addr} {slG3 : Array (Option Value)} {ocG3 kVG3 dcG3 pmG3 cdG3 ctG3 : Value}
    {fG4 : Addr} {odG4 anG4 : Option Addr} {slG4 : Array (Option Value)} {ocG4 kVG4 dcG4 pmG4 cdG4 ctG4 : Value}
    {fG5 : Addr} {odG5 anG5 : Option Addr} {slG5 : Array (Option Value)} {ocG5 kVG5 dcG5 pmG5 cdG5 ctG5 : Value}
    {fQ : Addr} {odQ anQ : Option Addr} {slQ : Array (Option Value)} {ocQ kVQ dcQ pmQ cdQ ctQ : Value}
    {tL tD t8 t9 tS tM tR tW : Tok} {pZ pL : Addr}
    {w1 w2 u1 u2 u3 : Tok} {odZ odL : Option Addr} {nZ nL : Nat} {slZ slL : Array (Option Value)}
    (a14 : PySem.W.nsIn K mainGlobals "lines_of" = some (some (.ref f14)))
    (l14 : K.lookup f14 = some ⟨oc14, od14, .func (PySem.W.fnOf "lines_of" "lines_of" (defArgs (top 14)) (defBody (top 14)) (defScope (top 14)) .none kV14 dc14 pm14 an14 cd14 ct14), sl14⟩)
    (c14 : PySem.W.codeIn K cd14 "lines_of" = true)
    (k14 : PySem.W.keepIn K (.ref f14) = true)
    (a15 : PySem.W.nsIn K mainGlobals "words_of" = some (some (.ref f15)))
    (l15 : K.lookup f15 = some ⟨oc15, od15, .func (PySem.W.fnOf "words_of" "words_of" (defArgs (top 15)) (defBody (top 15)) (defScope (top 15)) .none kV15 dc15 pm15 an15 cd15 ct15), sl15⟩)
    (c15 : PySem.W.codeIn K cd15 "words_of" = true)
    (k15 : PySem.W.keepIn K (.ref f15) = true)
    (a16 : PySem.W.nsIn K mainGlobals "is_name" = some (some (.ref f16)))
    (l16 : K.lookup f16 = some ⟨oc16, od16, .func (PySem.W.fnOf "is_name" "is_name" (defArgs (top 16)) (defBody (top 16)) (defScope (top 16)) .none kV16 dc16 pm16 an16 cd16 ct16), sl16⟩)
    (c16 : PySem.W.codeIn K cd16 "is_name" = true)
    (k16 : PySem.W.keepIn K (.ref f16) = true)
    (a17 : PySem.W.nsIn K mainGlobals "number_of" = some (some (.ref f17)))
    (l17 : K.lookup f17 = some ⟨oc17, od17, .func (PySem.W.fnOf "number_of" "number_of" (defArgs (top 17)) (defBody (top 17)) (defScope (top 17)) .none kV17 dc17 pm17 an17 cd17 ct17), sl17⟩)
    (c17 : PySem.W.codeIn K cd17 "number_of" = true)
    (k17 : PySem.W.keepIn K (.ref f17) = true)
    (a22 : PySem.W.nsIn K mainGlobals "lit_of" = some (some (.ref f22)))
    (l22 : K.lookup f22 = some ⟨oc22, od22, .func (PySem.W.fnOf "lit_of" "lit_of" (defArgs (top 22)) (defBody (top 22)) (defScope (top 22)) .none kV22 dc22 pm22 an22 cd22 ct22), sl22⟩)
    (c22 : PySem.W.codeIn K cd22 "lit_of" = true)
    (k22 : PySem.W.keepIn K (.ref f22) = true)
    (a23 : PySem.W.nsIn K mainGlobals "lits_of" = some (some (.ref f23)))
    (l23 : K.lookup f23 = some ⟨oc23, od23, .func (PySem.W.fnOf "lits_of" "lits_of" (defArgs (top 23)) (defBody (top 23)) (defScope (top 23)) .none kV23 dc23 pm23 an23 cd23 ct23), sl23⟩)
    (c23 : PySem.W.codeIn K cd23 "lits_of" = true)
    (k23 : PySem.W.keepIn K (.ref f23) = true)
    (a24 : PySem.W.nsIn K mainGlobals "is_so" = some (some (.ref f24)))
    (l24 : K.lookup f24 = some ⟨oc24, od24, .func (PySem.W.fnOf "is_so" "is_so" (defArgs (top 24)) (defBody (top 24)) (defScope (top 24)) .none kV24 dc24 pm24 an24 cd24 ct24), sl24⟩)
    (c24 : PySem.W.codeIn K cd24 "is_so" = true)
    (k24 : PySem.W.keepIn K (.ref f24) = true)
    (a25 : PySem.W.nsIn K mainGlobals "truth" = some (some (.ref f25)))
    (l25 : K.lookup f25 = some ⟨oc25, od25, .func (PySem.W.fnOf "truth" "truth" (defArgs (top 25)) (defBody (top 25)) (defScope (top 25)) .none kV25 dc25 pm25 an25 cd25 ct25), sl25⟩)
    (c25 : PySem.W.codeIn K cd25 "truth" = true)
    (k25 : PySem.W.keepIn K (.ref f25) = true)
    (a26 : PySem.W.nsIn K mainGlobals "all_worths" = some (some (.ref f26)))
    (l26 : K.lookup f26 = some ⟨oc26, od26, .func (PySem.W.fnOf "all_worths" "all_worths" (defArgs (top 26)) (defBody (top 26)) (defScope (top 26)) .none kV26 dc26 pm26 an26 cd26 ct26), sl26⟩)
    (c26 : PySem.W.codeIn K cd26 "all_worths" = true)
    (k26 : PySem.W.keepIn K (.ref f26) = true)
    (a44 : PySem.W.nsIn K mainGlobals "key_of" = some (some (.ref f44)))
    (l44 : K.lookup f44 = some ⟨oc44, od44, .func (PySem.W.fnOf "key_of" "key_of" (defArgs (top 44)) (defBody (top 44)) (defScope (top 44)) .none kV44 dc44 pm44 an44 cd44 ct44), sl44⟩)
    (c44 : PySem.W.codeIn K cd44 "key_of" = true)
    (k44 : PySem.W.keepIn K (.ref f44) = true)
    (a45 : PySem.W.nsIn K mainGlobals "read_keys" = some (some (.ref f45)))
    (l45 : K.lookup f45 = some ⟨oc45, od45, .func (PySem.W.fnOf "read_keys" "read_keys" (defArgs (top 45)) (defBody (top 45)) (defScope (top 45)) .none kV45 dc45 pm45 an45 cd45 ct45), sl45⟩)
    (c45 : PySem.W.codeIn K cd45 "read_keys" = true)
    (k45 : PySem.W.keepIn K (.ref f45) = true)
    (a46 : PySem.W.nsIn K mainGlobals "read_rules" = some (some (.ref f46)))
    (l46 : K.lookup f46 = some ⟨oc46, od46, .func (PySem.W.fnOf "read_rules" "read_rules" (defArgs (top 46)) (defBody (top 46)) (defScope (top 46)) .none kV46 dc46 pm46 an46 cd46 ct46), sl46⟩)
    (c46 : PySem.W.codeIn K cd46 "read_rules" = true)
    (k46 : PySem.W.keepIn K (.ref f46) = true)
    (a48 : PySem.W.nsIn K mainGlobals "_law_jar" = some (some (.ref f48)))
    (l48 : K.lookup f48 = some ⟨oc48, od48, .func (PySem.W.fnOf "_law_jar" "_law_jar" (defArgs (top 48)) (defBody (top 48)) (defScope (top 48)) .none kV48 dc48 pm48 an48 cd48 ct48), sl48⟩)
    (c48 : PySem.W.codeIn K cd48 "_law_jar" = true)
    (k48 : PySem.W.keepIn K (.ref f48) = true)
    (a49 : PySem.W.nsIn K mainGlobals "_law_take" = some (some (.ref f49)))
    (l49 : K.lookup f49 = some ⟨oc49, od49, .func (PySem.W.fnOf "_law_take" "_law_take" (defArgs (top 49)) (defBody (top 49)) (defScope (top 49)) .none kV49 dc49 pm49 an49 cd49 ct49), sl49⟩)
    (c49 : PySem.W.codeIn K cd49 "_law_take" = true)
    (k49 : PySem.W.keepIn K (.ref f49) = true)
    (a50 : PySem.W.nsIn K mainGlobals "_law_of" = some (some (.ref f50)))
    (l50 : K.lookup f50 = some ⟨oc50, od50, .func (PySem.W.fnOf "_law_of" "_law_of" (defArgs (top 50)) (defBody (top 50)) (defScope (top 50)) .none kV50 dc50 pm50 an50 cd50 ct50), sl50⟩)
    (c50 : PySem.W.codeIn K cd50 "_law_of" = true)
    (k50 : PySem.W.keepIn K (.ref f50) = true)
    (a51 : PySem.W.nsIn K mainGlobals "_law_names" = some (some (.ref f51)))
    (l51 : K.lookup f51 = some ⟨oc51, od51, .func (PySem.W.fnOf "_law_names" "_law_names" (defArgs (top 51)) (defBody (top 51)) (defScope (top 51)) .none kV51 dc51 pm51 an51 cd51 ct51), sl51⟩)
    (c51 : PySem.W.codeIn K cd51 "_law_names" = true)
    (k51 : PySem.W.keepIn K (.ref f51) = true)
    (a52 : PySem.W.nsIn K mainGlobals "_law_rows" = some (some (.ref f52)))
    (l52 : K.lookup f52 = some ⟨oc52, od52, .func (PySem.W.fnOf "_law_rows" "_law_rows" (defArgs (top 52)) (defBody (top 52)) (defScope (top 52)) .none kV52 dc52 pm52 an52 cd52 ct52), sl52⟩)
    (c52 : PySem.W.codeIn K cd52 "_law_rows" = true)
    (k52 : PySem.W.keepIn K (.ref f52) = true)
    (a53 : PySem.W.nsIn K mainGlobals "_law_is_so" = some (some (.ref f53)))
    (l53 : K.lookup f53 = some ⟨oc53, od53, .func (PySem.W.fnOf "_law_is_so" "_law_is_so" (defArgs (top 53)) (defBody (top 53)) (defScope (top 53)) .none kV53 dc53 pm53 an53 cd53 ct53), sl53⟩)
    (c53 : PySem.W.codeIn K cd53 "_law_is_so" = true)
    (k53 : PySem.W.keepIn K (.ref f53) = true)
    (a54 : PySem.W.nsIn K mainGlobals "_law_sheet" = some (some (.ref f54)))
    (l54 : K.lookup f54 = some ⟨oc54, od54, .func (PySem.W.fnOf "_law_sheet" "_law_sheet" (defArgs (top 54)) (defBody (top 54)) (defScope (top 54)) .none kV54 dc54 pm54 an54 cd54 ct54), sl54⟩)
    (c54 : PySem.W.codeIn K cd54 "_law_sheet" = true)
    (k54 : PySem.W.keepIn K (.ref f54) = true)
    (a55 : PySem.W.nsIn K mainGlobals "_law_sheet_lines" = some (some (.ref f55)))
    (l55 : K.lookup f55 = some ⟨oc55, od55, .func (PySem.W.fnOf "_law_sheet_lines" "_law_sheet_lines" (defArgs (top 55)) (defBody (top 55)) (defScope (top 55)) .none kV55 dc55 pm55 an55 cd55 ct55), sl55⟩)
    (c55 : PySem.W.codeIn K cd55 "_law_sheet_lines" = true)
    (k55 : PySem.W.keepIn K (.ref f55) = true)
    (a56 : PySem.W.nsIn K mainGlobals "_law_is_name" = some (some (.ref f56)))
    (l56 : K.lookup f56 = some ⟨oc56, od56, .func (PySem.W.fnOf "_law_is_name" "_law_is_name" (defArgs (top 56)) (defBody (top 56)) (defScope (top 56)) .none kV56 dc56 pm56 an56 cd56 ct56), sl56⟩)
    (c56 : PySem.W.codeIn K cd56 "_law_is_name" = true)
    (k56 : PySem.W.keepIn K (.ref f56) = true)
    (a57 : PySem.W.nsIn K mainGlobals "_law_lits" = some (some (.ref f57)))
    (l57 : K.lookup f57 = some ⟨oc57, od57, .func (PySem.W.fnOf "_law_lits" "_law_lits" (defArgs (top 57)) (defBody (top 57)) (defScope (top 57)) .none kV57 dc57 pm57 an57 cd57 ct57), sl57⟩)
    (c57 : PySem.W.codeIn K cd57 "_law_lits" = true)
    (k57 : PySem.W.keepIn K (.ref f57) = true)
    (a58 : PySem.W.nsIn K mainGlobals "_law_wrong" = some (some (.ref f58)))
    (l58 : K.lookup f58 = some ⟨oc58, od58, .func (PySem.W.fnOf "_law_wrong" "_law_wrong" (defArgs (top 58)) (defBody (top 58)) (defScope (top 58)) .none kV58 dc58 pm58 an58 cd58 ct58), sl58⟩)
    (c58 : PySem.W.codeIn K cd58 "_law_wrong" = true)
    (k58 : PySem.W.keepIn K (.ref f58) = true)
    (a59 : PySem.W.nsIn K mainGlobals "_law_line" = some (some (.ref f59)))
    (l59 : K.lookup f59 = some ⟨oc59, od59, .func (PySem.W.fnOf "_law_line" "_law_line" (defArgs (top 59)) (defBody (top 59)) (defScope (top 59)) .none kV59 dc59 pm59 an59 cd59 ct59), sl59⟩)
    (c59 : PySem.W.codeIn K cd59 "_law_line" = true)
    (k59 : PySem.W.keepIn K (.ref f59) = true)
    (a60 : PySem.W.nsIn K mainGlobals "_law_otherwise" = some (some (.ref f60)))
    (l60 : K.lookup f60 = some ⟨oc60, od60, .func (PySem.W.fnOf "_law_otherwise" "_law_otherwise" (defArgs (top 60)) (defBody (top 60)) (defScope (top 60)) .none kV60 dc60 pm60 an60 cd60 ct60), sl60⟩)
    (c60 : PySem.W.codeIn K cd60 "_law_otherwise" = true)
    (k60 : PySem.W.keepIn K (.ref f60) = true)
    (a61 : PySem.W.nsIn K mainGlobals "_law_heard" = some (some (.ref f61)))
    (l61 : K.lookup f61 = some ⟨oc61, od61, .func (PySem.W.fnOf "_law_heard" "_law_heard" (defArgs (top 61)) (defBody (top 61)) (defScope (top 61)) .none kV61 dc61 pm61 an61 cd61 ct61), sl61⟩)
    (c61 : PySem.W.codeIn K cd61 "_law_heard" = true)
    (k61 : PySem.W.keepIn K (.ref f61) = true)
    (a62 : PySem.W.nsIn K mainGlobals "_law_right" = some (some (.ref f62)))
    (l62 : K.lookup f62 = some ⟨oc62, od62, .func (PySem.W.fnOf "_law_right" "_law_right" (defArgs (top 62)) (defBody (top 62)) (defScope (top 62)) .none kV62 dc62 pm62 an62 cd62 ct62), sl62⟩)
    (c62 : PySem.W.codeIn K cd62 "_law_right" = true)
    (k62 : PySem.W.keepIn K (.ref f62) = true)
    (a63 : PySem.W.nsIn K mainGlobals "law" = some (some (.ref f63)))
    (l63 : K.lookup f63 = some ⟨oc63, od63, .func (PySem.W.fnOf "law" "law" (defArgs (top 63)) (defBody (top 63)) (defScope (top 63)) .none kV63 dc63 pm63 an63 cd63 ct63), sl63⟩)
    (c63 : PySem.W.codeIn K cd63 "law" = true)
    (k63 : PySem.W.keepIn K (.ref f63) = true)
    (nCS : PySem.W.nsIn K mainGlobals "SettledError" = some (some (.ref CS)))
    (nCB : PySem.W.nsIn K mainGlobals "BadText" = some (some (.ref CB)))
    (nCR : PySem.W.nsIn K mainGlobals "Rule" = some (some (.ref CR)))
    (nC : PySem.W.nsIn K mainGlobals "Sheet" = some (some (.ref C)))
    (eE : PySem.W.findIn K (.ref CB) "__init__" = some (some (.ref fE)))
    (tE : PySem.W.typeIn K (.ref fE) = some (.type "function"))
    (eR : PySem.W.findIn K (.ref CR) "__init__" = some (some (.ref fR)))
    (iR : PySem.W.isFn K (.ref fR) = true)
    (eP : PySem.W.findIn K (.ref C) "__init__" = some (some (.ref fP)))
    (iP : PySem.W.isFn K (.ref fP) = true)
    (eQ : PySem.W.findIn K (.ref C) "__eq__" = some (some (.ref fQ)))
    (iQ : PySem.W.isFn K (.ref fQ) = true)
    (pa1 : PySem.W.findIn K (.ref C) "text" = some (some (.ref pp1)))
    (pg1 : PySem.W.specialIn K (.ref pp1) "__get__" = some (some (.builtin "property.__get__")))
    (pt1 : PySem.W.takesIn K (.ref pp1) = some true)
    (pr1 : PySem.W.recIn K pp1 "property" = some (.ref fG1 :: rr1))
    (pa2 : PySem.W.findIn K (.ref C) "names" = some (some (.ref pp2)))
    (pg2 : PySem.W.specialIn K (.ref pp2) "__get__" = some (some (.builtin "property.__get__")))
    (pt2 : PySem.W.takesIn K (.ref pp2) = some true)
    (pr2 : PySem.W.recIn K pp2 "property" = some (.ref fG2 :: rr2))
    (pa3 : PySem.W.findIn K (.ref C) "sizes" = some (some (.ref pp3)))
    (pg3 : PySem.W.specialIn K (.ref pp3) "__get__" = some (some (.builtin "property.__get__")))
    (pt3 : PySem.W.takesIn K (.ref pp3) = some true)
    (pr3 : PySem.W.recIn K pp3 "property" = some (.ref fG3 :: rr3))
    (pa4 : PySem.W.findIn K (.ref C) "rules" = some (some (.ref pp4)))
    (pg4 : PySem.W.specialIn K (.ref pp4) "__get__" = some (some (.builtin "property.__get__")))
    (pt4 : PySem.W.takesIn K (.ref pp4) = some true)
    (pr4 : PySem.W.recIn K pp4 "property" = some (.ref fG4 :: rr4))
    (pa5 : PySem.W.findIn K (.ref CR) "text" = some (some (.ref pp5)))
    (pg5 : PySem.W.specialIn K (.ref pp5) "__get__" = some (some (.builtin "property.__get__")))
    (pt5 : PySem.W.takesIn K (.ref pp5) = some true)
    (pr5 : PySem.W.recIn K pp5 "property" = some (.ref fG5 :: rr5))
    (lE : K.lookup fE = some ⟨ocE, odE, .func (PySem.W.fnOf "__init__" "SettledError.__init__" (defArgs (inClass (top 2) 0)) (defBody (inClass (top 2) 0)) (defScope (inClass (top 2) 0)) .none kVE dcE pmE anE cdE ctE), slE⟩)
    (cE : PySem.W.codeIn K cdE "SettledError.__init__" = true)
    (kE : PySem.W.keepIn K (.ref fE) = true)
    (lR : K.lookup fR = some ⟨ocR, odR, .func (PySem.W.fnOf "__init__" "Rule.__init__" (defArgs (inClass (top 37) 0)) (defBody (inClass (top 37) 0)) (defScope (inClass (top 37) 0)) .none kVR dcR pmR anR cdR ctR), slR⟩)
    (cR : PySem.W.codeIn K cdR "Rule.__init__" = true)
    (kR : PySem.W.keepIn K (.ref fR) = true)
    (lP : K.lookup fP = some ⟨ocP, odP, .func (PySem.W.fnOf "__init__" "Sheet.__init__" (defArgs (inClass (top 43) 0)) (defBody (inClass (top 43) 0)) (defScope (inClass (top 43) 0)) .none kVP dcP pmP anP cdP ctP), slP⟩)
    (cP : PySem.W.codeIn K cdP "Sheet.__init__" = true)
    (kP : PySem.W.keepIn K (.ref fP) = true)
    (lG1 : K.lookup fG1 = some ⟨ocG1, odG1, .func (PySem.W.fnOf "text" "Sheet.text" (defArgs (inClass (top 43) 1)) (defBody (inClass (top 43) 1)) (defScope (inClass (top 43) 1)) .none kVG1 dcG1 pmG1 anG1 cdG1 ctG1), slG1⟩)
    (cG1 : PySem.W.codeIn K cdG1 "Sheet.text" = true)
    (kG1 : PySem.W.keepIn K (.ref fG1) = true)
    (lG2 : K.lookup fG2 = some ⟨ocG2, odG2, .func (PySem.W.fnOf "names" "Sheet.names" (defArgs (inClass (top 43) 2)) (defBody (inClass (top 43) 2)) (defScope (inClass (top 43) 2)) .none kVG2 dcG2 pmG2 anG2 cdG2 ctG2), slG2⟩)
    (cG2 : PySem.W.codeIn K cdG2 "Sheet.names" = true)
    (kG2 : PySem.W.keepIn K (.ref fG2) = true)
    (lG3 : K.lookup fG3 = some ⟨ocG3, odG3, .func (PySem.W.fnOf "sizes" "Sheet.sizes" (defArgs (inClass (top 43) 3)) (defBody (inClass (top 43) 3)) (defScope (inClass (top 43) 3)) .none kVG3 dcG3 pmG3 anG3 cdG3 ctG3), slG3⟩)
    (cG3 : PySem.W.codeIn K cdG3 "Sheet.sizes" = true)
    (kG3 : PySem.W.keepIn K (.ref fG3) = true)
    (lG4 : K.lookup fG4 = some ⟨ocG4, odG4, .func (PySem.W.fnOf "rules" "Sheet.rules" (defArgs (inClass (top 43) 4)) (defBody (inClass (top 43) 4)) (defScope (inClass (top 43) 4)) .none kVG4 dcG4 pmG4 anG4 cdG4 ctG4), slG4⟩)
    (cG4 : PySem.W.codeIn K cdG4 "Sheet.rules" = true)
    (kG4 : PySem.W.keepIn K (.ref fG4) = true)
    (lG5 : K.lookup fG5 = some ⟨ocG5, odG5, .func (PySem.W.fnOf "text" "Rule.text" (defArgs (inClass (top 37) 1)) (defBody (inClass (top 37) 1)) (defScope (inClass (top 37) 1)) .none kVG5 dcG5 pmG5 anG5 cdG5 ctG5), slG5⟩)
    (cG5 : PySem.W.codeIn K cdG5 "Rule.text" = true)
    (kG5 : PySem.W.keepIn K (.ref fG5) = true)
    (lQ : K.lookup fQ = some ⟨ocQ, odQ, .func (PySem.W.fnOf "__eq__" "Sheet.__eq__" (defArgs (inClass (top 43) 6)) (defBody (inClass (top 43) 6)) (defScope (inClass (top 43) 6)) .none kVQ dcQ pmQ anQ cdQ ctQ), slQ⟩)
    (cQ : PySem.W.codeIn K cdQ "Sheet.__eq__" = true)
    (kQ : PySem.W.keepIn K (.ref fQ) = true)
    (cpg : PySem.W.plainGet K C Str.empty = true)
    (chd : PySem.W.hasDictIn K C = true)
    (cpo : PySem.W.plainOver K C = true)
    (csa : PySem.W.findIn K (.ref C) "__setattr__" = some (some (.builtin "object.__setattr__")))
    (cmk : PySem.W.makesIn K C = true)
    (ckp : PySem.W.keepIn K (.ref C) = true)
    (cz1 : PySem.W.findIn K (.ref C) "_text" = some none)
    (cz2 : PySem.W.findIn K (.ref C) "_names" = some none)
    (cz3 : PySem.W.findIn K (.ref C) "_sizes" = some none)
    (cz4 : PySem.W.findIn K (.ref C) "_editions" = some none)
    (cz5 : PySem.W.findIn K (.ref C) "_rules" = some none)
    (rpg : PySem.W.plainGet K CR Str.empty = true)
    (rhd : PySem.W.hasDictIn K CR = true)
    (rpo : PySem.W.plainOver K CR = true)
    (rsa : PySem.W.findIn K (.ref CR) "__setattr__" = some (some (.builtin "object.__setattr__")))
    (rmk : PySem.W.makesIn K CR = true)
    (rkp : PySem.W.keepIn K (.ref CR) = true)
    (rz1 : PySem.W.findIn K (.ref CR) "_sheet" = some none)
    (rz2 : PySem.W.findIn K (.ref CR) "_text" = some none)
    (rz3 : PySem.W.findIn K (.ref CR) "lits" = some none)
    (cha : PySem.W.findIn K (.ref C) "__class__" = some (some (.builtin "object.__class__")))
    (chn : PySem.W.specialIn K (.builtin "object.__class__") "__get__" = some (some (.builtin "getset_descriptor.__get__")))
    (cht : PySem.W.takesIn K (.builtin "object.__class__") = some true)
    (chm : PySem.W.mroIn K C (.type "object") = some true)
    (o1 : PySem.W.kitOne K (.ref C) (.type "str") = some false)
    (o2 : PySem.W.kitOne K (.type "str") (.ref C) = some false)
    (o3 : PySem.W.kitOne K (.type "tuple") (.ref C) = some false)
    (o4 : PySem.W.kitOne K (.type "NoneType") (.ref C) = some false)
    (o5 : PySem.W.kitOne K (.ref C) (.ref C) = some true)
    (xk1 : PySem.W.kitOne K (.ref CB) (.ref CB) = some true)
    (xk2 : PySem.W.kitOne K (.ref CB) (.type "ValueError") = some true)
    (m1 : PySem.W.notFirst K C (.type "str") = true)
    (m2 : PySem.W.notFirst K C (.type "tuple") = true)
    (m3 : PySem.W.notFirst K C (.type "NoneType") = true)
    (m4 : PySem.W.notFirst K C (.ref C) = true)
    (xsa : PySem.W.findIn K (.ref CB) "__setattr__" = some (some (.builtin "object.__setattr__")))
    (xex : PySem.W.subIn K (.ref CB) (.type "BaseException") = some true)
    (xty : PySem.W.typeIn K (.ref CB) = some (.type "type"))
    (xkp : PySem.W.keepIn K (.ref CB) = true)
    (xnv : PySem.W.findIn K (.ref CB) "value" = some none)
    (xte : PySem.W.exmOne K (.ref CB) (.ref CS) = some true)
    (xga : PySem.W.findIn K (.ref CB) "__getattribute__" = some (some (.builtin "BaseException.__getattribute__")))
    (xgg : PySem.W.findIn K (.ref CB) "__getattr__" = some none)
    (xhd : PySem.W.hasDictIn K CB = true)
    (xha : PySem.W.findIn K (.ref CB) "__class__" = some (some (.builtin "object.__class__")))
    (xhm : PySem.W.mroIn K CB (.type "object") = some true)
    (gL : PySem.W.nsIn K mainGlobals "LETTERS" = some (some (.str (PySem.Str.ofString "abcdefghijklmnopqrstuvwxyz") tL)))
    (gD : PySem.W.nsIn K mainGlobals "DIGITS" = some (some (.str (PySem.Str.ofString "0123456789") tD)))
    (g8 : PySem.W.nsIn K mainGlobals "LONGEST_NAME" = some (some (.int 8 t8)))
    (g9 : PySem.W.nsIn K mainGlobals "MOST_DIGITS" = some (some (.int 9 t9)))
    (gS : PySem.W.nsIn K mainGlobals "LIT_STEP" = some (some (.int 4 tS)))
    (gM : PySem.W.nsIn K mainGlobals "MOST_KEYS" = some (some (.int 3 tM)))
    (gR : PySem.W.nsIn K mainGlobals "MOST_RULES" = some (some (.int 4 tR)))
    (gW : PySem.W.nsIn K mainGlobals "RULE_WORD" = some (some (.str (PySem.Str.ofString "rule ") tW)))
    (gZ : PySem.W.nsIn K mainGlobals "SIZES" = some (some (.ref pZ)))
    (gN : PySem.W.nsIn K mainGlobals "RULE_LENGTHS" = some (some (.ref pL)))
    (b_int : PySem.W.nsIn K mainGlobals "int" = some none)
    (b_abs : PySem.W.nsIn K mainGlobals "abs" = some none)
    (b_len : PySem.W.nsIn K mainGlobals "len" = some none)
    (b_range : PySem.W.nsIn K mainGlobals "range" = some none)
    (b_all : PySem.W.nsIn K mainGlobals "all" = some none)
    (b_isinstance : PySem.W.nsIn K mainGlobals "isinstance" = some none)
    (b_str : PySem.W.nsIn K mainGlobals "str" = some none)
    (b_tuple : PySem.W.nsIn K mainGlobals "tuple" = some none)
    (b_list : PySem.W.nsIn K mainGlobals "list" = some none)
    (b_any : PySem.W.nsIn K mainGlobals "any" = some none)
    (b_zip : PySem.W.nsIn K mainGlobals "zip" = some none)
    (b_enumerate : PySem.W.nsIn K mainGlobals "enumerate" = some none)
    (b_repr : PySem.W.nsIn K mainGlobals "repr" = some none)
    (b_max : PySem.W.nsIn K mainGlobals "max" = some none)
    (b_min : PySem.W.nsIn K mainGlobals "min" = some none)
    (b_ValueError : PySem.W.nsIn K mainGlobals "ValueError" = some none)
    (xcl : ∃ nm q N bs bm sn sub ab col dd k0 k1 k2 k3 k5, K.lookup CB = some (excClassObj nm q CB N bs bm true sn sub ab col dd k0 k1 k2 k3 k5 "ValueError.__new__") ∧ PySem.HandSPX.refsVE bm = true)
    (lZ : K.lookup pZ = some ⟨.type "tuple", odZ, .seq #[.int 2 w1, .int 3 w2] nZ, slZ⟩)
    (lL : K.lookup pL = some ⟨.type "tuple", odL, .seq #[.int 4 u1, .int 8 u2, .int 12 u3] nL, slL⟩)
    : ∃ fd : FuncData, (∀ (s : Shared) (v : Value), BindsTo s fd ⟨[v], []⟩ [("_law_script", v)]) ∧ ∀ base : Heap, K.In base → base.Ns mainGlobals mg → FnG P w K mg base 9 fa fd ["_law_script"] (spLaw K) := by
  have e := hfa.symm.trans (mg_of X G a63)
  cases e
  have wZ : SqT K (fun _ => none) pZ ([.int 2, .int 3] : List V) := .inr ⟨_, _, _, lZ, rfl, rfl, by show 2 ≤ sizeLine; decide, .cons ⟨w1, rfl⟩ (.cons ⟨w2, rfl⟩ .nil)⟩
  have wL : SqT K (fun _ => none) pL ([.int 4, .int 8, .int 12] : List V) := .inr ⟨_, _, _, lL, rfl, rfl, by show 3 ≤ sizeLine; decide, .cons ⟨u1, rfl⟩ (.cons ⟨u2, rfl⟩ (.cons ⟨u3, rfl⟩ .nil))⟩
  have T0 : Txt0 mg := ⟨mg_none_of X G b_int, mg_none_of X G b_abs, mg_none_of X G b_len⟩
  have T1 : Txt1 mg := ⟨T0, mg_none_of X G b_range⟩
  have T2 : Txt2 K mg := ⟨T1, mg_none_of X G b_all, ⟨_, mg_of X G gL⟩, ⟨_, mg_of X G g8⟩, mg_none_of X G b_isinstance, mg_none_of X G b_str, ⟨_, mg_of X G gD⟩, ⟨_, mg_of X G g9⟩⟩
  have T3 : Txt3 K mg := ⟨T2, ⟨_, mg_of X G gZ, wZ⟩, ⟨_, mg_of X G gM⟩, mg_none_of X G b_tuple⟩
  have T4 : Txt4 K mg := ⟨T3, ⟨_, mg_of X G gN, wL⟩, ⟨_, mg_of X G gS⟩⟩
  have T5 : Txt5 K mg := ⟨T4, ⟨_, mg_of X G gR⟩⟩
  have T6 : Txt6 K mg := ⟨T5, mg_none_of X G b_list, mg_none_of X G b_any, mg_none_of X G b_zip⟩
  have T7 : Txt7 K mg := ⟨T6, mg_none_of X G b_enumerate⟩
  have T8 : Txt8 K mg := ⟨T7, mg_none_of X G b_repr⟩
  have T9 : Txt9 K mg := ⟨T8, mg_none_of X G b_max, mg_none_of X G b_min⟩
  have F63 := fun_mk (st := top 63) l63 c63 k63
  refine ⟨PySem.W.fnOf "law" "law" (defArgs (top 63)) (defBody (top 63)) (defScope (top 63)) .none kV63 dc63 pm63 an63 cd63 ct63, fun s v => .of_eq rfl, fun base _ _ => ?_⟩
  have F14 := fun_mk (st := top 14) l14 c14 k14
  have B14 := F14.binds (ps := ["text"]) fun _ _ _ _ _ _ us hl => match us, hl with | [_], _ => rfl
  have F15 := fun_mk (st := top 15) l15 c15 k15
  have B15 := F15.binds (ps := ["line"]) fun _ _ _ _ _ _ us hl => match us, hl with | [_], _ => rfl
  have F16 := fun_mk (st := top 16) l16 c16 k16
  have B16 := F16.binds (ps := ["word"]) fun _ _ _ _ _ _ us hl => match us, hl with | [_], _ => rfl
  have F17 := fun_mk (st := top 17) l17 c17 k17
  have B17 := F17.binds (ps := ["word"]) fun _ _ _ _ _ _ us hl => match us, hl with | [_], _ => rfl
  have F22 := fun_mk (st := top 22) l22 c22 k22
  have B22 := F22.binds (ps := ["words", "names", "sizes"]) fun _ _ _ _ _ _ us hl => match us, hl with | [_, _, _], _ => rfl
  have F23 := fun_mk (st := top 23) l23 c23 k23
  have B23 := F23.binds (ps := ["line", "names", "sizes"]) fun _ _ _ _ _ _ us hl => match us, hl with | [_, _, _], _ => rfl
  have F24 := fun_mk (st := top 24) l24 c24 k24
  have B24 := F24.binds (ps := ["lit", "worths"]) fun _ _ _ _ _ _ us hl => match us, hl with | [_, _], _ => rfl
  have F25 := fun_mk (st := top 25) l25 c25 k25
  have B25 := F25.binds (ps := ["lits", "worths"]) fun _ _ _ _ _ _ us hl => match us, hl with | [_, _], _ => rfl
  have F26 := fun_mk (st := top 26) l26 c26 k26
  have B26 := F26.binds (ps := ["sizes"]) fun _ _ _ _ _ _ us hl => match us, hl with | [_], _ => rfl
  have F44 := fun_mk (st := top 44) l44 c44 k44
  have B44 := F44.binds (ps := ["line"]) fun _ _ _ _ _ _ us hl => match us, hl with | [_], _ => rfl
  have F45 := fun_mk (st := top 45) l45 c45 k45
  have B45 := F45.binds (ps := ["lines"]) fun _ _ _ _ _ _ us hl => match us, hl with | [_], _ => rfl
  have F46 := fun_mk (st := top 46) l46 c46 k46
  have B46 := F46.binds (ps := ["lines", "names", "sizes"]) fun _ _ _ _ _ _ us hl => match us, hl with | [_, _, _], _ => rfl
  have F48 := fun_mk (st := top 48) l48 c48 k48
  have B48 := F48.binds (ps := ["_law_script", "_law_k"]) fun _ _ _ _ _ _ us hl => match us, hl with | [_, _], _ => rfl
  have F49 := fun_mk (st := top 49) l49 c49 k49
  have B49 := F49.binds (ps := ["_law_jar_here", "_law_many"]) fun _ _ _ _ _ _ us hl => match us, hl with | [_, _], _ => rfl
  have F50 := fun_mk (st := top 50) l50 c50 k50
  have B50 := F50.binds (ps := ["_law_jar_here", "_law_some"]) fun _ _ _ _ _ _ us hl => match us, hl with | [_, _], _ => rfl
  have F51 := fun_mk (st := top 51) l51 c51 k51
  have B51 := F51.binds (ps := ["_law_jar_here", "_law_many"]) fun _ _ _ _ _ _ us hl => match us, hl with | [_, _], _ => rfl
  have F52 := fun_mk (st := top 52) l52 c52 k52
  have B52 := F52.binds (ps := ["_law_sizes"]) fun _ _ _ _ _ _ us hl => match us, hl with | [_], _ => rfl
  have F53 := fun_mk (st := top 53) l53 c53 k53
  have B53 := F53.binds (ps := ["_law_lits_here", "_law_row"]) fun _ _ _ _ _ _ us hl => match us, hl with | [_, _], _ => rfl
  have F54 := fun_mk (st := top 54) l54 c54 k54
  have B54 := F54.binds (ps := ["_law_jar_here", "_law_lore"]) fun _ _ _ _ _ _ us hl => match us, hl with | [_, _], _ => rfl
  have F55 := fun_mk (st := top 55) l55 c55 k55
  have B55 := F55.binds (ps := ["_law_sheet_here"]) fun _ _ _ _ _ _ us hl => match us, hl with | [_], _ => rfl
  have F56 := fun_mk (st := top 56) l56 c56 k56
  have B56 := F56.binds (ps := ["_law_word"]) fun _ _ _ _ _ _ us hl => match us, hl with | [_], _ => rfl
  have F57 := fun_mk (st := top 57) l57 c57 k57
  have B57 := F57.binds (ps := ["_law_words", "_law_names_here", "_law_sizes"]) fun _ _ _ _ _ _ us hl => match us, hl with | [_, _, _], _ => rfl
  have F58 := fun_mk (st := top 58) l58 c58 k58
  have B58 := F58.binds (ps := ["_law_text"]) fun _ _ _ _ _ _ us hl => match us, hl with | [_], _ => rfl
  have F59 := fun_mk (st := top 59) l59 c59 k59
  have B59 := F59.binds (ps := ["_law_jar_here", "_law_lines"]) fun _ _ _ _ _ _ us hl => match us, hl with | [_, _], _ => rfl
  have F60 := fun_mk (st := top 60) l60 c60 k60
  have B60 := F60.binds (ps := ["_law_jar_here", "_law_lines"]) fun _ _ _ _ _ _ us hl => match us, hl with | [_, _], _ => rfl
  have F61 := fun_mk (st := top 61) l61 c61 k61
  have B61 := F61.binds (ps := ["_law_thing"]) fun _ _ _ _ _ _ us hl => match us, hl with | [_], _ => rfl
  have F62 := fun_mk (st := top 62) l62 c62 k62
  have B62 := F62.binds (ps := ["_law_jar_here"]) fun _ _ _ _ _ _ us hl => match us, hl with | [_], _ => rfl
  have FE := fun_mk (st := inClass (top 2) 0) lE cE kE
  have BE := FE.binds (ps := ["self", "value"]) fun _ _ _ _ _ _ us hl => match us, hl with | [_, _], _ => rfl
  have FR := fun_mk (st := inClass (top 37) 0) lR cR kR
  have BR := FR.binds (ps := ["self", "sheet", "text", "lits"]) fun _ _ _ _ _ _ us hl => match us, hl with | [_, _, _, _], _ => rfl
  have FP := fun_mk (st := inClass (top 43) 0) lP cP kP
  have BP := FP.binds (ps := ["self", "text"]) fun _ _ _ _ _ _ us hl => match us, hl with | [_, _], _ => rfl
  have FG1 := fun_mk (st := inClass (top 43) 1) lG1 cG1 kG1
  have BG1 := FG1.binds (ps := ["self"]) fun _ _ _ _ _ _ us hl => match us, hl with | [_], _ => rfl
  have FG2 := fun_mk (st := inClass (top 43) 2) lG2 cG2 kG2
  have BG2 := FG2.binds (ps := ["self"]) fun _ _ _ _ _ _ us hl => match us, hl with | [_], _ => rfl
  have FG3 := fun_mk (st := inClass (top 43) 3) lG3 cG3 kG3
  have BG3 := FG3.binds (ps := ["self"]) fun _ _ _ _ _ _ us hl => match us, hl with | [_], _ => rfl
  have FG4 := fun_mk (st := inClass (top 43) 4) lG4 cG4 kG4
  have BG4 := FG4.binds (ps := ["self"]) fun _ _ _ _ _ _ us hl => match us, hl with | [_], _ => rfl
  have FG5 := fun_mk (st := inClass (top 37) 1) lG5 cG5 kG5
  have BG5 := FG5.binds (ps := ["self"]) fun _ _ _ _ _ _ us hl => match us, hl with | [_], _ => rfl
  have FQ := fun_mk (st := inClass (top 43) 6) lQ cQ kQ
  have BQ := FQ.binds (ps := ["self", "other"]) fun _ _ _ _ _ _ us hl => match us, hl with | [_, _], _ => rfl
  have S0 : SheetT K mg C := ⟨⟨cpg, chd, cpo, csa⟩, mg_of X G nC, cz1, cz2, cz3, cz4, cz5, mg_none_of X G b_tuple, mg_none_of X G b_isinstance, mg_none_of X G b_len, ⟨_, mg_of X G gW⟩⟩
  have R0 : RuleT K mg CR := ⟨⟨rpg, rhd, rpo, rsa⟩, mg_of X G nCR, rz1, rz2, rz3⟩
  have RC : RuleC P w K mg base CR := ⟨R0, _, _, ⟨rmk, eR, iR, rkp⟩, ok_rinit FR R0, BR⟩
  have B : Err P w K mg base CB := ⟨⟨xcl, xsa, xex, xty, xkp⟩, mg_of X G nCB, xnv, _, _, eE, tE, ok_einit FE, BE⟩
  have Z : Caught K mg CS CB := ⟨mg_of X G nCS, xte, ⟨xga, xgg, xex, xhd, xha, chn, cht, xhm⟩, ⟨xga, xgg, xex, xhd⟩, xk1, xk2, mg_none_of X G b_ValueError⟩
  have HW : Has P w K mg base "words_of" 1 ["line"] spWords := ⟨_, _, ok_words F15, mg_of X G a15, k15, B15⟩
  have HN : Has P w K mg base "is_name" 1 ["word"] spName := ⟨_, _, ok_isName F16 T2, mg_of X G a16, k16, B16⟩
  have HM : Has P w K mg base "number_of" 1 ["word"] spNum := ⟨_, _, ok_num F17 T2, mg_of X G a17, k17, B17⟩
  have HLt : Has P w K mg base "lit_of" 2 ["words", "names", "sizes"] (spLit K) := ⟨_, _, ok_litOf F22 HM, mg_of X G a22, k22, B22⟩
  have HLs : Has P w K mg base "lits_of" 3 ["line", "names", "sizes"] (spLits K) := ⟨_, _, ok_lits F23 T4 HW HLt, mg_of X G a23, k23, B23⟩
  have HSo : Has P w K mg base "is_so" 1 ["lit", "worths"] (spSo K) := ⟨_, _, ok_so F24, mg_of X G a24, k24, B24⟩
  have HTr : Has P w K mg base "truth" 2 ["lits", "worths"] (spTruth K) := ⟨_, _, ok_truth F25 HSo, mg_of X G a25, k25, B25⟩
  have HAw : Has P w K mg base "all_worths" 1 ["sizes"] (spWorths K) := ⟨_, _, ok_worths F26 T4, mg_of X G a26, k26, B26⟩
  have HK : Has P w K mg base "key_of" 2 ["line"] spKey := ⟨_, _, ok_keyOf F44 T3 HW HN HM, mg_of X G a44, k44, B44⟩
  have HRK : Has P w K mg base "read_keys" 3 ["lines"] (spRKeys K) := ⟨_, _, ok_readKeys F45 T3 HK, mg_of X G a45, k45, B45⟩
  have HL : HasX P w K mg base "lines_of" 3 ["text"] (spLines K CB) := ⟨_, _, ok_lines F14 T3 B, mg_of X G a14, k14, B14⟩
  have HRR : HasX P w K mg base "read_rules" 4 ["lines", "names", "sizes"] (spRules K CB) := ⟨_, _, ok_rules F46 T5 B HAw HLs HTr, mg_of X G a46, k46, B46⟩
  have SC : SheetC P w K mg base C CB CR := ⟨S0, _, _, ⟨cmk, eP, iP, ckp⟩, ok_sinit FP S0 RC HL HRK HRR, BP⟩
  have O : OddK P w K mg base C CR := ⟨o1, o2, o3, o4, o5, m1, m2, m3, m4, fun e => .base (.ins e S0.cl cha chn cht chm), ⟨_, _, eQ, iQ, ok_seq FQ S0, BQ⟩,
    ⟨_, _, _, ⟨pa1, pg1, pt1, _, pr1⟩, ok_get FG1 rfl rfl S0.cl cz1, BG1⟩, ⟨_, _, _, ⟨pa2, pg2, pt2, _, pr2⟩, ok_get FG2 rfl rfl S0.cl cz2, BG2⟩, ⟨_, _, _, ⟨pa3, pg3, pt3, _, pr3⟩, ok_get FG3 rfl rfl S0.cl cz3, BG3⟩, ⟨_, _, _, ⟨pa4, pg4, pt4, _, pr4⟩, ok_get FG4 rfl rfl S0.cl cz5, BG4⟩,
    ⟨_, _, _, ⟨pa5, pg5, pt5, _, pr5⟩, ok_get FG5 rfl rfl R0.cl rz2, BG5⟩, R0.cl⟩
  have JT : Has P w K mg base "_law_take" 1 ["_law_jar_here", "_law_many"] spTake := ⟨_, _, ok_take F49 T0, mg_of X G a49, k49, B49⟩
  have JO : Has P w K mg base "_law_of" 2 ["_law_jar_here", "_law_some"] (spOf K) := ⟨_, _, ok_of F50 T0 JT, mg_of X G a50, k50, B50⟩
  have JJ : Has P w K mg base "_law_jar" 1 ["_law_script", "_law_k"] (spJar K) := ⟨_, _, ok_jar F48 T0, mg_of X G a48, k48, B48⟩
  have JN : Has P w K mg base "_law_names" 3 ["_law_jar_here", "_law_many"] spNames := ⟨_, _, ok_names F51 T1 JT JO, mg_of X G a51, k51, B51⟩
  have JR : Has P w K mg base "_law_rows" 1 ["_law_sizes"] (spLRows K) := ⟨_, _, ok_lrows F52 T6, mg_of X G a52, k52, B52⟩
  have JS : Has P w K mg base "_law_is_so" 1 ["_law_lits_here", "_law_row"] (spLSo K) := ⟨_, _, ok_lso F53 T6, mg_of X G a53, k53, B53⟩
  have JSh : Has P w K mg base "_law_sheet" 4 ["_law_jar_here", "_law_lore"] (spSheet K) := ⟨_, _, ok_sheet F54 T7 JT JN JR JS, mg_of X G a54, k54, B54⟩
  have JSl : Has P w K mg base "_law_sheet_lines" 1 ["_law_sheet_here"] (spDrawn K) := ⟨_, _, ok_slines F55 T7, mg_of X G a55, k55, B55⟩
  have JI : Has P w K mg base "_law_is_name" 1 ["_law_word"] spName := ⟨_, _, ok_lisName F56 T2, mg_of X G a56, k56, B56⟩
  have JL : Has P w K mg base "_law_lits" 1 ["_law_words", "_law_names_here", "_law_sizes"] (spLLits K) := ⟨_, _, ok_llits F57 T6, mg_of X G a57, k57, B57⟩
  have JW : Has P w K mg base "_law_wrong" 2 ["_law_text"] spWrong := ⟨_, _, ok_wrong F58 T7 JI JR JL JS, mg_of X G a58, k58, B58⟩
  have JLi : Has P w K mg base "_law_line" 3 ["_law_jar_here", "_law_lines"] spLine := ⟨_, _, ok_line F59 JO, mg_of X G a59, k59, B59⟩
  have JX : Has P w K mg base "_law_otherwise" 4 ["_law_jar_here", "_law_lines"] spOther := ⟨_, _, ok_other F60 T0 JT JLi, mg_of X G a60, k60, B60⟩
  have JH : Has P w K mg base "_law_heard" 7 ["_law_thing"] (spHeard K) := ⟨_, _, ok_heard F61 SC B Z, mg_of X G a61, k61, B61⟩
  have JG : HasG P w K mg base "_law_right" 8 ["_law_jar_here"] spRight := ⟨_, _, ok_right F62 T8 SC O JSh JSl JX JW JH, mg_of X G a62, k62, B62⟩
  exact ok_law F63 T9 JJ JG
end K01

namespace K01
open L2 PySem PySem.W PyProof.Rows
/-! ### the law called where no repr runs -/
/-- from a heap that tracks the script at most -/
theorem call_from {P : Program} {w : World} {K : PySem.W.Frag} {mg mb : Str → Option Value} {k : Nat} {fa a : Addr} {fd : FuncData} {x : Str} {s₁ : Shared} {vs : List Value} {ns : List Int} {Ht : Hp}
    (inK : K.In s₁.heap) (gl : s₁.heap.Ns mainGlobals mg) (bt : s₁.heap.Ns builtinsNs mb) (bb : ∀ x : Str, x ≠ "__name__" → mb x = bootBuiltins x) (lim : s₁.heap.NoLimit) (gens : s₁.gens = #[])
    (ha : s₁.heap.get? a = some { cls := .type "list", data := .seq vs.toArray }) (room : Room k callerA)
    (F : ∀ base : Heap, K.In base → base.Ns mainGlobals mg → FnG P w K mg base k fa fd [x] (spLaw K)) (bind : ∀ (s : Shared) (u : Value), BindsTo s fd ⟨[u], []⟩ [(x, u)])
    (only : Only Ht) (seq : SqL K Ht a (ns.map V.int)) (few : ns.length ≤ 63) (hok : HOk P w Ht s₁.heap) (justA : ∀ b, Ht b ≠ none → b = a) (notK : Ht a ≠ none → K.lookup a = none) :
    codeAny (model P w) callerA (.call (.ref fa) ⟨[.ref a], []⟩) (fun rr s' => rr = .ok (.ret (.bool true)) ∧ OldK s₁.heap s'.heap ∧ s'.os = s₁.os ∧ AllBare s'.gens) s₁ := by
  have below : ∀ {b : Addr} {o : Obj}, s₁.heap.get? b = some o → Ht b = none → (hidT s₁.heap Ht).get? b = some o := fun {b o} e z => hidT_get e z
  have free : ∀ {b : Addr}, b ≠ a → Ht b = none := fun {b} n => by
    cases q : Ht b with
    | none => rfl
    | some u => exact absurd (justA b (by rw [q]; exact fun z => nomatch z)) n
  have notDict : ∀ {b : Addr} {o : Obj} {es : Array DictEntry} {ep : Nat}, s₁.heap.get? b = some o → o.data = .dict es ep → b ≠ a := fun {b o es ep} e d z => by
    rw [z, ha] at e
    cases e
    cases d
  have spaces : ∀ {b : Addr} {m : Str → Option Value}, s₁.heap.Ns b m → (hidT s₁.heap Ht).Ns b m := fun {b m} z => by
    obtain ⟨o, es, ep, e, d, r⟩ := z
    exact ⟨o, es, ep, below e (free (notDict e d)), d, r⟩
  have inB : K.In (hidT s₁.heap Ht) := fun b o e => below (inK b o e) (by
    cases q : Ht b with
    | none => rfl
    | some u =>
      have z : b = a := justA b (by rw [q]; exact fun y => nomatch y)
      have y := notK (by rw [← z, q]; exact fun y => nomatch y)
      rw [← z, e] at y
      cases y)
  have md : Mod K mg (hidT s₁.heap Ht) := by
    obtain ⟨mc, l1, l2⟩ := lim
    exact ⟨inB, spaces gl, ⟨mb, spaces bt, bb⟩, ⟨mc, spaces l1, l2⟩⟩
  have env : Env0 P w K mg (hidT s₁.heap Ht) callerA [] s₁ Ht := ⟨rfl, md, fun b o e => of_hidT e, Nat.le_of_eq (hidT_size _ _), trivial, fun b hb => (List.not_mem_nil hb).elim, hok, .of_eq gens⟩
  have run := (F _ inB (spaces gl)).run callerA [] s₁ Ht ⟨[.ref a], []⟩ [.ref a] [.ref a] (fun v _ => v = .bl true) (fun _ _ _ => False) rfl room env (bind s₁ (.ref a)) (.cons rfl .nil) ⟨a, ns, rfl, seq, few, fun _ => rfl⟩
  refine codeAny_mono run fun res s' out => ?_
  cases res with
  | error e => exact False.elim out
  | ok fl =>
    cases fl with
    | ret u =>
      obtain ⟨v, H', os, bare, un, hok', rv, ev⟩ := out
      have ev' : v = .bl true := ev
      subst ev'
      obtain rfl : u = Value.bool true := rv
      (refine ⟨rfl, OldK.of_keep fun b o e => ?_, os, bare⟩)
      cases q : Ht b with
      | none => exact un.keep b o e q (fun z => (List.not_mem_nil (show b ∈ ([] : List Addr) from z)).elim) (by simp)
      | some u =>
        rcases only b with z | ⟨ob, ys, z⟩
        · rw [z] at q
          cases q
        · have old := (hok b _ z).1
          have new := (hok' b _ (un.frzs b ob _ z)).1
          rw [e] at old
          cases old
          exact new
    | next => exact False.elim out
    | brk => exact False.elim out
    | cont => exact False.elim out
theorem law_from {P : Program} {w : World} {K : PySem.W.Frag} {mg mb : Str → Option Value} {k : Nat} {fa a : Addr} {fd : FuncData} {x : Str} {s₁ : Shared} {vs : List Value} {ns : List Int}
    (inK : K.In s₁.heap) (gl : s₁.heap.Ns mainGlobals mg) (bt : s₁.heap.Ns builtinsNs mb) (bb : ∀ x : Str, x ≠ "__name__" → mb x = bootBuiltins x) (lim : s₁.heap.NoLimit) (gens : s₁.gens = #[])
    (ha : s₁.heap.get? a = some { cls := .type "list", data := .seq vs.toArray }) (nums : IntsAre vs ns) (few : ns.length ≤ 63) (room : Room k callerA)
    (F : ∀ base : Heap, K.In base → base.Ns mainGlobals mg → FnG P w K mg base k fa fd [x] (spLaw K)) (bind : ∀ (s : Shared) (u : Value), BindsTo s fd ⟨[u], []⟩ [(x, u)]) :
    codeAny (model P w) callerA (.call (.ref fa) ⟨[.ref a], []⟩) (fun rr s' => rr = .ok (.ret (.bool true)) ∧ OldK s₁.heap s'.heap ∧ s'.os = s₁.os ∧ AllBare s'.gens) s₁ := by
  have vals := vals_ints nums
  have long := nums.length
  have big : ns.length ≤ sizeLine := Nat.le_trans few (by decide)
  cases hk : K.lookup a with
  | some o =>
    have e := inK a o hk
    rw [ha] at e
    cases e
    exact call_from (Ht := fun _ => none) inK gl bt bb lim gens ha room F bind (fun _ => .inl rfl) (.inr ⟨_, vs.toArray, _, hk, rfl, rfl, rfl, by rw [List.size_toArray, long]; exact big, by simpa using vals⟩) few
      (fun b u z => by cases (show (none : Option HO) = some u from z)) (fun b z => (z rfl).elim) (fun z => (z rfl).elim)
  | none =>
    have here : ∀ b, b = a → (fun b : Addr => if b = a then (some (.frz { cls := .type "list", data := .seq vs.toArray } (.lst (ns.map V.int))) : Option HO) else none) b = some (.frz { cls := .type "list", data := .seq vs.toArray } (.lst (ns.map V.int))) := fun b z => if_pos z
    have else_ : ∀ b, b ≠ a → (fun b : Addr => if b = a then (some (.frz { cls := .type "list", data := .seq vs.toArray } (.lst (ns.map V.int))) : Option HO) else none) b = none := fun b z => if_neg z
    refine call_from (Ht := fun b : Addr => if b = a then (some (.frz { cls := .type "list", data := .seq vs.toArray } (.lst (ns.map V.int))) : Option HO) else none) inK gl bt bb lim gens ha room F bind (fun b => ?_) (.inl (.inr ⟨_, here a rfl⟩)) few (fun b u z => ?_) (fun b z => ?_) fun _ => hk
    · by_cases q : b = a
      · exact .inr ⟨_, _, here b q⟩
      · exact .inl (else_ b q)
    · by_cases q : b = a
      · have y := (here b q).symm.trans z
        cases y
        subst q
        exact ⟨ha, by rw [List.length_map]; exact big, vs, _, vals, ha⟩
      · cases (else_ b q).symm.trans z
    · by_cases q : b = a
      · exact q
      · exact (z (else_ b q)).elim
theorem walk_g {l : PySem.W.OpenLaw} {q : Program} {loose : List Str} {XP : (Str → Option Value) → Heap → Prop} {YP : World → Heap → Prop} {d : DefRec} {K : Params → PySem.W.Frag} (most : l.most = some 63) (nodef : d.params.defaults = []) (room : Room 9 callerA)
    (hY : ∀ (w : World) (hp : Heap), YP w hp → (K w.params).In hp)
    (F : ∀ (w : World) (mg : Str → Option Value) (fa : Addr) (hp : Heap), (K w.params).In hp → hp.Ns mainGlobals mg → mg d.name = some (.ref fa) →
      ∃ fd : FuncData, (∀ (s : Shared) (v : Value), BindsTo s fd ⟨[v], []⟩ [("_law_script", v)]) ∧ ∀ base : Heap, (K w.params).In base → base.Ns mainGlobals mg → FnG l.prog w (K w.params) mg base 9 fa fd ["_law_script"] (spLaw (K w.params))) :
    PySem.W.WalkO q loose XP YP l.row.toRowW d [] (fun g us => PySem.call g us) := by
  refine Att.attach_call most nodef fun w s₀ s₁ mg mb fa o pm cd doc a vs ns G Y ho hd hcd at_ obj nums few gens => ?_
  obtain ⟨fd, bind, law⟩ := F w mg fa _ (hY w _ Y) G.T.g at_
  exact law_from (hY w _ Y) G.T.g G.T.b G.T.builtins G.T.nolimit gens obj nums few room law bind
end K01

open PyProof.Rows PySem PySem.W in
set_option maxRecDepth 100001 in
set_option maxHeartbeats 0 in
theorem PySem.Challenge.cw_settledreads_k01_sheets_read_or_refused_holds : PySem.Challenge.rw_settledreads_k01_sheets_read_or_refused.Holds := by
  w_on
  o_law
  k_head
  (case hw => w_witness2)
  k_fill
  refine K01.walk_g (l := PySem.Challenge.rw_settledreads_k01_sheets_read_or_refused) rfl rfl ⟨by decide, by decide, by decide⟩ (fun w h Y => PySem.W.kIn_of Y) ?F
  case F =>
    intro w mg fa h KX G hmg
    refine' K01.all_mk KX G hmg ?a14 ?l14 ?c14 ?k14 ?a15 ?l15 ?c15 ?k15 ?a16 ?l16 ?c16 ?k16 ?a17 ?l17 ?c17 ?k17 ?a22 ?l22 ?c22 ?k22 ?a23 ?l23 ?c23 ?k23 ?a24 ?l24 ?c24 ?k24 ?a25 ?l25 ?c25 ?k25 ?a26 ?l26 ?c26 ?k26 ?a44 ?l44 ?c44 ?k44 ?a45 ?l45 ?c45 ?k45 ?a46 ?l46 ?c46 ?k46 ?a48 ?l48 ?c48 ?k48 ?a49 ?l49 ?c49 ?k49 ?a50 ?l50 ?c50 ?k50 ?a51 ?l51 ?c51 ?k51 ?a52 ?l52 ?c52 ?k52 ?a53 ?l53 ?c53 ?k53 ?a54 ?l54 ?c54 ?k54 ?a55 ?l55 ?c55 ?k55 ?a56 ?l56 ?c56 ?k56 ?a57 ?l57 ?c57 ?k57 ?a58 ?l58 ?c58 ?k58 ?a59 ?l59 ?c59 ?k59 ?a60 ?l60 ?c60 ?k60 ?a61 ?l61 ?c61 ?k61 ?a62 ?l62 ?c62 ?k62 ?a63 ?l63 ?c63 ?k63 ?nCS ?nCB ?nCR ?nC ?eE ?tE ?eR ?iR ?eP ?iP ?eQ ?iQ ?pa1 ?pg1 ?pt1 ?pr1 ?pa2 ?pg2 ?pt2 ?pr2 ?pa3 ?pg3 ?pt3 ?pr3 ?pa4 ?pg4 ?pt4 ?pr4 ?pa5 ?pg5 ?pt5 ?pr5 ?lE ?cE ?kE ?lR ?cR ?kR ?lP ?cP ?kP ?lG1 ?cG1 ?kG1 ?lG2 ?cG2 ?kG2 ?lG3 ?cG3 ?kG3 ?lG4 ?cG4 ?kG4 ?lG5 ?cG5 ?kG5 ?lQ ?cQ ?kQ ?cpg ?chd ?cpo ?csa ?cmk ?ckp ?cz1 ?cz2 ?cz3 ?cz4 ?cz5 ?rpg ?rhd ?rpo ?rsa ?rmk ?rkp ?rz1 ?rz2 ?rz3 ?cha ?chn ?cht ?chm ?o1 ?o2 ?o3 ?o4 ?o5 ?xk1 ?xk2 ?m1 ?m2 ?m3 ?m4 ?xsa ?xex ?xty ?xkp ?xnv ?xte ?xga ?xgg ?xhd ?xha ?xhm ?gL ?gD ?g8 ?g9 ?gS ?gM ?gR ?gW ?gZ ?gN ?b_int ?b_abs ?b_len ?b_range ?b_all ?b_isinstance ?b_str ?b_tuple ?b_list ?b_any ?b_zip ?b_enumerate ?b_repr ?b_max ?b_min ?b_ValueError ?xcl ?lZ ?lL
    (case a14 => k_is)
    (case l14 => k_is)
    (case c14 => k_is)
    (case k14 => k_is)
    (case a15 => k_is)
    (case l15 => k_is)
    (case c15 => k_is)
    (case k15 => k_is)
    (case a16 => k_is)
    (case l16 => k_is)
    (case c16 => k_is)
    (case k16 => k_is)
    (case a17 => k_is)
    (case l17 => k_is)
    (case c17 => k_is)
    (case k17 => k_is)
    (case a22 => k_is)
    (case l22 => k_is)
    (case c22 => k_is)
    (case k22 => k_is)
    (case a23 => k_is)
    (case l23 => k_is)
    (case c23 => k_is)
    (case k23 => k_is)
    (case a24 => k_is)
    (case l24 => k_is)
    (case c24 => k_is)
    (case k24 => k_is)
    (case a25 => k_is)
    (case l25 => k_is)
    (case c25 => k_is)
    (case k25 => k_is)
    (case a26 => k_is)
    (case l26 => k_is)
    (case c26 => k_is)
    (case k26 => k_is)
    (case a44 => k_is)
    (case l44 => k_is)
    (case c44 => k_is)
    (case k44 => k_is)
    (case a45 => k_is)
    (case l45 => k_is)
    (case c45 => k_is)
    (case k45 => k_is)
    (case a46 => k_is)
    (case l46 => k_is)
    (case c46 => k_is)
    (case k46 => k_is)
    (case a48 => k_is)
    (case l48 => k_is)
    (case c48 => k_is)
    (case k48 => k_is)
    (case a49 => k_is)
    (case l49 => k_is)
    (case c49 => k_is)
    (case k49 => k_is)
    (case a50 => k_is)
    (case l50 => k_is)
    (case c50 => k_is)
    (case k50 => k_is)
    (case a51 => k_is)
    (case l51 => k_is)
    (case c51 => k_is)
    (case k51 => k_is)
    (case a52 => k_is)
    (case l52 => k_is)
    (case c52 => k_is)
    (case k52 => k_is)
    (case a53 => k_is)
    (case l53 => k_is)
    (case c53 => k_is)
    (case k53 => k_is)
    (case a54 => k_is)
    (case l54 => k_is)
    (case c54 => k_is)
    (case k54 => k_is)
    (case a55 => k_is)
    (case l55 => k_is)
    (case c55 => k_is)
    (case k55 => k_is)
    (case a56 => k_is)
    (case l56 => k_is)
    (case c56 => k_is)
    (case k56 => k_is)
    (case a57 => k_is)
    (case l57 => k_is)
    (case c57 => k_is)
    (case k57 => k_is)
    (case a58 => k_is)
    (case l58 => k_is)
    (case c58 => k_is)
    (case k58 => k_is)
    (case a59 => k_is)
    (case l59 => k_is)
    (case c59 => k_is)
    (case k59 => k_is)
    (case a60 => k_is)
    (case l60 => k_is)
    (case c60 => k_is)
    (case k60 => k_is)
    (case a61 => k_is)
    (case l61 => k_is)
    (case c61 => k_is)
    (case k61 => k_is)
    (case a62 => k_is)
    (case l62 => k_is)
    (case c62 => k_is)
    (case k62 => k_is)
    (case a63 => k_is)
    (case l63 => k_is)
    (case c63 => k_is)
    (case k63 => k_is)
    (case nCS => k_is)
    (case nCB => k_is)
    (case nCR => k_is)
    (case nC => k_is)
    (case eE => k_is)
    (case tE => k_is)
    (case eR => k_is)
    (case iR => k_is)
    (case eP => k_is)
    (case iP => k_is)
    (case eQ => k_is)
    (case iQ => k_is)
    (case pa1 => k_is)
    (case pg1 => k_is)
    (case pt1 => k_is)
    (case pr1 => k_is)
    (case pa2 => k_is)
    (case pg2 => k_is)
    (case pt2 => k_is)
    (case pr2 => k_is)
    (case pa3 => k_is)
    (case pg3 => k_is)
    (case pt3 => k_is)
    (case pr3 => k_is)
    (case pa4 => k_is)
    (case pg4 => k_is)
    (case pt4 => k_is)
    (case pr4 => k_is)
    (case pa5 => k_is)
    (case pg5 => k_is)
    (case pt5 => k_is)
    (case pr5 => k_is)
    (case lE => k_is)
    (case cE => k_is)
    (case kE => k_is)
    (case lR => k_is)
    (case cR => k_is)
    (case kR => k_is)
    (case lP => k_is)
    (case cP => k_is)
    (case kP => k_is)
    (case lG1 => k_is)
    (case cG1 => k_is)
    (case kG1 => k_is)
    (case lG2 => k_is)
    (case cG2 => k_is)
    (case kG2 => k_is)
    (case lG3 => k_is)
    (case cG3 => k_is)
    (case kG3 => k_is)
    (case lG4 => k_is)
    (case cG4 => k_is)
    (case kG4 => k_is)
    (case lG5 => k_is)
    (case cG5 => k_is)
    (case kG5 => k_is)
    (case lQ => k_is)
    (case cQ => k_is)
    (case kQ => k_is)
    (case cpg => k_is)
    (case chd => k_is)
    (case cpo => k_is)
    (case csa => k_is)
    (case cmk => k_is)
    (case ckp => k_is)
    (case cz1 => k_is)
    (case cz2 => k_is)
    (case cz3 => k_is)
    (case cz4 => k_is)
    (case cz5 => k_is)
    (case rpg => k_is)
    (case rhd => k_is)
    (case rpo => k_is)
    (case rsa => k_is)
    (case rmk => k_is)
    (case rkp => k_is)
    (case rz1 => k_is)
    (case rz2 => k_is)
    (case rz3 => k_is)
    (case cha => k_is)
    (case chn => k_is)
    (case cht => k_is)
    (case chm => k_is)
    (case o1 => kit_is)
    (case o2 => kit_is)
    (case o3 => kit_is)
    (case o4 => kit_is)
    (case o5 => kit_is)
    (case xk1 => kit_is)
    (case xk2 => kit_is)
    (case m1 => k_is)
    (case m2 => k_is)
    (case m3 => k_is)
    (case m4 => k_is)
    (case xsa => k_is)
    (case xex => k_is)
    (case xty => k_is)
    (case xkp => k_is)
    (case xnv => k_is)
    (case xte => first | kernel_rfl | rfl | decide +kernel)
    (case xga => k_is)
    (case xgg => k_is)
    (case xhd => k_is)
    (case xha => k_is)
    (case xhm => k_is)
    (case gL => k_is)
    (case gD => k_is)
    (case g8 => k_is)
    (case g9 => k_is)
    (case gS => k_is)
    (case gM => k_is)
    (case gR => k_is)
    (case gW => k_is)
    (case gZ => k_is)
    (case gN => k_is)
    (case b_int => k_is)
    (case b_abs => k_is)
    (case b_len => k_is)
    (case b_range => k_is)
    (case b_all => k_is)
    (case b_isinstance => k_is)
    (case b_str => k_is)
    (case b_tuple => k_is)
    (case b_list => k_is)
    (case b_any => k_is)
    (case b_zip => k_is)
    (case b_enumerate => k_is)
    (case b_repr => k_is)
    (case b_max => k_is)
    (case b_min => k_is)
    (case b_ValueError => k_is)
    (case xcl => exact ⟨_, _, _, _, _, _, _, _, _, _, _, _, _, _, _, by k_is, by decide⟩)
    (case lZ => k_is)
    (case lL => k_is)
