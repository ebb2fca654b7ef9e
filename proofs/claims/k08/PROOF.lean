import PyProof.Rows.All
import Wide.All
import OpenK.AllK
import Wide.FinOn
import HandS.ForMost
import HandS.Wide
import PySem.Challenge.RW_settledreads_k08_plans_read_or_refused
import HandS.ForExc
import HandS.ExcInit
import HandS.IsInst
import HandS.ExcValue
import HandS.ExcField
import HandS.ExcIs
import KE.KExcIs
import PyProof.ReprRoads
import HandS.Walk
import HandS.Deep
import HandS.Property
import HandS.OwnEq
import KE.GoesMore
import KE.KDictZip
import KE.KItemsList
import HandS.ReplaceLit
set_option Elab.async false
set_option linter.all false
set_option maxRecDepth 100000
set_option maxHeartbeats 4100000
set_option Elab.async false
set_option linter.all false
namespace K08
open PySem L2
/-! ### the text by places -/
def top (i : Nat) : Stmt := PySem.Challenge.pw_settledreads_k08_plans_read_or_refused.main.body.getD i (.Pass ⟨0, 0, 0, 0⟩)
abbrev sJar : Stmt := top 16
abbrev sTake : Stmt := top 17
abbrev sOf : Stmt := top 18
/-! ### heaps -/
/-- a drawing jar stands at j; n bounds how often it was drawn from -/
def Jar (H : Hp) (j : Addr) (n : Nat) : Prop := ∃ a b c : Int, H j = some (.lst [.int a, .int b, .int c]) ∧ 0 ≤ a ∧ a < 2 ^ 1000 ∧ 0 ≤ b ∧ b < 2 ^ 61 ∧ 0 ≤ c ∧ c ≤ n
theorem Jar.mono {H : Hp} {j : Addr} {n m : Nat} (h : Jar H j n) (l : n ≤ m) : Jar H j m := by
  obtain ⟨a, b, c, e, h1, h2, h3, h4, h5, h6⟩ := h
  exact ⟨a, b, c, e, h1, h2, h3, h4, h5, by omega⟩
/-- all but the jar stands as it stood -/
def Keep (j : Addr) (H H' : Hp) : Prop := ∀ x o, x ≠ j → H x = some o → H' x = some o
theorem Keep.refl (j : Addr) (H : Hp) : Keep j H H := fun _ _ _ h => h
theorem Keep.trans {j : Addr} {H H1 H2 : Hp} (a : Keep j H H1) (b : Keep j H1 H2) : Keep j H H2 := fun x o n h => b x o n (a x o n h)
theorem Keep.new {j p : Addr} {H : Hp} {o : HO} (h : H p = none) : Keep j H (upd H p o) := fun x u _ e => by
  rw [upd_ne (ne_of_none e h)]
  exact e
theorem Keep.put {j : Addr} {H : Hp} {o : HO} : Keep j H (upd H j o) := fun x u n e => by
  rw [upd_ne n]
  exact e
theorem Same.keep {j : Addr} {H H' : Hp} (h : Same H H') : Keep j H H' := fun x o _ e => h x o e
theorem same_upd {H : Hp} {p : Addr} {o : HO} (new : H p = none) : Same H (upd H p o) := fun b x e => by
  rw [upd_ne (ne_of_none e new)]
  exact e
structure Txt0 (mg : Str → Option Value) : Prop where
  int : mg "int" = none
  abs : mg "abs" = none
  len : mg "len" = none
section
variable {base : Heap} {P : Program} {w : World} {K : PySem.W.Frag} {mg : Str → Option Value}
/-! ### take -/
theorem log2_small {m : Int} (h : m.natAbs ≤ 10000) : m.natAbs.log2 < 9000 := by
  have h1 : m.natAbs.log2 ≤ m.natAbs := Nat.log2_le_self _
  by_cases z : m.natAbs = 0
  · rw [z]
    decide
  · have h2 := (Nat.log2_lt z (k := 14)).mpr (by omega)
    omega
theorem prime_at {i : Int} (h0 : 0 ≤ i) (h1 : i < 5) : ∃ v : Int, atI ([.int 2147483647, .int 2147483629, .int 2147483587, .int 2147483579, .int 2147483563] : List V) i = some (.int v) ∧ 0 < v ∧ v < 2 ^ 31 := by
  have : i = 0 ∨ i = 1 ∨ i = 2 ∨ i = 3 ∨ i = 4 := by omega
  rcases this with rfl | rfl | rfl | rfl | rfl
  · exact ⟨_, rfl, by decide, by decide⟩
  · exact ⟨_, rfl, by decide, by decide⟩
  · exact ⟨_, rfl, by decide, by decide⟩
  · exact ⟨_, rfl, by decide, by decide⟩
  · exact ⟨_, rfl, by decide, by decide⟩
def spTake : Sp := fun vs H Q _ => ∃ (j : Addr) (m : Int) (n : Nat), vs = [.ref j, .int m] ∧ Jar H j n ∧ n ≤ 10000 ∧ 1 ≤ m ∧ m ≤ 10000 ∧ ∀ (d : Int) (H' : Hp), 0 ≤ d → d < m → Jar H' j (n + 1) → Keep j H H' → Q (.int d) H'
theorem scTake : FnScope ["_law_jar_here", "_law_many", "_law_digit", "_law_prime", "_law_made"] ["_law_jar_here", "_law_many"] (defScope sTake) := ⟨rfl, rfl, rfl, by decide +kernel, rfl, by decide +kernel, by decide +kernel⟩
theorem ok_take {f : Addr} {fd : FuncData} (F : Fun K "_law_take" "_law_take" sTake f fd) (T : Txt0 mg) : FnOk P w K mg base CX0 1 f fd ["_law_jar_here", "_law_many"] spTake := by
  refine F.ok scTake (fun vs H Q E h => ?_) (fun cdv A outer s H vs Q E hr h => ?_)
  · obtain ⟨j, m, n, rfl, _⟩ := h
    rfl
  · obtain ⟨j, m, n, rfl, ⟨a, b, c, hj, ha, ha2, hb, hb2, hc, hc2⟩, hn, hm, hm2, k⟩ := h
    refine ⟨_, pss_cons (ps_if (pt_cmpR op_gt (pe_ix ix_list (pv 0) pe_int (fun _ _ => rfl)) pe_int (nomark _))
        (pss_cons (ps_set (i := 2) scTake.nd rfl (.inl rfl) (pe_op op_mod (pe_callTy call_int1 (by rfl) T.int (by decide +kernel) (pa_cons (pe_ix ix_list (pv 0) pe_int (fun _ _ => rfl)) pa_nil)) (pv 1)))
        (pss_cons (ps_asg (pe_op op_fdivW (pe_ix ix_list (pv 0) pe_int (fun _ _ => rfl)) (pv 1)) (pg_sub (pv 0) pe_int set_list))
        (pss_one (ps_ret (pv 2))))) pss_nil)
      (pss_cons (ps_asg (pe_op op_add (pe_ix ix_list (pv 0) pe_int (fun _ _ => rfl)) pe_int) (pg_sub (pv 0) pe_int set_list))
      (pss_cons (ps_set (i := 3) scTake.nd rfl (.inl rfl) (pe_ix ix_list (pe_lst (pa_cons pe_int (pa_cons pe_int (pa_cons pe_int (pa_cons pe_int (pa_cons pe_int pa_nil))))))
        (pe_op op_mod (pe_callTy call_int1 (by rfl) T.int (by decide +kernel) (pa_cons (pe_ix ix_list (pv 0) pe_int (fun _ _ => rfl)) pa_nil)) pe_int) (fun _ _ => rfl)))
      (pss_cons (ps_set (i := 4) scTake.nd rfl (.inl rfl) (pe_op op_mod (pe_callTy call_int1 (by rfl) T.int (by decide +kernel) (pa_cons
          (pe_op op_pow (pe_op op_add (pe_op op_add (pe_ix ix_list (pv 0) pe_int (fun _ _ => rfl)) (pe_op op_mul (pe_op op_mul pe_int (pe_ix ix_list (pv 0) pe_int (fun _ _ => rfl))) (pe_ix ix_list (pv 0) pe_int (fun _ _ => rfl)))) pe_int) pe_int) pa_nil)) (pv 3)))
      (pss_cons (ps_set (i := 4) scTake.nd rfl (.inl rfl) (pe_op op_mod (pe_callTy call_int1 (by rfl) T.int (by decide +kernel) (pa_cons
          (pe_op op_mul (pv 4) (pe_op op_add (pe_op op_mod (pe_callTy call_int1 (by rfl) T.int (by decide +kernel) (pa_cons (pv 4) pa_nil)) pe_int) (pe_op op_mul pe_int (pe_ix ix_list (pv 0) pe_int (fun _ _ => rfl))))) pa_nil)) pe_int))
      (pss_one (ps_ret (pe_op op_mod (pe_callTy call_int1 (by rfl) T.int (by decide +kernel) (pa_cons (pe_op op_fdiv (pv 4) pe_int) pa_nil)) (pv 1)))))))), ?_⟩
    refine ⟨_, rfl, j, _, _, .int a, rfl, rfl, SqL.of hj, rfl, a, 0, rfl, rfl, _, rfl, ?_⟩
    by_cases h0 : 0 < a
    · refine (show if decide (0 < a) = true then _ else _ from ?_)
      rw [if_pos (decide_eq_true h0)]
      refine ⟨_, rfl, j, _, _, .int a, rfl, rfl, SqL.of hj, rfl, .inl ⟨a, rfl, .int m, rfl, a, m, rfl, rfl, (by omega), ?_⟩⟩
      refine ⟨_, rfl, j, _, _, .int a, rfl, rfl, SqL.of hj, rfl, .int m, rfl, a, m, rfl, rfl, ⟨by omega, ?_⟩, ?_⟩
      · exact log2_small (by omega)
      · refine ⟨.ref j, rfl, j, _, _, _, rfl, rfl, hj, rfl, .int (a % m), rfl, ?_⟩
        have h1 : 0 ≤ a / m := Int.ediv_nonneg ha (by omega)
        have h2 : a / m ≤ a := Int.ediv_le_self _ ha
        exact k _ _ (Int.emod_nonneg _ (by omega)) (Int.emod_lt_of_pos _ (by omega)) ⟨a / m, b, c, upd_same, h1, Int.lt_of_le_of_lt h2 ha2, hb, hb2, hc, by omega⟩ Keep.put
    · refine (show if decide (0 < a) = true then _ else _ from ?_)
      (rw [if_neg (by simpa using h0)])
      refine ⟨_, rfl, j, _, _, .int c, rfl, rfl, SqL.of hj, rfl, c, 1, rfl, rfl, _, rfl, j, _, _, _, rfl, rfl, hj, rfl, ?_⟩
      refine ⟨(by show 5 ≤ sizeLine; decide), fun p hp => ?_⟩
      have npj : p ≠ j := fun e => by
        rw [e, upd_same] at hp
        cases hp
      have hj2 : ∀ o : HO, (upd (upd H j (.lst (([.int a, .int b, .int c] : List V).set 2 (.int (c + 1))))) p o) j = some (.lst [.int a, .int b, .int (c + 1)]) := fun o => by
        rw [upd_ne npj.symm, upd_same]
        rfl
      obtain ⟨v, hv, hv1, hv2⟩ := prime_at (i := (c + 1) % 5) (Int.emod_nonneg _ (by omega)) (Int.emod_lt_of_pos _ (by omega))
      refine ⟨_, rfl, j, _, _, .int (c + 1), rfl, rfl, SqL.of (hj2 _), rfl, .inl ⟨c + 1, rfl, c + 1, 5, rfl, rfl, (show (0 : Int) < 5 by decide), p, _, _, .int v, rfl, rfl, SqL.of upd_same, hv, ?_⟩⟩
      have e1 : (98893 * (c + 1) * (c + 1) : Int) ≤ 98893 * 10001 * 10001 := Int.mul_le_mul (by omega) (by omega) (by omega) (by omega)
      have e0 : (0 : Int) ≤ 98893 * (c + 1) * (c + 1) := Int.mul_nonneg (by omega) (by omega)
      refine ⟨_, rfl, j, _, _, .int b, rfl, rfl, SqL.of (hj2 _), rfl, _, rfl, j, _, _, .int (c + 1), rfl, rfl, SqL.of (hj2 _), rfl, 98893, c + 1, rfl, rfl, .inl ⟨by decide, by decide⟩, _, rfl, j, _, _, .int (c + 1), rfl, rfl, SqL.of (hj2 _), rfl, _, c + 1, rfl, rfl, .inr ⟨by omega, by omega⟩, b, _, rfl, rfl, _, 79, rfl, rfl, _, 3, rfl, rfl, ⟨by decide, by decide, ?_⟩, .inl ⟨_, rfl, _, rfl, _, v, rfl, rfl, (by omega), ?_⟩⟩
      · omega
      have g0 : 0 ≤ (b + 98893 * (c + 1) * (c + 1) + 79) ^ Int.toNat 3 % v := Int.emod_nonneg _ (by omega)
      have g1 : (b + 98893 * (c + 1) * (c + 1) + 79) ^ Int.toNat 3 % v < v := Int.emod_lt_of_pos _ (by omega)
      refine ⟨_, rfl, _, rfl, .inl ⟨_, rfl, _, 10009, rfl, rfl, (show (0 : Int) < 10009 by decide), _, rfl, j, _, _, .int (c + 1), rfl, rfl, SqL.of (hj2 _), rfl, 97, c + 1, rfl, rfl, .inl ⟨by decide, by decide⟩, _, _, rfl, rfl, _, _, rfl, rfl,
        .inl ⟨Int.lt_of_lt_of_le (by decide) g0, Int.lt_trans g1 (Int.lt_trans hv2 (by decide))⟩, .inl ⟨_, rfl, _, 2305843009213693907, rfl, rfl, (show (0 : Int) < 2305843009213693907 by decide), ?_⟩⟩⟩
      refine ⟨_, rfl, _, 89, rfl, rfl, ⟨by decide, by decide⟩, .inl ⟨_, rfl, .int m, rfl, _, m, rfl, rfl, (by omega), ?_⟩⟩
      refine k _ _ (Int.emod_nonneg _ (by omega)) (Int.emod_lt_of_pos _ (by omega)) ⟨a, b, c + 1, hj2 _, ha, ha2, hb, hb2, by omega, by omega⟩ (Keep.put.trans (Keep.new hp))
/-! ### a def as its callers know it -/
def Has (P : Program) (w : World) (K : PySem.W.Frag) (mg : Str → Option Value) (base : Heap) (nm : Str) (k : Nat) (ps : List Str) (sp : Sp) : Prop :=
  ∃ (f : Addr) (fd : FuncData), FnOk P w K mg base CX0 k f fd ps sp ∧ mg nm = some (.ref f) ∧ PySem.W.keepIn K (.ref f) = true ∧ Binds K fd ps []
theorem pe_has {X : Cx} {nm : Str} {k : Nat} {ps : List Str} {sp : Sp} {e : Expr} {es : List Expr} {t : TA} {p pos : Pos} (h : Has X.prog X.w X.K X.mg X.base nm k ps sp) (hr : Room k X.A) (ha : PA X (e :: es) t) (hg : Gl X nm := by rfl)
    (hdb : (nm == ("__debug__" : Str)) = false := by decide) (he : starEach (e :: es) X.env = (false, eval e X.env) :: starEach es X.env := by rfl) (hpl : (backTo pos (starEach es X.env)).any (·.1) = false := by rfl) :
    PE X (.Call (.Name nm p) (e :: es) [] pos) (tCall sp [] E0 t) := by
  obtain ⟨f, fd, F, hm, hk, hb⟩ := h
  exact pe_call F hr hg hm hk hb .nil pass0 ha hdb he hpl
theorem Keep.seq {K : PySem.W.Frag} {j p : Addr} {H H' : Hp} {xs : List V} (h : Keep j H H') (n : p ≠ j) (q : SqL K H p xs) : SqL K H' p xs := by
  rcases q with (q | ⟨o, q⟩) | q
  · exact .inl (.inl (h _ _ n q))
  · exact .inl (.inr ⟨o, h _ _ n q⟩)
  · exact .inr q
theorem atI_in {α : Type} {xs : List α} {i : Int} (h0 : 0 ≤ i) (h1 : i < xs.length) : ∃ v, atI xs i = some v ∧ v ∈ xs := by
  (obtain ⟨n, rfl⟩ := Int.eq_ofNat_of_zero_le h0)
  have hn : n < xs.length := by omega
  exact ⟨xs[n], atI_nat (List.getElem?_eq_getElem hn), List.getElem_mem hn⟩
/-! ### of -/
def spOf (K : PySem.W.Frag) : Sp := fun vs H Q _ => ∃ (j : Addr) (n : Nat) (x : V), vs = [.ref j, x] ∧ Jar H j n ∧ n ≤ 9000 ∧
  ((∃ (p : Addr) (xs : List V), x = .ref p ∧ p ≠ j ∧ SqL K H p xs ∧ 1 ≤ xs.length ∧ xs.length ≤ 1000 ∧ ∀ (y : V) (H' : Hp), y ∈ xs → Jar H' j (n + 1) → Keep j H H' → Q y H') ∨
   (∃ z : Str, x = .str z ∧ 1 ≤ z.length ∧ z.length ≤ 1000 ∧ ∀ (c : Nat) (H' : Hp), c ∈ z.cps.toList → Jar H' j (n + 1) → Keep j H H' → Q (.str ⟨#[c]⟩) H'))
theorem scOf : FnScope ["_law_jar_here", "_law_some"] ["_law_jar_here", "_law_some"] (defScope sOf) := ⟨rfl, rfl, rfl, by decide +kernel, rfl, by decide +kernel, by decide +kernel⟩
theorem ok_of {f : Addr} {fd : FuncData} (F : Fun K "_law_of" "_law_of" sOf f fd) (T : Txt0 mg) (G : Has P w K mg base "_law_take" 1 ["_law_jar_here", "_law_many"] spTake) : FnOk P w K mg base CX0 2 f fd ["_law_jar_here", "_law_some"] (spOf K) := by
  refine F.ok scOf (fun vs H Q E h => ?_) (fun cdv A outer s H vs Q E hr h => ?_)
  · obtain ⟨j, n, x, rfl, _⟩ := h
    rfl
  · obtain ⟨j, n, x, rfl, hj, hn, h⟩ := h
    refine ⟨_, pss_one (ps_ret (pe_ix (IxR.or ix_list ix_str) (pv 1) (pe_has G hr (pa_cons (pv 0) (pa_cons (pe_callB (CallR.or call_len_seq call_len_str) (by rfl) T.len PySem.boot_len (pa_cons (pv 1) pa_nil)) pa_nil))) (fun _ _ => rfl))), ?_⟩
    rcases h with ⟨p, xs, rfl, np, hp, l1, l2, k⟩ | ⟨z, rfl, l1, l2, k⟩
    · refine ⟨_, rfl, _, rfl, _, rfl, .inl ⟨p, xs, rfl, .inl hp, j, _, n, rfl, hj, by omega, by omega, by omega, fun d H' h0 h1 hj' kp => ?_⟩⟩
      obtain ⟨v, hv, hm⟩ := atI_in h0 h1
      exact .inl ⟨p, xs, d, v, rfl, rfl, kp.seq np hp, hv, k v H' hm hj' kp⟩
    · refine ⟨_, rfl, _, rfl, _, rfl, .inr ⟨z, rfl, Nat.le_trans l2 (by decide), j, _, n, rfl, hj, by omega, by omega, by omega, fun d H' h0 h1 hj' kp => ?_⟩⟩
      have hz : z.cps.toList.length = z.length := by
        show z.cps.toList.length = z.cps.size
        simp
      obtain ⟨v, hv, hm⟩ := atI_in (xs := z.cps.toList) h0 (by rw [hz]; exact h1)
      exact .inr ⟨z, d, v, rfl, rfl, Nat.le_trans l2 (by decide), hv, k v H' hm hj' kp⟩
/-! ### jar -/
theorem bit_ok (b : Bool) : -(2 ^ 64) < (if b = true then (1 : Int) else 0) ∧ (if b = true then (1 : Int) else 0) < 2 ^ 64 := by
  cases b <;> decide
theorem mine_ok (x : Int) (b : Bool) : 0 ≤ x % (10 ^ Int.toNat 60) ^ Int.toNat 5 * (if b = true then (1 : Int) else 0) ∧ x % (10 ^ Int.toNat 60) ^ Int.toNat 5 * (if b = true then (1 : Int) else 0) < 2 ^ 1000 := by
  have pp : (0 : Int) < (10 ^ Int.toNat 60) ^ Int.toNat 5 := by decide +kernel
  have p2 : ((10 ^ Int.toNat 60) ^ Int.toNat 5 : Int) < 2 ^ 1000 := by decide +kernel
  have h0 := Int.emod_nonneg x (Int.ne_of_gt pp)
  have h1 := Int.emod_lt_of_pos x pp
  cases b
  · rw [if_neg Bool.false_ne_true, Int.mul_zero]
    exact ⟨Int.le_refl _, by decide +kernel⟩
  · rw [if_pos rfl, Int.mul_one]
    exact ⟨h0, Int.lt_trans h1 p2⟩
def CPowW (i j : Int) : Prop := 0 ≤ j ∧ (Builtin.Int.intBits i : Int) * j ≤ 2 ^ 27
theorem op_powW {X : Cx} : OpR X (binaryOp .Pow) (rI CPowW fun i j => .int (i ^ j.toNat)) := opI fun _ _ _ _ _ _ _ hc q => PyProof.Rows.pow_int hc.1 hc.2 q
def spJar (K : PySem.W.Frag) : Sp := fun vs H Q _ => ∃ (a : Addr) (ns : List Int) (k : Int), vs = [.ref a, .int k] ∧ SqL K H a (ns.map V.int) ∧ 0 ≤ k ∧ k ≤ 100 ∧ ∀ (p : Addr) (H' : Hp), H p = none → Same H H' → Jar H' p 0 → Q (.ref p) H'
theorem scJar : FnScope ["_law_script", "_law_k", "_law_cell", "_law_mine"] ["_law_script", "_law_k"] (defScope sJar) := ⟨rfl, rfl, rfl, by decide +kernel, rfl, by decide +kernel, by decide +kernel⟩
theorem ok_jar {f : Addr} {fd : FuncData} (F : Fun K "_law_jar" "_law_jar" sJar f fd) (T : Txt0 mg) : FnOk P w K mg base CX0 1 f fd ["_law_script", "_law_k"] (spJar K) := by
  refine F.ok scJar (fun vs H Q E h => ?_) (fun cdv A outer s H vs Q E hr h => ?_)
  · (obtain ⟨a, ns, k, rfl, _⟩ := h)
    rfl
  · obtain ⟨a, ns, k, rfl, hS, k0, k2, q⟩ := h
    refine ⟨_, pss_cons (ps_set (i := 2) scJar.nd rfl (.inl rfl) (pe_ifExp (pt_cmpR op_lt (pv 1) (pe_callB call_len_seq (by rfl) T.len PySem.boot_len (pa_cons (pv 0) pa_nil)) (nomark _)) (pe_ix ix_list (pv 0) (pv 1) (fun _ _ => rfl)) (pe_op op_add (pe_op op_mul pe_int (pv 1)) pe_int)))
      (pss_cons (ps_set (i := 3) scJar.nd rfl (.inl rfl) (pe_op op_mul (pe_op op_mod (pe_callTy call_int1 (by rfl) T.int (by decide +kernel) (pa_cons (pe_callB call_abs (by rfl) T.abs (by decide +kernel) (pa_cons (pv 2) pa_nil)) pa_nil)) (pe_op op_powW (pe_op op_pow pe_int pe_int) pe_int))
        (pe_callTy call_int1 (by rfl) T.int (by decide +kernel) (pa_cons (pe_cmpR op_ge (pe_callB call_abs (by rfl) T.abs (by decide +kernel) (pa_cons (pv 2) pa_nil)) (pe_op op_pow pe_int pe_int) (nomark _)) pa_nil))))
      (pss_one (ps_ret (pe_lst (pa_cons (pv 3) (pa_cons (pe_op op_mod (pe_callTy call_int1 (by rfl) T.int (by decide +kernel) (pa_cons (pe_op op_add (pe_op op_add (pe_op op_mul (pe_op op_mod (pe_callTy call_int1 (by rfl) T.int (by decide +kernel) (pa_cons (pv 2) pa_nil)) pe_int) pe_int)
        (pe_op op_mul (pe_op op_mul pe_int (pv 1)) (pv 1))) pe_int) pa_nil)) pe_int) (pa_cons pe_int pa_nil))))))), ?_⟩
    refine ⟨_, rfl, _, rfl, a, _, rfl, .inl hS, k, _, rfl, rfl, _, rfl, ?_⟩
    have pp : (0 : Int) < (10 ^ Int.toNat 60) ^ Int.toNat 5 := by decide +kernel
    have pw : CPowW (10 ^ Int.toNat 60) 5 := ⟨by decide, by decide +kernel⟩
    have p18 : CPow 10 18 := ⟨by decide, by decide, by decide⟩
    have p60 : CPow 10 60 := ⟨by decide, by decide, by decide⟩
    refine ite2 (fun hk => ?_) (fun hk => ?_)
    · have hk := of_decide_eq_true hk
      obtain ⟨v, hv, hm⟩ := atI_in k0 hk
      obtain ⟨c, _, rfl⟩ := List.mem_map.mp hm
      refine ⟨_, rfl, _, rfl, a, _, k, _, rfl, rfl, hS, hv, ?_⟩
      refine ⟨_, rfl, _, rfl, .inl ⟨_, rfl, 10, 60, rfl, rfl, p60, _, 5, rfl, rfl, pw, _, _, rfl, rfl, pp, _, rfl, _, rfl, 10, 18, rfl, rfl, p18, _, _, rfl, rfl, .inr ⟨_, rfl, _, _, rfl, rfl, .inr ?_, ?_⟩⟩⟩
      · exact bit_ok _
      refine ⟨_, rfl, _, rfl, .inl ⟨_, rfl, _, 2305843009213693951, rfl, rfl, (show (0 : Int) < 2305843009213693951 by decide), _, 71993, rfl, rfl, .inr ⟨by decide, by decide⟩, _, rfl, 8237, k, rfl, rfl, .inl ⟨by decide, by decide⟩, _, rfl, _, k, rfl, rfl, .inr ⟨by omega, by omega⟩, _, _, rfl, rfl, _, 61, rfl, rfl,
        .inl ⟨_, rfl, _, 2305843009213693921, rfl, rfl, (show (0 : Int) < 2305843009213693921 by decide), (by show 3 ≤ sizeLine; decide), fun p hp => ?_⟩⟩⟩
      exact q p _ hp (same_upd hp) ⟨_, _, 0, upd_same, (mine_ok _ _).1, (mine_ok _ _).2, Int.emod_nonneg _ (by decide), Int.lt_trans (Int.emod_lt_of_pos _ (by decide)) (by decide), by decide, by decide⟩
    · refine ⟨_, rfl, 41, k, rfl, rfl, .inl ⟨by decide, by decide⟩, _, 23, rfl, rfl, ?_⟩
      refine ⟨_, rfl, _, rfl, .inl ⟨_, rfl, 10, 60, rfl, rfl, p60, _, 5, rfl, rfl, pw, _, _, rfl, rfl, pp, _, rfl, _, rfl, 10, 18, rfl, rfl, p18, _, _, rfl, rfl, .inr ⟨_, rfl, _, _, rfl, rfl, .inr ?_, ?_⟩⟩⟩
      · exact bit_ok _
      refine ⟨_, rfl, _, rfl, .inl ⟨_, rfl, _, 2305843009213693951, rfl, rfl, (show (0 : Int) < 2305843009213693951 by decide), _, 71993, rfl, rfl, .inr ⟨by decide, by decide⟩, _, rfl, 8237, k, rfl, rfl, .inl ⟨by decide, by decide⟩, _, rfl, _, k, rfl, rfl, .inr ⟨by omega, by omega⟩, _, _, rfl, rfl, _, 61, rfl, rfl,
        .inl ⟨_, rfl, _, 2305843009213693921, rfl, rfl, (show (0 : Int) < 2305843009213693921 by decide), (by show 3 ≤ sizeLine; decide), fun p hp => ?_⟩⟩⟩
      exact q p _ hp (same_upd hp) ⟨_, _, 0, upd_same, (mine_ok _ _).1, (mine_ok _ _).2, Int.emod_nonneg _ (by decide), Int.lt_trans (Int.emod_lt_of_pos _ (by decide)) (by decide), by decide, by decide⟩
end
end K08

set_option Elab.async false
set_option linter.all false
namespace K08
open PySem L2
abbrev sNames : Stmt := top 19
/-! ### words of drawn names -/
/-- a text's codes -/
abbrev tx (x : Str) : List Nat := x.cps.toList
def Low (c : Nat) : Prop := 97 ≤ c ∧ c ≤ 122
structure IsNm (w : Str) : Prop where
  pos : 1 ≤ w.length
  len : w.length ≤ 8
  low : ∀ c ∈ tx w, Low c
def abc : Str := PySem.Str.ofString "abcdefghijklmnopqrstuvwxyz"
theorem abc_len : abc.length = 26 := by decide +kernel
theorem abc_low : ∀ c ∈ abc.cps.toList, Low c := by
  have h : abc.cps.toList.all (fun c => decide (97 ≤ c) && decide (c ≤ 122)) = true := by decide +kernel
  intro c hc
  have := List.all_eq_true.mp h c hc
  simpa [Low] using this
theorem abc_at {i : Int} (h0 : 0 ≤ i) (h1 : i < 26) : atI abc.cps.toList i = some (97 + i.toNat) := by
  (obtain ⟨n, rfl⟩ := Int.eq_ofNat_of_zero_le h0)
  have hn : n < 26 := by omega
  have h : ∀ n : Nat, n < 26 → atI abc.cps.toList (n : Int) = some (97 + (n : Int).toNat) := by decide +kernel
  exact h n hn
def nmk (st : List Nat) (sp at_ k : Nat) : Str := ⟨(st.take sp ++ [97 + (at_ + 3 * k) % 26] ++ st.drop sp).toArray⟩
theorem nmk_inj {st : List Nat} {sp at_ k k' : Nat} (hs : sp ≤ st.length) (h : k < 4) (h' : k' < 4) (e : nmk st sp at_ k = nmk st sp at_ k') : k = k' := by
  have e1 : st.take sp ++ [97 + (at_ + 3 * k) % 26] ++ st.drop sp = st.take sp ++ [97 + (at_ + 3 * k') % 26] ++ st.drop sp := by
    have := congrArg (fun z : Str => z.cps.toList) e
    simpa [nmk] using this
  rw [List.append_assoc, List.append_assoc] at e1
  have e2 := List.append_cancel_left e1
  have e3 : 97 + (at_ + 3 * k) % 26 = 97 + (at_ + 3 * k') % 26 := (List.cons.inj e2).1
  omega
theorem nmk_is {st : List Nat} {sp at_ k : Nat} (hs : sp ≤ st.length) (hl : st.length ≤ 7) (low : ∀ c ∈ st, Low c) : IsNm (nmk st sp at_ k) := by
  have len : (nmk st sp at_ k).length = st.length + 1 := by
    show (List.toArray _).size = _
    simp only [List.size_toArray, List.length_append, List.length_take, List.length_drop, List.length_cons, List.length_nil]
    omega
  refine ⟨by omega, by omega, fun c hc => ?_⟩
  have hc' : c ∈ st.take sp ++ [97 + (at_ + 3 * k) % 26] ++ st.drop sp := by simpa [nmk, tx] using hc
  rcases List.mem_append.mp hc' with h | h
  · (rcases List.mem_append.mp h with h | h)
    · exact low c (List.mem_of_mem_take h)
    · have := List.mem_singleton.mp h
      subst this
      have := Nat.mod_lt (at_ + 3 * k) (by decide : 0 < 26)
      exact ⟨by omega, by omega⟩
  · exact low c (List.mem_of_mem_drop h)
theorem nm_eq {acc : List Nat} {sp at_ i : Nat} (hs : sp ≤ acc.length) :
    cutS ⟨acc.toArray⟩ none (some (sp : Int)) ++ (⟨#[97 + (((at_ : Int) + 3 * (0 + (i : Int))) % 26).toNat]⟩ : Str) ++ cutS ⟨acc.toArray⟩ (some (sp : Int)) none = nmk acc sp at_ i := by
  refine TL.ext_tl ?_
  rw [TL.tl_append, TL.tl_append]
  have hz : Str.length ⟨acc.toArray⟩ = acc.length := by
    show acc.toArray.size = _
    simp
  have e1 : TL.tl (cutS ⟨acc.toArray⟩ none (some (sp : Int))) = acc.take sp := by
    unfold cutS
    rw [TL.tl_mk, hz, HT.sIx_none, HT.sIx_nat]
    show (acc.drop 0).take (min sp acc.length - 0) = _
    rw [List.drop_zero, Nat.sub_zero, Nat.min_eq_left hs]
  have e2 : TL.tl (cutS ⟨acc.toArray⟩ (some (sp : Int)) none) = acc.drop sp := by
    unfold cutS
    rw [TL.tl_mk, hz, HT.sIx_none, HT.sIx_nat]
    show (acc.drop (min sp acc.length)).take (acc.length - min sp acc.length) = _
    rw [Nat.min_eq_left hs]
    (exact List.take_of_length_le (by rw [List.length_drop]; omega))
  rw [e1, e2]
  have e3 : (((at_ : Int) + 3 * (0 + (i : Int))) % 26).toNat = (at_ + 3 * i) % 26 := by omega
  rw [e3]
  rfl
theorem nmks_nodup {st : List Nat} {sp at_ m : Nat} (hs : sp ≤ st.length) (hm : m ≤ 4) : ((List.range m).map (nmk st sp at_)).Nodup := by
  rw [List.Nodup, List.pairwise_map]
  refine List.Pairwise.imp_of_mem ?_ List.pairwise_lt_range
  intro a b ha hb hlt e
  have h1 := List.mem_range.mp ha
  have h2 := List.mem_range.mp hb
  have := nmk_inj hs (by omega) (by omega) e
  omega
theorem Keep.upd_new {j D : Addr} {H1 H : Hp} {o : HO} (h : Keep j H1 H) (hn : H1 D = none) : Keep j H1 (upd H D o) := fun x u nx e => by
  rw [upd_ne (ne_of_none e hn)]
  exact h x u nx e
theorem Jar.upd {j D : Addr} {H : Hp} {n : Nat} {o : HO} (h : Jar H j n) (hn : D ≠ j) : Jar (upd H D o) j n := by
  obtain ⟨a, b, c, e, r⟩ := h
  exact ⟨a, b, c, by rw [upd_ne (Ne.symm hn)]; exact e, r⟩
theorem Jar.ne {j D : Addr} {H : Hp} {n : Nat} (h : Jar H j n) (hn : H D = none) : D ≠ j := fun e => by
  obtain ⟨a, b, c, q, r⟩ := h
  rw [e, q] at hn
  cases hn
theorem Keep.free {j D : Addr} {H H1 : Hp} (h : Keep j H H1) (hn : H1 D = none) (nj : D ≠ j) : H D = none := by
  cases e : H D with
  | none => rfl
  | some o =>
    rw [h D o nj e] at hn
    cases hn
def chr1 (c : Nat) : Str := ⟨#[c]⟩
theorem join_chars (acc : List Nat) : Txt.join (PySem.Str.ofString "") (acc.map chr1) = ⟨acc.toArray⟩ := by
  have e0 : (PySem.Str.ofString "").cps.toList = [] := by decide +kernel
  have h : (Txt.join (PySem.Str.ofString "") (acc.map chr1)).cps.toList = acc := by
    rw [TL.join_eq]
    show TL.tl _ = acc
    rw [TL.tl_join]
    show TL.joinL (PySem.Str.ofString "").cps.toList _ = acc
    rw [e0]
    induction acc with
    | nil => rfl
    | cons a l ih =>
      cases l with
      | nil => rfl
      | cons b r =>
        show [a] ++ ([] ++ TL.joinL [] (List.map TL.tl (List.map chr1 (b :: r)))) = a :: b :: r
        rw [ih]
        rfl
  cases hj : Txt.join (PySem.Str.ofString "") (acc.map chr1) with
  | mk cps =>
    rw [hj] at h
    have h' : cps.toList = acc := h
    rw [← h']
structure Txt1 (mg : Str → Option Value) : Prop extends Txt0 mg where
  range : mg "range" = none
section
variable {base : Heap} {P : Program} {w : World} {K : PySem.W.Frag} {mg : Str → Option Value}
abbrev jarOf (P : Program) (w : World) (K : PySem.W.Frag) (mg : Str → Option Value) (base : Heap) : Prop := Has P w K mg base "_law_of" 2 ["_law_jar_here", "_law_some"] (spOf K)
abbrev jarTake (P : Program) (w : World) (K : PySem.W.Frag) (mg : Str → Option Value) (base : Heap) : Prop := Has P w K mg base "_law_take" 1 ["_law_jar_here", "_law_many"] spTake
def spNames : Sp := fun vs H Q _ => ∃ (j : Addr) (n m : Nat), vs = [.ref j, .int m] ∧ Jar H j n ∧ n ≤ 8000 ∧ m ≤ 4 ∧
  ∀ (p : Addr) (H' : Hp) (ws : List Str), ws.length = m → ws.Nodup → (∀ x ∈ ws, IsNm x) → Jar H' j (n + 10) → Keep j H H' → H p = none → H' p = some (.lst (ws.map V.str)) → Q (.ref p) H'
abbrev nNames : List Str := ["_law_jar_here", "_law_many", "_law_small", "_law_stem", "_law_spot", "_law_at", "_law_turn", "_law_k"]
theorem scNames : FnScope nNames ["_law_jar_here", "_law_many"] (defScope sNames) := ⟨rfl, rfl, rfl, by decide +kernel, rfl, by decide +kernel, by decide +kernel⟩
theorem ok_names {f : Addr} {fd : FuncData} (F : Fun K "_law_names" "_law_names" sNames f fd) (T : Txt1 mg) (G : jarTake P w K mg base) (GO : jarOf P w K mg base) : FnOk P w K mg base CX0 3 f fd ["_law_jar_here", "_law_many"] spNames := by
  refine F.ok scNames (fun vs H Q E h => ?_) (fun cdv A outer s H vs Q E hr h => ?_)
  · obtain ⟨j, n, m, rfl, _⟩ := h
    rfl
  · obtain ⟨j, n, m, rfl, hj, hn, hm, k⟩ := h
    have hr1 : Room 1 _ := (hr.mono (by decide))
    refine ⟨_, pss_cons (ps_set (i := 2) scNames.nd rfl (.inr rfl) pe_str)
      (pss_cons (ps_set (i := 3) scNames.nd rfl (.inr rfl) (pe_join pe_str (pe_lc (own := [("_law_turn", 6)]) (g := gName 6) (tt := tYes) rfl scNames.nd
          (pi_range1 (by rfl) T.range (pa_cons (pe_has GO hr (pa_cons (pv 0) (pa_cons (pe_lst (pa_cons pe_int (pa_cons pe_int (pa_cons pe_int (pa_cons pe_int (pa_cons pe_int pa_nil)))))) pa_nil))) pa_nil))
          (blkOk_by (N := nNames) (sc := defScope sNames) (by decide +kernel)) (fun _ _ _ _ _ => pg_name (i := 6) scNames.nd rfl (Or.inl rfl)) (fun _ _ _ _ _ => pts_nil)
          (fun _ _ _ _ _ => pe_has GO hr (pa_cons (pv 0) (pa_cons (pv 2) pa_nil))))))
      (pss_cons (ps_asg (pe_tup (pa_cons (pe_has G hr1 (pa_cons (pv 0) (pa_cons (pe_op op_add (pe_callB call_len_str (by rfl) T.len PySem.boot_len (pa_cons (pv 3) pa_nil)) pe_int) pa_nil))) (pa_cons (pe_has G hr1 (pa_cons (pv 0) (pa_cons pe_int pa_nil))) pa_nil)))
          (pg_tup rfl (pgs_cons (pg_name (i := 4) scNames.nd rfl (Or.inr rfl)) (pgs_cons (pg_name (i := 5) scNames.nd rfl (Or.inr rfl)) pgs_nil))))
      (pss_one (ps_ret (pe_lc (own := [("_law_k", 7)]) (g := gName 7) (tt := tYes) rfl scNames.nd (pi_range1 (by rfl) T.range (pa_cons (pv 1) pa_nil))
          (blkOk_by (N := nNames) (sc := defScope sNames) (by decide +kernel)) (fun _ _ _ _ _ => pg_name (i := 7) scNames.nd rfl (Or.inl rfl)) (fun _ _ _ _ _ => pts_nil)
          (fun _ _ _ _ _ => pe_op op_add_str (pe_op op_add_str (pe_slice sl_str (pv 3) po_none (po_some (pv 4)))
            (pe_ix ix_str (pv 2) (pe_op op_mod (pe_callTy call_int1 (by rfl) T.int (by decide +kernel) (pa_cons (pe_op op_add (pv 5) (pe_op op_mul pe_int (pv 7))) pa_nil)) pe_int) (fun _ _ => rfl)))
            (pe_slice sl_str (pv 3) (po_some (pv 4)) po_none))))))), ?_⟩
    refine ⟨⟨_, rfl⟩, .ref j, rfl, (by show 5 ≤ sizeLine; decide), fun p0 hp0 => ?_⟩
    have n0 : p0 ≠ j := hj.ne hp0
    refine ⟨j, n, .ref p0, rfl, hj.upd n0, by omega, .inl ⟨p0, _, rfl, n0, SqL.of upd_same, by decide, by decide, fun y H1 hy hj1 kp1 => ?_⟩⟩
    obtain ⟨r, rfl, hr7⟩ : ∃ r : Nat, y = .int (r : Int) ∧ r ≤ 7 := by
      simp only [List.mem_cons, List.not_mem_nil, or_false] at hy
      rcases hy with rfl | rfl | rfl | rfl | rfl
      · exact ⟨0, rfl, by decide⟩
      · exact ⟨0, rfl, by decide⟩
      · exact ⟨1, rfl, by decide⟩
      · exact ⟨3, rfl, by decide⟩
      · exact ⟨7, rfl, by decide⟩
    have kp1' : Keep j H H1 := (Keep.new hp0).trans kp1
    refine ⟨_, rfl, by omega, by omega, fun D nD => ?_⟩
    have nDj : D ≠ j := hj1.ne nD
    have fD : H D = none := kp1'.free nD nDj
    refine lc_range (lo := 0) (n := ((r : Nat) : Int).toNat) (fun i H2 => ∃ acc : List Nat, acc.length = i ∧ (∀ c ∈ acc, Low c) ∧ H2 D = some (.lst ((acc.map chr1).map V.str)) ∧ Jar H2 j (n + 1 + i) ∧ Keep j H H2)
      ⟨[], rfl, (fun c hc => (List.not_mem_nil hc).elim), upd_same, hj1.upd nDj, kp1'.upd_new fD⟩ ?_ ?_
    · rintro i H2 hi ⟨acc, la, lo, hD, hj2, kp2⟩
      refine ⟨rfl, _, rfl, .str abc, rfl, j, _, .str abc, rfl, hj2, by omega, .inr ⟨abc, rfl, (by rw [abc_len]; decide), (by rw [abc_len]; decide), fun c H3 hc hj3 kp3 => ?_⟩⟩
      refine ⟨_, kp3 _ _ nDj hD, ?_, acc ++ [c], by simp [la], fun x hx => ?_, ?_, (hj3.upd nDj).mono (by omega), (kp2.trans kp3).upd_new fD⟩
      · rw [List.length_map, List.length_map, la]
        exact small1000 (by omega)
      · rcases List.mem_append.mp hx with h | h
        · exact lo x h
        · have := List.mem_singleton.mp h
          subst this
          exact abc_low _ hc
      · rw [upd_same, List.map_append, List.map_append]
        rfl
    · rintro H2 ⟨acc, la, lo, hD, hj2, kp2⟩
      have la7 : acc.length ≤ 7 := by omega
      refine ⟨_, D, acc.map chr1, rfl, rfl, .inl (SqL.of hD), ?_, ?_⟩
      · have : ((acc.map chr1).map (·.length)).sum = acc.length := by
          clear la la7 hD lo
          induction acc with
          | nil => rfl
          | cons a l ih =>
            rw [List.map_cons, List.map_cons, List.sum_cons, ih, List.length_cons]
            show 1 + l.length = l.length + 1
            omega
        rw [this, List.length_map]
        show acc.length + acc.length * 0 ≤ 16777216
        omega
      have ej : Txt.join (PySem.Str.ofString "") (acc.map chr1) = ⟨acc.toArray⟩ := join_chars acc
      have ls : (Txt.join (PySem.Str.ofString "") (acc.map chr1)).length = acc.length := by
        rw [ej]
        show acc.toArray.size = _
        simp
      refine ⟨.ref j, rfl, _, rfl, _, rfl, (by rw [ls]; exact Nat.le_trans la7 (by decide)), _, 1, rfl, rfl, j, _, _, rfl, hj2, by omega, by omega, by rw [ls]; omega, fun d H3 d0 d1 hj3 kp3 => ?_⟩
      refine ⟨.ref j, rfl, j, 26, _, rfl, hj3, by omega, by decide, by decide, fun e H4 e0 e1 hj4 kp4 => ?_⟩
      refine ⟨(by show 2 ≤ sizeLine; decide), fun q hq => ?_⟩
      have nqj := hj4.ne hq
      refine ⟨q, _, rfl, SqT.of upd_same, rfl, _, _, rfl, _, _, rfl, rfl, ?_⟩
      have kp4' : Keep j H H4 := (kp2.trans kp3).trans kp4
      have fq : H q = none := kp4'.free hq nqj
      refine ⟨_, rfl, m, rfl, by omega, by omega, fun D2 nD2 => ?_⟩
      have hj5 : Jar (upd H4 q (.tup [.int d, .int e])) j (n + 10) := (hj4.upd nqj).mono (by omega)
      have kp5 : Keep j H (upd H4 q (.tup [.int d, .int e])) := kp4'.upd_new fq
      have nD2j := hj5.ne nD2
      have fD2 := kp5.free nD2 nD2j
      obtain ⟨sp, rfl⟩ := Int.eq_ofNat_of_zero_le d0
      obtain ⟨at_, rfl⟩ := Int.eq_ofNat_of_zero_le e0
      rw [ls] at d1
      refine lc_range (lo := 0) (n := ((m : Nat) : Int).toNat) (fun i H5 => H5 D2 = some (.lst (((List.range i).map (nmk acc sp at_)).map V.str)) ∧ Jar H5 j (n + 10) ∧ Keep j H H5)
        ⟨upd_same, hj5.upd nD2j, kp5.upd_new fD2⟩ ?_ ?_
      · rintro i H5 hi ⟨hD2, hj6, kp6⟩
        have sz : (Txt.join (PySem.Str.ofString "") (acc.map chr1)).length ≤ sizeLine := by
          rw [ls]
          exact Nat.le_trans la7 (by decide)
        refine ⟨rfl, _, rfl, _, rfl, _, rfl, _, rfl, sz, .str abc, rfl, _, rfl, _, rfl, 3, _, rfl, rfl, .inl ⟨by decide, by decide⟩, _, _, rfl, rfl, .inl ⟨_, rfl, _, 26, rfl, rfl, (show (0 : Int) < 26 by decide), abc, _, _, rfl, rfl, (by rw [abc_len]; decide), abc_at (Int.emod_nonneg _ (by decide)) (Int.emod_lt_of_pos _ (by decide)), ?_⟩⟩
        refine ⟨_, _, rfl, rfl, ?_, _, rfl, _, rfl, _, rfl, _, rfl, sz, _, _, rfl, rfl, ?_, _, hD2, ?_, ?_, hj6.upd nD2j, kp6.upd_new fD2⟩
        · have h1 := cutS_length (Txt.join (PySem.Str.ofString "") (acc.map chr1)) none (some (sp : Int))
          rw [ls] at h1
          show _ + 1 ≤ sizeLine
          exact Nat.le_of_lt (small1000 (by omega))
        · have h1 := cutS_length (Txt.join (PySem.Str.ofString "") (acc.map chr1)) none (some (sp : Int))
          have h2 := cutS_length (Txt.join (PySem.Str.ofString "") (acc.map chr1)) (some (sp : Int)) none
          rw [ls] at h1 h2
          rw [Str.length_append]
          show _ + 1 + _ ≤ sizeLine
          exact Nat.le_of_lt (small1000 (by omega))
        · rw [List.length_map, List.length_map, List.length_range]
          exact small1000 (by omega)
        · rw [upd_same, List.range_succ, List.map_append, List.map_append, ej]
          have := nm_eq (acc := acc) (sp := sp) (at_ := at_) (i := i) (by omega)
          rw [this]
          rfl
      · rintro H5 ⟨hD2, hj6, kp6⟩
        refine k D2 H5 _ ?_ (nmks_nodup (st := acc) (sp := sp) (at_ := at_) (m := m) (by omega) (by omega)) ?_ hj6 kp6 fD2 hD2
        · (rw [List.length_map, List.length_range])
        · intro x hx
          obtain ⟨i, _, rfl⟩ := List.mem_map.mp hx
          exact nmk_is (by omega) la7 lo
end
end K08

set_option Elab.async false
set_option linter.all false
namespace K08
open L2 PySem PySem.Spec PyProof.Rows
/-! ### an exception that is kept under a name behind its suite -/
/-- at a: an exception object of the class cls, its own dict d -/
def ExV (cls : Value) (d : Option Addr) (a : Addr) : HO := .ext fun h => ∃ (oe : Obj) (vs : Array Value), h.get? a = some oe ∧ Zc cls d oe ∧ oe.data = .fields vs
theorem exV_ok {P : Program} {w : World} {H : Hp} {h : Heap} {a : Addr} {cls : Value} {d : Option Addr} {oe : Obj} {vs : Array Value} (e : h.get? a = some oe) (z : Zc cls d oe) (q : oe.data = .fields vs) : ObjOk P w H h a (ExV cls d a) :=
  ⟨⟨oe, vs, e, z, q⟩, ⟨oe, e⟩, fun _ _ ⟨oe', vs', e', r⟩ k => ⟨oe', vs', k _ e', r⟩⟩
theorem exV_at {P : Program} {w : World} {H : Hp} {h : Heap} {a : Addr} {cls : Value} {d : Option Addr} (hok : HOk P w H h) (e : H a = some (ExV cls d a)) : ∃ (oe : Obj) (vs : Array Value), h.get? a = some oe ∧ Zc cls d oe ∧ oe.data = .fields vs := by
  have x : ObjOk P w H h a (.ext fun h => ∃ (oe : Obj) (vs : Array Value), h.get? a = some oe ∧ Zc cls d oe ∧ oe.data = .fields vs) := hok a _ e
  exact x.1
section
variable {X : Cx} {σ : L2.St} {pins : List (Addr × Obj)} {H : Hp} {s : Shared}
/-- an object that came behind the entry and is not looked after yet: looked after from now on -/
theorem track {a : Addr} {o : HO} (I : Inv X pins σ H s) (hn : H a = none) (nL : a ≠ X.env.locals) (nc : ∀ x c, X.env.cells.lookup x = some c → c ≠ a) (n0 : X.s_0.heap.get? a = none)
    (np : ∀ p ∈ X.pn ++ pins, p.1 ≠ a) (new : ObjOk X.prog X.w (upd H a o) s.heap a o) : Inv X pins σ (upd H a o) s := by
  have far : ∀ b u, X.s_0.heap.get? b = some u → b ≠ a := fun b u e z => by
    rw [z, n0] at e
    cases e
  have old : ∀ {b : Addr} {u : HO}, H b = some u → (upd H a o) b = some u := fun {b u} e => by
    rw [upd_ne (ne_of_none e hn)]
    exact e
  refine ⟨I.ok, I.os, I.bare, ?_, I.loc, I.cell, ?_, ?_, ?_, ?_, I.len⟩
  · exact
      { keep := I.base.keep
        slot := I.base.slot
        free := fun b u e n x => by
          rw [upd_ne (far b u e)]
          exact I.base.free b u e n x
        there := I.base.there
        tups := fun b xs e => old (I.base.tups b xs e)
        frzs := fun b u v e => old (I.base.frzs b u v e)
        tbls := fun b ps e => by
          obtain ⟨m, q⟩ := I.base.tbls b ps e
          exact ⟨m, old q⟩ }
  · rw [upd_ne (Ne.symm nL)]
    exact I.free
  · intro x c e
    rw [upd_ne (nc x c e)]
    exact I.freeC x c e
  · intro p hp
    obtain ⟨h1, h2, h3⟩ := I.pin p hp
    refine ⟨h1, ?_, h3⟩
    rw [upd_ne (np p hp)]
    exact h2
  · exact I.hok.laidN (fun _ _ e => e) hn new
end
/-- what `except x as n` wishes, the error being kept behind the suite -/
def wKeep (K : PySem.W.Frag) (c : Value) (i : Nat) (ts : Addr → Value → Option Addr → TS) (Wout : WX) (D : Ends) : WX := fun cls d σ H =>
  ∃ b, PySem.W.exmOne K cls c = some b ∧ (b = true → ∀ a, H a = none → ts a cls d { nx := fun σ' H' => D.nx (σ'.set i none) (upd H' a (ExV cls d a)), rt := fun _ _ => False } (σ.set i (some (.ref a))) H) ∧ (b = false → Wout cls d σ H)
section
variable {X : Cx} {n x : Str} {c : Value} {i : Nat} {body suite : List Stmt} {b₀ : Stmt} {np pos pos' : Pos} {tb : WX → TS} {ts : Addr → Value → Option Addr → TS} {Wout : WX}
theorem ps_try_keep (hex : X.ex = []) (hs : X.stack = X.env :: X.outer) (hf : X.env.frame = some X.env.locals) (hN : X.N.Nodup) (hi : X.N[i]? = some n) (hln : X.env.kindOf n = some .local) (hc : Names X x c) (tk : L2.Takes X Wout)
    (hb : ∀ (W : WX) (pn : List (Addr × Obj)) (xe : Value → Shared → Prop), L2.Takes (X.tr pn xe) W → PassesOwn (model X.prog X.w) X.A X.env xe → PSs (X.tr pn xe) body (tb W))
    (hsu : ∀ (a : Addr) (oe : Obj) (cls : Value) (d : Option Addr) (pq : List (Addr × Obj)), Zc cls d oe → (∃ vs, oe.data = .fields vs) → PSs (X.suite a ((a, oe) :: pq)) (b₀ :: suite) (ts a cls d)) :
    PS X (.Try body [.ExceptHandler (some (.Name x np)) (some n) (b₀ :: suite) pos'] [] [] pos) (fun D σ H => tb (wKeep X.K c i ts Wout D) D σ H) := by
  refine ⟨fun pins s σ H D I h => wpAny_Try_except ?_⟩
  have okX := I.ok
  have hframes : X.A.frames = some (X.env :: X.outer) := okX.frames.trans (congrArg some hs)
  have hb' := hb (wKeep X.K c i ts Wout D) (X.pn ++ pins) (fun e s₁ => wpAny (model X.prog X.w) X.A (noteFrame e X.env) (fun _ s₂ => wpAny (model X.prog X.w) X.A (setFlight e none)
    (fun _ s₃ => wpAny (model X.prog X.w) X.A (handleBy e X.env [.ExceptHandler (some (.Name x np)) (some n) (b₀ :: suite) pos']) (SP X pins D) X.xe s₃) X.xe s₂) X.xe s₁)
  refine wpAny_mono ((hb' (fun u t xx => ?caught) PassesOwn.looking).run [] s σ H D (I.toTry _) h) (fun f s1 hsp => ?passed) (fun _ _ he => he)
  case passed =>
    cases f
    case next =>
      obtain ⟨σ1, H1, J, q⟩ := hsp
      exact wpAny_execs_nil ⟨σ1, H1, J.ofTry okX, q⟩
    case ret v =>
      obtain ⟨y, σ1, H1, J, r, q⟩ := hsp
      exact ⟨y, σ1, H1, J.ofTry okX, r, q⟩
    all_goals
      obtain ⟨σ1, H1, J, q⟩ := hsp
      exact ⟨σ1, H1, J.ofTry okX, q⟩
  case caught =>
    obtain ⟨a, B, sI, pins1, σ1, H1, cls, d, rfl, JT, nb, up, sky, na, os, ag, b, hb1, hyes, hno⟩ := xx
    have JI : Inv X pins σ1 H1 sI := JT.ofTry okX
    rw [hs] at sky
    show wpAny _ X.A (noteFrame (.ref a) X.env) _ _ _
    refine Sky.land Zc.steady hframes hf sky fun h3 fl3 up3 => ?_
    have J3 : Inv X pins σ1 H1 { t with heap := h3 } := JI.landed nb fl3.1 (up.trans up3) os ag
    (obtain ⟨oe3, vs3, he3, hz3, hd3⟩ := fl3.there)
    have nfr : a ∉ frs (X.env :: X.outer) := fun hm => by
      obtain ⟨_, o', e', hnf⟩ := fl3.2.2.1.mem hm
      rw [he3] at e'
      cases e'
      exact hnf _ hd3
    have nL : a ≠ X.env.locals := fun zz => nfr (List.mem_filterMap.mpr ⟨X.env, List.mem_cons_self, by rw [hf, zz]⟩)
    have nF : ¬ a ∈ X.fs := fun hm => by
      (obtain ⟨e, he, q⟩ := List.mem_filterMap.mp hm)
      (exact nfr (List.mem_filterMap.mpr ⟨e, List.mem_cons_of_mem _ he, q⟩))
    -- the exception came in the body
    have nI : sI.heap.get? a = none := by
      cases e : sI.heap.get? a with
      | none => rfl
      | some o =>
        have z := nb a o e (by rw [hs]; exact nfr)
        have k2 : B.get? a = none := fl3.2.1
        rw [k2] at z
        cases z
    have n0 : X.s_0.heap.get? a = (none : Option Obj) := by
      cases e : (X.s_0.heap.get? a) with
      | none => rfl
      | some o =>
        obtain ⟨o', q⟩ := JI.base.there a o e (by rw [hex]; exact fun z => nomatch z)
        rw [nI] at q
        cases q
    have np' : ∀ p ∈ X.pn ++ pins, p.1 ≠ a := fun p hp z => by
      have q := (JI.pin p hp).1
      rw [z, nI] at q
      cases q
    have nc : ∀ y k, X.env.cells.lookup y = some k → k ≠ a := fun y k e z => by
      obtain ⟨v, o, q, _⟩ := JI.cell y k e
      rw [z, nI] at q
      cases q
    have S3 := (J3.suite he3 hd3 na nL nF)
    (refine wpAny_handleBy_cons (codeAny_handlers_test ?_) (by intro q; cases q))
    have LT : PySem.W.Looks (model X.prog X.w) h3 (typeOf (.ref a)) cls := (fun A Q E s k q => wpAny_typeOf_ref (k _ _ he3) (by rw [hz3.1]; exact q))
    have LM := PySem.W.exm_one (M := model X.prog X.w) J3.kIn LT hb1
    have named : ∀ {Q : Value → Shared → Prop} {E : Value → Shared → Prop}, Q c { t with heap := h3 } → wpAny (model X.prog X.w) (X.A.mark (some (.ref a))) (eval (.Name x np) X.env) Q E { t with heap := h3 } := fun {Q E} q => by
      (obtain ⟨hg, hdbg, hm | ⟨hm, hv, hnn⟩⟩ := hc)
      · (exact ld_glob (X := X.suite a ((a, oe3) :: (X.pn ++ pins))) S3 hg hm q hdbg)
      · (exact ld_blt (X := X.suite a ((a, oe3) :: (X.pn ++ pins))) S3 hg hm hv q hnn hdbg)
    refine named (LM.here ?_)
    cases b with
    | false =>
      (show wpAny _ X.A (handleBy (.ref a) X.env []) _ _ _)
      refine wpAny_handleBy_nil ?_
      obtain ⟨_, _, _, oe, vs, T, oT, ts', he, hz, hd, h1, hr⟩ := id fl3
      unfold PySem.passOn
      (refine wpAny_bind (wpAny_field he hd h1 ?_))
      (rw [if_neg (show ¬ ((Value.ref T == Value.none) = true) from by simp)])
      have out : wpAny (model X.prog X.w) X.A (setFlight (.ref a) X.env.frame) (fun _ s4 => wpAny (model X.prog X.w) X.A (throw (.ref a) : Sem Flow) (SP X pins D) X.xe s4) X.xe { t with heap := h3 } := by
        rw [hf]
        (refine HandSPX.setFlight_upZ fl3 fun h4 hh4 up4 => wpAny_throw (tk _ _ ?_))
        exact ⟨a, B, sI, pins, σ1, H1, cls, d, rfl, JI, nb, (up.trans up3).trans up4, .inr (.inr (by rw [hs]; exact hh4)), na, os, ag, hno rfl⟩
      first
        | exact wpAny_bind out
        | exact wpAny_bind (wpAny_pure (wpAny_bind out))
    | true =>
      refine codeAny_handlers_suite_as (HandSPX.lands_againZ fl3 fun h4 fl4 up4 => ?_)
      have J4 : Inv X pins σ1 H1 { t with heap := h4 } := JI.landed nb fl4.1 ((up.trans up3).trans up4) os ag
      (obtain ⟨oe4, vs4, he4, hz4, hd4⟩ := fl4.there)
      refine store_ok (X := X.suite a ((a, oe4) :: (X.pn ++ pins))) (v := .ref a) (J4.suite he4 hd4 na nL nF) hN hi (.inl hln) rfl (fun s5 S5 => ?_) (.inr hln)
      refine wpAny_mono ((hsu a oe4 cls d (X.pn ++ pins) hz4 ⟨_, hd4⟩).run [] s5 _ H1 _ S5 (hyes rfl a na)) (fun f s6 hsp => ?_) (fun _ _ z => False.elim z)
      cases f
      case next =>
        (obtain ⟨σ6, H6, S6, q6⟩ := hsp)
        obtain ⟨g1, g2, _⟩ := S6.pin (a, oe4) (List.mem_append_left _ List.mem_cons_self)
        have J7 := track (o := ExV cls d a) (S6.unsuite okX) g2 nL nc n0 np' (exV_ok g1 hz4 hd4)
        exact gone_ok J7 hN hi hln fun s7 J8 => ⟨_, _, J8, q6⟩
      case ret v =>
        obtain ⟨_, _, _, _, _, q6⟩ := hsp
        exact False.elim q6
      all_goals
        obtain ⟨_, _, _, q6⟩ := hsp
        exact False.elim q6
end
/-! ### its field, isinstance of it -/
section
variable {X : Cx} {C : Addr}
/-- e.n, e an error that was kept -/
def tXv (C : Addr) (n : Str) (te : TE) : TE := fun σ H Q => te σ H fun x H1 => ∃ (a dd : Addr) (fs : List (Str × V)) (v : V), x = .ref a ∧ H1 a = some (ExV (.ref C) (some dd) a) ∧ H1 dd = some (.xd fs) ∧ fs.lookup n = some v ∧ Q v H1
theorem exv_inst {pins : List (Addr × Obj)} {σ : L2.St} {H : Hp} {s : Shared} {a dd : Addr} {fs : List (Str × V)} (I : Inv X pins σ H s) (e1 : H a = some (ExV (.ref C) (some dd) a)) (e2 : H dd = some (.xd fs)) :
    ∃ (oe od : Obj) (mA : Str → Option Value), PySem.W.InstAt s.heap a oe C (some od) ∧ (∀ f, PySem.W.lookIn f od = some (mA f)) ∧ ∀ f, RelO (fs.lookup f) (mA f) := by
  obtain ⟨oe, vs, ha, hz, hd⟩ := exV_at I.hok e1
  have hx : ObjOk X.prog X.w H s.heap dd (.xd fs) := I.hok dd _ e2
  obtain ⟨mA, hns, hr⟩ := hx
  (obtain ⟨od, ho, hl⟩ := lookIn_ns hns)
  exact ⟨oe, od, mA, ⟨ha, hz.1, by unfold PySem.W.notCls; rw [hd] <;> rfl, by rw [hz.2]; exact ho⟩, hl, hr⟩
theorem pe_exv {e : Expr} {te : TE} {pos : Pos} {n : Str} (T : XfC X.K C) (hno : PySem.W.findIn X.K (.ref C) n = some none) (he : PE X e te) (hb : attributeBase e n X.env (eval e X.env) = eval e X.env := by rfl) : PE X (.Attribute e n pos) (tXv C n te) := by
  refine ⟨fun pins s σ H Q I h => attr_of hb (thn (he.run pins s σ H _ I h) fun u s1 hh => ?_)⟩
  obtain ⟨x, H1, I1, rx, a, dd, fs, v, ex, e1, e2, l, q⟩ := hh
  subst ex
  (obtain rfl : u = Value.ref a := rx)
  obtain ⟨oe, od, mA, J, hl, hr⟩ := exv_inst I1 e1 e2
  (obtain ⟨u, hu, ru⟩ := RelO.some_of (v := v) (o := mA n) (by rw [← l]; exact hr n))
  (exact HandSPX.exc_get I1.kIn J T.ga T.gg T.exC (PySem.W.findObj_own T.hdC hno rfl (by rw [hl, hu])) (handed_of ru) ⟨v, H1, I1.tok _, ru, q⟩)
def rIsV (K : PySem.W.Frag) (D : Addr) : List V → Hp → VK → Prop := fun xs H Q => ∃ (a dd : Addr) (fs : List (Str × V)) (c : V) (cv : Value) (b : Bool), xs = [.ref a, c] ∧ H a = some (ExV (.ref D) (some dd) a) ∧ H dd = some (.xd fs) ∧ (∀ u, RelV c u → u = cv) ∧ PySem.W.kitOne K (.ref D) cv = some b ∧ Q (.bl b) H
theorem call_isV (T : ExcC X.K C) : CallR X (.builtin "isinstance") (rIsV X.K C) := by
  (intro pins s σ H xs us Q I r h)
  obtain ⟨a, dd, fs, c, cv, b, rfl, e1, e2, hcv, e, q⟩ := h
  obtain ⟨oe, od, mA, J, _, _⟩ := exv_inst I e1 e2
  cases r with
  | cons rx rr =>
    cases rr with
    | cons rt rr =>
      cases rr
      cases rx
      have ec := hcv _ rt
      subst ec
      have hcl : (PySem.W.clsIn X.K C).isSome = true := by
        obtain ⟨cd, hc, _⟩ := PySem.W.any_some T.hd
        rw [hc]
        rfl
      exact PySem.W.kia_one (PySem.W.kitx_exc hcl T.hg T.hk T.hs T.ha T.hn T.ht T.hm) I.kIn J e (fun z => nomatch z) fun tk => ⟨.bl b, H, I.kept (t' := tk) fun _ _ z => z, rfl, q⟩
end
end K08

set_option Elab.async false
set_option linter.all false
namespace K08
open L2 PySem PySem.Spec PyProof.Rows
/-! ### defs that are called where no repr runs (their bodies show data by repr) -/
structure FnG (P : Program) (w : World) (K : PySem.W.Frag) (mg : Str → Option Value) (base : Heap) (k : Nat) (f : Addr) (fd : FuncData) (ps : List Str) (sp : Sp) : Prop where
  len : ∀ (vs : List V) H Q E, sp vs H Q E → vs.length = ps.length
  run : ∀ (A : Around) (outer : List Env) (s : Shared) (H : Hp) (args : Args) (us : List Value) (vs : List V) (Q : VK) (E : XK), A.guards = some [] → Room k A → Env0 P w K mg base A outer s H →
    BindsTo s fd args (ps.zip us) → Vals vs us → sp vs H Q E → codeAny (model P w) A (.call (.ref f) args) (CR CX0 outer P w H s Q E) s
section
variable {base : Heap} {P : Program} {w : World} {K : PySem.W.Frag} {mg : Str → Option Value}
theorem Fun.okG {x qual : Str} {st : Stmt} {f : Addr} {fd : FuncData} {N ps : List Str} {k : Nat} {sp : Sp} (F : Fun K x qual st f fd) (S : FnScope N ps (defScope st)) (len : ∀ vs H Q E, sp vs H Q E → vs.length = ps.length)
    (hbody : ∀ (cdv : Value) (A : Around) (outer : List Env) (s : Shared) (H : Hp) (vs : List V) (Q : VK) (E : XK), A.guards = some [] → Room k (A.deeper (envOfC qual (defScope st) s.heap.objs.size f cdv)) → sp vs H Q E →
      ∃ t, PSs (cxOf CX0 P w K mg base N qual (defScope st) f cdv A outer s H E).nox (defBody st) t ∧ t { nx := fun _ H' => Q .non H', rt := Q } (L2.start N vs) H) : FnG P w K mg base (k + 1) f fd ps sp := by
  (obtain ⟨oc, od, kV, doc, pm, an, cdv, ct, osl, rfl, lk, hcd⟩ := F.ex)
  refine ⟨len, fun A outer s H args us vs Q E hg hr e0 hb r hsp => ?_⟩
  have nArgs := len _ _ _ _ hsp
  have inK : K.In s.heap := e0.mod.kin.keeps fun b o e => (e0.bs b o e).1
  have noLim : s.heap.NoLimit := e0.mod.nolimit.keeps fun b o e => (e0.bs b o e).1
  have kinds : ∀ y ∈ ps.zip us, (defScope st).names.lookup y.1 = some .local ∨ ((defScope st).names.lookup y.1 = some .cell ∧ ((cellsFrom (s.heap.objs.size + 1) (defScope st).names []).lookup y.1).isSome = true) := fun y hy => by
    rcases S.par y.1 (List.of_mem_zip (a := y.1) (b := y.2) hy).1 with q | q
    · exact Or.inl q
    · exact Or.inr ⟨q, PySem.W.cellsFrom_some _ _ _ (Or.inl q)⟩
  refine codeAny_call_function hr.depth (inK _ _ lk) rfl S.co S.gen rfl (PySem.W.codeRec_of inK hcd) (hb _ _ _ _ (wpAny_newFunctionEnv_cells S.kind kinds fun env he s1 xc => ?_))
  subst he
  obtain ⟨t, ht, hq⟩ := hbody cdv A outer s H vs Q E hg (hr.deeper _) hsp
  have I0 : Inv (cxOf CX0 P w K mg base N qual (defScope st) f cdv A outer s H E) [] (L2.start N vs) H s1 := inv_start S hr.hd e0 nArgs r xc
  have done : ∀ {σ1 : L2.St} {H1 : Hp} {v : V} {u : Value} {t1 : Shared}, Inv (cxOf CX0 P w K mg base N qual (defScope st) f cdv A outer s H E) [] σ1 H1 t1 → RelV v u → Q v H1 → CE outer P w H s Q u t1 :=
    fun {σ1 H1 v u t1} J rv q => ⟨v, H1, J.os, J.bare, J.base, J.hok, rv, q⟩
  refine ⟨noLim.keeps xc.toInCall.keep, codeAny_func (wpAny_mono (ht.nox.run [] s1 (L2.start N vs) H _ I0 hq) (fun fl t1 hs => ?_) fun _ _ hs => hs)⟩
  cases fl
  case ret u =>
    obtain ⟨v, σ1, H1, J, rv, q⟩ := hs
    exact done J rv q
  case next =>
    obtain ⟨σ1, H1, J, q⟩ := hs
    exact done (v := V.non) (u := Value.none) J rfl q
  all_goals
    obtain ⟨_, _, _, q⟩ := hs
    exact False.elim q
end
def HasG (P : Program) (w : World) (K : PySem.W.Frag) (mg : Str → Option Value) (base : Heap) (nm : Str) (k : Nat) (ps : List Str) (sp : Sp) : Prop :=
  ∃ (f : Addr) (fd : FuncData), FnG P w K mg base k f fd ps sp ∧ mg nm = some (.ref f) ∧ PySem.W.keepIn K (.ref f) = true ∧ Binds K fd ps []
theorem pe_hasG {X : Cx} {nm : Str} {k : Nat} {ps : List Str} {sp : Sp} {e : Expr} {es : List Expr} {t : TA} {p pos : Pos} (h : HasG X.prog X.w X.K X.mg X.base nm k ps sp) (hgu : X.A.guards = some []) (hr : Room k X.A) (ha : PA X (e :: es) t) (hg : Gl X nm := by rfl)
    (hdb : (nm == ("__debug__" : Str)) = false := by decide) (he : starEach (e :: es) X.env = (false, eval e X.env) :: starEach es X.env := by rfl) (hpl : (backTo pos (starEach es X.env)).any (·.1) = false := by rfl) :
    PE X (.Call (.Name nm p) (e :: es) [] pos) (tCall sp [] E0 t) := by
  obtain ⟨f, fd, F, hm, hk, hb⟩ := h
  refine ⟨fun pins s σ H Q I h => wpAny_Call_Name_kw (ld_glob I hg hm ?_ hdb)⟩
  (refine PySem.W.callWith_K (h₀ := X.base) I.ok.mod.kin hk (thn (ha.run pos pins s σ H _ I h) fun us s1 ⟨vs, H1, I1, r, q⟩ => ⟨I1.kIn, ?_⟩) he hpl)
  have q' : sp vs H1 Q E0 := by
    have z : sp (vs ++ []) H1 Q E0 := q
    rw [List.append_nil] at z
    exact z
  have hl : (us ++ []).length = ps.length := by
    rw [List.append_nil, ← r.length]
    exact F.len _ _ _ _ q'
  refine wpAny_call (codeAny_mono (F.run X.A X.stack s1 H1 ⟨us, []⟩ (us ++ []) vs Q E0 hgu hr I1.env0 (hb s1 us I1.kIn hl) (by rw [List.append_nil]; exact r) q') fun r s' hq => ?_)
  cases r with
  | error er => exact False.elim hq
  | ok fl =>
    cases fl with
    | ret u => exact I1.after hq
    | next => exact False.elim hq
    | brk => exact False.elim hq
    | cont => exact False.elim hq
/-! ### repr of data -/
def rRepr (K : PySem.W.Frag) : List V → Hp → VK → Prop := fun xs H Q => ∃ (a : Addr) (d : PyData), xs = [.ref a] ∧ Dp K H (.ref a) d ∧ d.showable = true ∧ d.hasDict = false ∧ d.depth ≤ 50 ∧ d.shown.length ≤ sizeLine ∧ Q (.str d.shown) H
theorem call_reprD {X : Cx} (hgu : X.A.guards = some []) (hu : X.A.units + 64 < cLine) : CallR X (.builtin "repr") (rRepr X.K) := by
  (intro pins s σ H xs us Q I r h)
  obtain ⟨a, d, rfl, hd, hs, hdi, hdp, hsz, q⟩ := h
  cases r with
  | cons rx rr =>
    cases rr
    obtain ⟨as, rd⟩ := Dp.reads I d _ _ hd rx
    cases rx
    exact repr_of_reads' rd hs (fun z => by rw [hdi] at z; cases z) hgu (by omega) (fun _ _ e => e) (fun h' u tk hk => ⟨.str d.shown, H, I.kept (t' := tk) hk, ⟨u, rfl⟩, q⟩) hsz
end K08

set_option Elab.async false
set_option linter.all false
namespace K08
open PySem L2
abbrev sLines : Stmt := top 6
abbrev sWords : Stmt := top 7
abbrev sIsName : Stmt := top 8
abbrev sLIsName : Stmt := top 22
/-! ### names, as both look at them -/
def nameB (w : Str) : Bool := (decide (1 ≤ w.length) && decide (w.length ≤ 8)) && (tx w).all fun c => decide (c ∈ tx abc)
theorem nameB_of {w : Str} (h : IsNm w) : nameB w = true := by
  unfold nameB
  rw [decide_eq_true h.pos, decide_eq_true h.len]
  refine List.all_eq_true.mpr fun c hc => decide_eq_true ?_
  obtain ⟨h1, h2⟩ := h.low c hc
  have all : ∀ c, 97 ≤ c → c ≤ 122 → c ∈ tx abc := by
    intro c a b
    have : c = 97 + (c - 97) := by omega
    rw [this]
    have z : ∀ n : Nat, n < 26 → 97 + n ∈ tx abc := by decide +kernel
    exact z _ (by omega)
  exact all c h1 h2
theorem take_one {α : Type} {l : List α} {i : Nat} {x : α} (h : l[i]? = some x) : l.take (i + 1) = l.take i ++ [x] := by
  rw [List.take_add_one, h]
  rfl
theorem same_new {D : Addr} {H H1 : Hp} {o : HO} (h : Same H H1) (hn : H D = none) : Same H (upd H1 D o) := fun x u e => by
  rw [upd_ne (ne_of_none e hn)]
  exact h x u e
structure Txt2 (K : PySem.W.Frag) (mg : Str → Option Value) : Prop extends Txt1 mg where
  all : mg "all" = none
  letters : ∃ t, mg "LETTERS" = some (.str abc t)
  longest : ∃ t, mg "LONGEST_NAME" = some (.int 8 t)
  isinst : mg "isinstance" = none
  str : mg "str" = none
section
variable {base : Heap} {P : Program} {w : World} {K : PySem.W.Frag} {mg : Str → Option Value}
def spName : Sp := fun vs H Q _ => ∃ z : Str, vs = [.str z] ∧ z.length ≤ 1000000 ∧ ∀ H', Same H H' → Q (.bl (nameB z)) H'
abbrev nIsName : List Str := ["word", "letter"]
theorem scIsName : FnScope nIsName ["word"] (defScope sIsName) := ⟨rfl, rfl, rfl, by decide +kernel, rfl, by decide +kernel, by decide +kernel⟩
/-- [.. in .. for .. in word] over the signs -/
theorem signs_all {z : Str} {σ : L2.St} {H : Hp} {Q : VK} {te : TE} (h0 : σ[0]? = some (some (.str z))) (hz : z.length ≤ 1000000)
    (hw : ∀ c : Nat, wipe ((wipe σ [1]).set 1 (some (.str ⟨#[c]⟩))) [1] = wipe σ [1])
    (he : ∀ (c : Nat) (H1 : Hp) (R : VK), R (.bl (decide (c ∈ tx abc))) H1 → te ((wipe σ [1]).set 1 (some (.str ⟨#[c]⟩))) H1 R)
    (k : ∀ D H', Same H H' → H' D = some (.lst (((tx z).map fun c => decide (c ∈ tx abc)).map V.bl)) → Q (.ref D) H') : tLc (iStr (tVar 0)) (gName 1) tYes te [1] σ H Q := by
  refine ⟨_, h0, z, rfl, fun D hD => ?_⟩
  have e0 : z.cps.size = (tx z).length := by simp [tx]
  refine lc_it (walk_str (z := z)) (fun i H' => Same H H' ∧ H' D = some (.lst ((((tx z).take i).map fun c => decide (c ∈ tx abc)).map V.bl))) ⟨same_upd hD, upd_same⟩ (fun _ _ _ _ => trivial) ?_ ?_
  · rintro i x H1 H2 hi ⟨s1, hd⟩ ⟨rfl, c, hc, rfl⟩
    refine ⟨hw c, ?_⟩
    show te _ H2 _
    refine he c H2 _ ?_
    have hc' : (tx z)[i]? = some c := by
      simpa [tx] using hc
    refine ⟨_, hd, ?_, same_new s1 hD, ?_⟩
    · rw [List.length_map, List.length_map, List.length_take]
      have : z.length = z.cps.size := rfl
      exact Nat.lt_of_le_of_lt (Nat.le_trans (Nat.min_le_left _ _) (Nat.le_trans (Nat.le_of_lt hi) (this ▸ hz))) (by decide)
    · rw [upd_same, take_one hc', List.map_append, List.map_append]
      rfl
  · rintro H1 ⟨s1, hd⟩
    refine k D H1 s1 ?_
    rw [hd, e0, List.take_length]
theorem all_map_id (l : List Nat) (p : Nat → Bool) : (l.map p).all id = l.all p := by
  rw [List.all_map]
  rfl
theorem ok_isName {f : Addr} {fd : FuncData} (F : Fun K "is_name" "is_name" sIsName f fd) (T : Txt2 K mg) : FnOk P w K mg base CX0 1 f fd ["word"] spName := by
  refine F.ok scIsName (fun vs H Q E h => ?_) (fun cdv A outer s H vs Q E hr h => ?_)
  · obtain ⟨z, rfl, _⟩ := h
    rfl
  · obtain ⟨z, rfl, hz, k⟩ := h
    obtain ⟨t1, g1⟩ := T.letters
    obtain ⟨t2, g2⟩ := T.longest
    refine ⟨_, pss_one (ps_ret (pe_and (pe_chain op_le op_le pe_int (pe_callB call_len_str (by rfl) T.len PySem.boot_len (pa_cons (pv 0) pa_nil)) (pe_glob (v := .int 8) (by rfl) g2 ⟨_, rfl⟩))
      (pe_one (pe_callB (cr_all rfl) (by rfl) T.all (by decide +kernel) (pa_cons (pe_lc (own := [("letter", 1)]) (g := gName 1) (tt := tYes) rfl scIsName.nd (pi_str (pv 0))
          (blkOk_by (N := nIsName) (sc := defScope sIsName) (by decide +kernel)) (fun _ _ _ _ _ => pg_name (i := 1) scIsName.nd rfl (Or.inl rfl)) (fun _ _ _ _ _ => pts_nil)
          (fun _ _ _ _ _ => pe_cmpR op_in_sign (pv 1) (pe_glob (v := .str abc) (by rfl) g1 ⟨_, rfl⟩) (by rfl))) pa_nil))))), ?_⟩
    refine ⟨_, rfl, z, rfl, Nat.le_trans hz (by decide), _, _, rfl, rfl, _, rfl, ?_⟩
    refine ite2 (fun h1 => ?_) (fun h1 => ?_)
    · refine ⟨_, _, rfl, rfl, _, rfl, ?_⟩
      refine ite2 (fun h2 => ?_) (fun h2 => ?_)
      · dsimp only [tCB, tCons, List.map]
        refine signs_all (z := z) ?_ hz ?_ ?_ ?_
        · rfl
        · exact fun _ => rfl
        · exact fun c H1 R q => ⟨_, rfl, c, abc, rfl, rfl, q⟩
        intro D H1 s1 hl
        refine ⟨D, _, rfl, SqL.of hl, ?_⟩
        have e : nameB z = ((tx z).map fun c => decide (c ∈ tx abc)).all id := by
          rw [all_map_id]
          unfold nameB
          rw [decide_eq_true (show 1 ≤ z.length by have := of_decide_eq_true h1; omega), decide_eq_true (show z.length ≤ 8 by have := of_decide_eq_true h2; omega)]
          rfl
        rw [← e]
        exact k H1 s1
      · have e : nameB z = false := by
          unfold nameB
          rw [decide_eq_false (show ¬ z.length ≤ 8 from fun q => h2 (decide_eq_true (by omega)))]
          simp
        have q := k H (Same.refl H)
        rw [e] at q
        exact q
    · have e : nameB z = false := by
        unfold nameB
        rw [decide_eq_false (show ¬ 1 ≤ z.length from fun q => h1 (decide_eq_true (by omega)))]
        simp
      have q := k H (Same.refl H)
      rw [e] at q
      exact ⟨_, rfl, q⟩
end
end K08

set_option Elab.async false
set_option linter.all false
namespace K08
open PySem L2
abbrev sPartOf : Stmt := top 13
/-! ### texts of plain signs -/
def Asc (z : Str) : Prop := ∀ c ∈ tx z, c < 128
structure Txt3 (K : PySem.W.Frag) (mg : Str → Option Value) : Prop extends Txt2 K mg where
  ways : ∃ p, mg "WAYS" = some (.ref p) ∧ SqT K (fun _ => none) p ([.str "fresh", .str "once", .str "handed", .str "kept"] : List V)
def ways4 : List Str := ["fresh", "once", "handed", "kept"]
def wayB (z : Str) : Bool := ways4.any fun y => y == z
def wTakes : Str := "takes"
def wPart : Str := "part"
/-- what the words of a line tell -/
def partOf : List Str → Option (Str × Str × Bool)
  | a :: b :: c :: r => if a = wPart ∧ nameB b = true ∧ wayB c = true ∧ (r = [] ∨ r = [wTakes]) then some (b, c, decide (r = [wTakes])) else none
  | _ => none
/-! ### data of texts -/
theorem asc_ok {z : Str} (h : Asc z) : PyData.canLay0 (.str z) = true := by
  have e : PyData.canLay0 (.str z) = z.cps.all (· < 0x110000) := by
    simp only [PyData.canLay0]
    rfl
  rw [e, ← Array.all_toList]
  exact List.all_eq_true.mpr fun c hc => decide_eq_true (Nat.lt_trans (h c hc) (by decide))
theorem texts_lay : ∀ {l : List Str}, (∀ z ∈ l, Asc z) → PyData.canLayAll0 (l.map PyData.str) = true
  | [], _ => rfl
  | a :: l, h => by
    show (PyData.canLay0 (.str a) && PyData.canLayAll0 (l.map PyData.str)) = true
    rw [texts_lay (l := l) fun z hz => h z (List.mem_cons_of_mem _ hz)]
    rw [asc_ok (h a List.mem_cons_self)]
    rfl
theorem texts_depth : ∀ l : List Str, PyData.depthAll (l.map PyData.str) = 0
  | [] => rfl
  | a :: l => by
    show max (PyData.depth (.str a)) (PyData.depthAll (l.map PyData.str)) = 0
    rw [texts_depth l]
    simp [PyData.depth]
theorem texts_shaped {l : List Str} (h : ∀ z ∈ l, Asc z) : SeqAt.shaped (.list (l.map PyData.str)) = true := by
  unfold SeqAt.shaped
  have h1 : PyData.canLay0 (.list (l.map PyData.str)) = true := by
    simpa [PyData.canLay0] using texts_lay h
  have h2 : PyData.depth (.list (l.map PyData.str)) = 1 := by
    simp [PyData.depth, texts_depth]
  rw [h1, h2]
  rfl
theorem texts_dp {K : PySem.W.Frag} {H : Hp} : ∀ l : List Str, DpAll K H (l.map V.str) (l.map PyData.str)
  | [] => .nil
  | a :: l => .cons (.str a) (texts_dp l)
def rNotInT (K : PySem.W.Frag) : R2 := fun x y H Q => ∃ d ds, Dp K H x d ∧ Dp K H y (.tuple ds) ∧ SeqAt.shaped d = true ∧ SeqAt.shaped (.tuple ds) = true ∧ Q (.bl (!ds.any fun z => PyData.eqv z d)) H
theorem op_notInT {X : Cx} (hu : X.A.units + 65 < cLine) : OpR X (compareOp .NotIn) (rNotInT X.K) := by
  (intro pins s σ H x y v u Q I rx ry h)
  (obtain ⟨d, ds, hd, he, sd, se, q⟩ := h)
  (obtain ⟨as, r1⟩ := Dp.reads I d x v hd rx)
  obtain ⟨bs, r2⟩ := Dp.reads I (.tuple ds) y u he ry
  exact SeqAt.notIn_tuple_reads r2 r1 (SeqAt.canLay_of_shaped se) (SeqAt.canLay_of_shaped sd) (PyProof.Rows.room_in_shaped sd hu) ⟨.bl _, H, I, rfl, q⟩
/-- is it none of [] and [takes] -/
theorem rest_any (l : List Str) : (([.list [], .list [.str wTakes]] : List PyData).any fun z => PyData.eqv z (.list (l.map PyData.str))) = decide (l = [] ∨ l = [wTakes]) := by
  match l with
  | [] => rfl
  | [a] =>
    show (PyData.eqv (.list []) (.list [.str a]) || (PyData.eqv (.list [.str wTakes]) (.list [.str a]) || false)) = _
    have e1 : PyData.eqv (.list []) (.list [.str a]) = false := by simp [PyData.eqv, PyData.eqvAll]
    have e2 : PyData.eqv (.list [.str wTakes]) (.list [.str a]) = (wTakes == a) := by simp [PyData.eqv, PyData.eqvAll]
    rw [e1, e2]
    by_cases h : wTakes = a
    · subst h
      simp
    · have h' : ¬ a = wTakes := fun z => h z.symm
      simp [h, h']
  | a :: b :: r =>
    have e1 : PyData.eqv (.list []) (.list ((a :: b :: r).map PyData.str)) = false := by simp [PyData.eqv, PyData.eqvAll]
    have e2 : PyData.eqv (.list [.str wTakes]) (.list ((a :: b :: r).map PyData.str)) = false := by simp [PyData.eqv, PyData.eqvAll]
    show (PyData.eqv (.list []) (.list ((a :: b :: r).map PyData.str)) || (PyData.eqv (.list [.str wTakes]) (.list ((a :: b :: r).map PyData.str)) || false)) = _
    rw [e1, e2]
    simp
theorem way_in (z : Str) : inV (.str z) [.str "fresh", .str "once", .str "handed", .str "kept"] = wayB z := rfl
abbrev sWordsN : List Str := ["line"]
theorem scWords : FnScope sWordsN ["line"] (defScope sWords) := ⟨rfl, rfl, rfl, by decide +kernel, rfl, by decide +kernel, by decide +kernel⟩
section
variable {base : Heap} {P : Program} {w : World} {K : PySem.W.Frag} {mg : Str → Option Value}
def blank : Str := " "
def wordsOf (z : Str) : List Str := Txt.split z blank
def spWords : Sp := fun vs H Q _ => ∃ z : Str, vs = [.str z] ∧ z.length ≤ 1000000 ∧ ∀ p H', H p = none → Same H H' → H' p = some (.lst ((wordsOf z).map V.str)) → Q (.ref p) H'
theorem ok_words {f : Addr} {fd : FuncData} (F : Fun K "words_of" "words_of" sWords f fd) : FnOk P w K mg base CX0 1 f fd ["line"] spWords := by
  refine F.ok scWords (fun vs H Q E h => ?_) (fun cdv A outer s H vs Q E hr h => ?_)
  · obtain ⟨z, rfl, _⟩ := h
    rfl
  · obtain ⟨z, rfl, hz, k⟩ := h
    refine ⟨_, pss_one (ps_ret (pe_split (pv 0) pe_str)), ?_⟩
    refine ⟨_, rfl, ⟨_, rfl⟩, _, _, rfl, rfl, by decide +kernel, Nat.le_trans (Nat.add_le_add_right hz 2) (by decide), fun p hp => ?_⟩
    exact k p _ hp (same_upd hp) upd_same
theorem sqT_any {K : PySem.W.Frag} {H : Hp} {p : Addr} {xs : List V} (h : SqT K (fun _ => none) p xs) : SqT K H p xs := by
  (rcases h with (h | ⟨o, h⟩) | h)
  · cases h
  · cases h
  · exact .inr h
theorem cut_from (xs : List V) (n : Nat) : cutV xs (some (n : Int)) none = xs.drop n := by
  unfold cutV
  rw [HT.sIx_nat, HT.sIx_none]
  by_cases h : n ≤ xs.length
  · rw [Nat.min_eq_left h]
    (exact List.take_of_length_le (by rw [List.length_drop]; omega))
  · have h1 : min n xs.length = xs.length := Nat.min_eq_right (by omega)
    rw [h1, List.drop_length, List.drop_of_length_le (by omega)]
    simp
/-! ### part_of -/
theorem units65 {k : Nat} {A : Around} (hr : Room k A) : A.units + 65 < cLine := by
  have := hr.un
  omega
abbrev nPartOf : List Str := ["line", "words"]
theorem scPartOf : FnScope nPartOf ["line"] (defScope sPartOf) := ⟨rfl, rfl, rfl, by decide +kernel, rfl, by decide +kernel, by decide +kernel⟩
def resP (o : Option (Str × Str × Bool)) (Q : VK) (H : Hp) : Prop := match o with
  | none => Q .non H
  | some (b, c, t) => ∀ p, H p = some (.tup [.str b, .str c, .bl t]) → Q (.ref p) H
def spPart : Sp := fun vs H Q _ => ∃ z : Str, vs = [.str z] ∧ z.length ≤ 1000000 ∧ Asc z ∧ ∀ H', Same H H' → resP (partOf (wordsOf z)) Q H'
theorem mem_joinL {S : List Nat} {c : Nat} : ∀ {ps : List (List Nat)} {p : List Nat}, p ∈ ps → c ∈ p → c ∈ TL.joinL S ps
  | [q], p, h, hc => by
    rw [List.mem_singleton.mp h] at hc
    exact hc
  | q :: r :: l, p, h, hc => by
    show c ∈ q ++ (S ++ TL.joinL S (r :: l))
    (rcases List.mem_cons.mp h with e | h)
    · rw [e] at hc
      exact List.mem_append_left _ hc
    · exact List.mem_append_right _ (List.mem_append_right _ (mem_joinL h hc))
theorem len_joinL {S : List Nat} : ∀ {ps : List (List Nat)} {p : List Nat}, p ∈ ps → p.length ≤ (TL.joinL S ps).length
  | [q], p, h => by
    rw [List.mem_singleton.mp h]
    exact Nat.le_refl _
  | q :: r :: l, p, h => by
    show _ ≤ (q ++ (S ++ TL.joinL S (r :: l))).length
    rw [List.length_append, List.length_append]
    (rcases List.mem_cons.mp h with e | h)
    · rw [e]
      omega
    · have := len_joinL (S := S) h
      omega
theorem split_mem {z y p : Str} (h : p ∈ Txt.split z y) : (∀ c ∈ tx p, c ∈ tx z) ∧ p.length ≤ z.length := by
  have e : TL.tl (Str.join y (Txt.split z y)) = TL.tl z := by rw [StrLaws.join_split]
  rw [TL.tl_join] at e
  have hm : TL.tl p ∈ (Txt.split z y).map TL.tl := List.mem_map_of_mem h
  refine ⟨fun c hc => ?_, ?_⟩
  · have := mem_joinL (S := TL.tl y) hm hc
    rw [e] at this
    exact this
  · have := len_joinL (S := TL.tl y) hm
    rw [e] at this
    rw [TL.len_tl, TL.len_tl]
    exact this
theorem words_asc {z : Str} (h : Asc z) : ∀ p ∈ wordsOf z, Asc p := fun p hp c hc => h c ((split_mem hp).1 c hc)
theorem words_len {z : Str} {n : Nat} (h : z.length ≤ n) : ∀ p ∈ wordsOf z, p.length ≤ n := fun p hp => Nat.le_trans (split_mem hp).2 h
theorem ok_partOf {f : Addr} {fd : FuncData} (F : Fun K "part_of" "part_of" sPartOf f fd) (T : Txt3 K mg) (GW : Has P w K mg base "words_of" 1 ["line"] spWords) (GN : Has P w K mg base "is_name" 1 ["word"] spName) : FnOk P w K mg base CX0 2 f fd ["line"] spPart := by
  refine F.ok scPartOf (fun vs H Q E h => ?_) (fun cdv A outer s H vs Q E hr h => ?_)
  · obtain ⟨z, rfl, _⟩ := h
    rfl
  · obtain ⟨z, rfl, hz, asc, k⟩ := h
    obtain ⟨wp, gw, hwp⟩ := T.ways
    refine ⟨_, pss_cons (ps_set (i := 1) scPartOf.nd rfl (.inl rfl) (pe_has GW hr (pa_cons (pv 0) pa_nil)))
      (pss_cons (ps_if (PW.pt (pw_or (pt_cmpR op_lt (pe_callB call_len_seq (by rfl) T.len PySem.boot_len (pa_cons (pv 1) pa_nil)) pe_int (nomark _))
          (pw_or (pt_cmpR op_ne (pe_ix ix_list (pv 1) pe_int (fun _ _ => rfl)) pe_str (nomark _))
          (pw_or (pt_not (pt_val (pe_has GN hr (pa_cons (pe_ix ix_list (pv 1) pe_int (fun _ _ => rfl)) pa_nil))))
          (pw_or1 (pt_cmpR op_notIn_seq (pe_ix ix_list (pv 1) pe_int (fun _ _ => rfl)) (pe_glob (v := .ref wp) (by rfl) gw rfl) (by rfl))))))) (pss_one (ps_ret pe_non)) pss_nil)
      (pss_cons (ps_if (pt_cmpR (op_notInT (units65 hr)) (pe_slice sl_list (pv 1) (po_some pe_int) po_none) (pe_tup (pa_cons (pe_lst pa_nil) (pa_cons (pe_lst (pa_cons pe_str pa_nil)) pa_nil))) (by rfl)) (pss_one (ps_ret pe_non)) pss_nil)
      (pss_one (ps_ret (pe_tup (pa_cons (pe_ix ix_list (pv 1) pe_int (fun _ _ => rfl)) (pa_cons (pe_ix ix_list (pv 1) pe_int (fun _ _ => rfl)) (pa_cons (pe_cmpR op_eq (pe_callB call_len_seq (by rfl) T.len PySem.boot_len (pa_cons (pv 1) pa_nil)) pe_int (nomark _)) pa_nil)))))))), ?_⟩
    refine ⟨_, rfl, z, rfl, hz, fun p H1 np s1 hp => ?_⟩
    have wa := words_asc asc
    have wl := words_len hz
    generalize hws : wordsOf z = ws at hp wa wl k
    refine ⟨_, rfl, p, _, rfl, .inl (SqL.of hp), _, 3, rfl, rfl, _, rfl, ?_⟩
    refine ite2 (fun h3 => ?_) (fun h3 => ?_)
    · have e : partOf ws = none := by
        have h3' := of_decide_eq_true h3
        rw [List.length_map] at h3'
        match ws, h3' with
        | [], _ => rfl
        | [_], _ => rfl
        | [_, _], _ => rfl
        | _ :: _ :: _ :: r, h => 
          simp only [List.length_cons] at h
          omega
      have q := k H1 s1
      rw [e] at q
      exact q
    · have h3' : ¬ ((ws.map V.str).length : Int) < 3 := fun z => h3 (decide_eq_true z)
      rw [List.length_map] at h3'
      match ws, h3', hp, wa, wl, k with
      | [], h, _, _, _, _ => exact absurd (show (0 : Int) < 3 by decide) h
      | [_], h, _, _, _, _ => exact absurd (show (1 : Int) < 3 by decide) h
      | [_, _], h, _, _, _, _ => exact absurd (show (2 : Int) < 3 by decide) h
      | a :: b :: c :: r, _, hp, wa, wl, k =>
        have none_of : partOf (a :: b :: c :: r) = none → ∀ H2, Same H H2 → Q .non H2 := fun e H2 s2 => by
          have q := k H2 s2
          rw [e] at q
          exact q
        refine ⟨_, rfl, p, _, 0, .str a, rfl, rfl, SqL.of hp, atI_nat (j := 0) rfl, rfl, _, rfl, ?_⟩
        refine ite2 (fun ha => ?_) (fun ha => ?_)
        · refine none_of ?_ H1 s1
          have : ¬ a = wPart := fun e => by
            rw [e] at ha
            exact absurd ha (by decide +kernel)
          exact if_neg fun z => this z.1
        have ea : a = wPart := by
          by_cases e : a = wPart
          · exact e
          · exfalso
            refine ha ?_
            show (!decide (V.str a = V.str wPart)) = true
            rw [decide_eq_false (fun z => e (V.str.inj z))]
            rfl
        refine ⟨_, rfl, p, _, 1, .str b, rfl, rfl, SqL.of hp, atI_nat (j := 1) rfl, b, rfl, wl b (by simp), fun H2 s2 => ⟨_, rfl, ?_⟩⟩
        have hp2 := s2 _ _ hp
        have s02 := s1.trans s2
        refine ite2 (fun hb => ?_) (fun hb => ?_)
        · refine none_of ?_ H2 s02
          have : ¬ nameB b = true := fun e => by
            rw [e] at hb
            exact absurd hb (by decide)
          exact if_neg fun z => this z.2.1
        have eb : nameB b = true := by
          cases e : nameB b with
          | true => rfl
          | false =>
            rw [e] at hb
            exact absurd rfl hb
        refine ⟨_, rfl, p, _, 2, .str c, rfl, rfl, SqL.of hp2, atI_nat (j := 2) rfl, wp, _, rfl, .inr (sqT_any hwp), rfl, rfl, _, rfl, ?_⟩
        refine ite2 (fun hc => ?_) (fun hc => ?_)
        · refine none_of ?_ H2 s02
          have : ¬ wayB c = true := fun e => by
            rw [if_pos rfl, way_in, e] at hc
            exact absurd hc (by decide)
          exact if_neg fun z => this z.2.2.1
        have ec : wayB c = true := by
          cases e : wayB c with
          | true => rfl
          | false =>
            rw [if_pos rfl, way_in, e] at hc
            exact absurd rfl hc
        refine ⟨_, rfl, 3, rfl, p, _, rfl, SqL.of hp2, fun p3 hp3 => ?_⟩
        have e3 : cutV ((a :: b :: c :: r).map V.str) (some 3) none = r.map V.str := cut_from ((a :: b :: c :: r).map V.str) 3
        refine ⟨Nat.zero_le _, fun p4 hp4 => ⟨(by show 1 ≤ sizeLine; decide), fun p5 hp5 => ⟨(by show 2 ≤ sizeLine; decide), fun p6 hp6 => ?_⟩⟩⟩
        have n4 : p ≠ p4 := ne_of_none (same_upd hp3 _ _ hp2) hp4
        have s3 := same_upd (o := .lst (cutV ((a :: b :: c :: r).map V.str) (some 3) none)) hp3
        have s4 := same_upd (o := .lst []) hp4
        have s5 := same_upd (o := .lst [V.str "takes"]) hp5
        have s6 := same_upd (o := .tup [.ref p4, .ref p5]) hp6
        have s46 := (s4.trans s5).trans s6
        have s06 := s02.trans (s3.trans s46)
        have g3 := Eq.trans (s46 _ _ (upd_same (H := H2) (a := p3) (o := .lst (cutV ((a :: b :: c :: r).map V.str) (some 3) none)))) (congrArg (fun l => some (HO.lst l)) e3)
        have g4 := (s5.trans s6) _ _ upd_same
        have g5 := s6 _ _ upd_same
        have gp := (s3.trans s46) _ _ hp2
        have wr : ∀ z ∈ r, Asc z := fun z hz => wa z (by simp [hz])
        refine ⟨.list (r.map .str), [.list [], .list [.str wTakes]], .lst (SqL.of g3) (texts_dp r), .tup (SqT.of upd_same) (.cons (.lst (SqL.of g4) .nil) (.cons (.lst (SqL.of g5) (.cons (.str _) .nil)) .nil)), texts_shaped wr, by decide +kernel, _, rfl, ?_⟩
        rw [rest_any]
        refine ite2 (fun hr' => ?_) (fun hr' => ?_)
        · refine none_of ?_ _ s06
          have : ¬ (r = [] ∨ r = [wTakes]) := fun e => by
            rw [decide_eq_true e] at hr'
            exact absurd hr' (by decide)
          exact if_neg fun z => this z.2.2.2
        have er : r = [] ∨ r = [wTakes] := by
          by_cases e : r = [] ∨ r = [wTakes]
          · exact e
          · rw [decide_eq_false e] at hr'
            exact absurd rfl hr'
        have eq : partOf (a :: b :: c :: r) = some (b, c, decide (r = [wTakes])) := if_pos ⟨ea, eb, ec, er⟩
        refine ⟨_, rfl, p, _, 1, .str b, rfl, rfl, SqL.of gp, atI_nat (j := 1) rfl, _, rfl, p, _, 2, .str c, rfl, rfl, SqL.of gp, atI_nat (j := 2) rfl, _, rfl, p, _, rfl, .inl (SqL.of gp), rfl, (by show 3 ≤ sizeLine; decide), fun q hq => ?_⟩
        have q' := k _ (s06.trans (same_upd (o := .tup [.str b, .str c, .bl (decide (V.int (((a :: b :: c :: r).map V.str).length : Int) = V.int 4))]) hq))
        rw [eq] at q'
        refine q' q ?_
        rw [upd_same]
        have e4 : decide (V.int (((a :: b :: c :: r).map V.str).length : Int) = V.int 4) = decide (r = [wTakes]) := by
          rcases er with e | e
          · subst e
            show decide (V.int 3 = V.int 4) = decide (([] : List Str) = [wTakes])
            decide +kernel
          · subst e
            show decide (V.int 4 = V.int 4) = decide ([wTakes] = [wTakes])
            decide +kernel
        rw [e4]
end
end K08

set_option Elab.async false
set_option linter.all false
namespace K08
open PySem L2
abbrev sEInit : Stmt := inClass (top 1) 0
abbrev sReadParts : Stmt := top 14
/-! ### the errors -/
def fV (v : V) : List (Str × V) := [("value", v)]
def spEI (K : PySem.W.Frag) : Sp := fun vs H Q _ => ∃ (a C : Addr) (y : V), vs = [.ref a, y] ∧ OexC K C ∧ PySem.W.findIn K (.ref C) "value" = some none ∧ H a = some (exo a C none) ∧
  ∀ dx, H dx = none → dx ≠ a → Q .non (upd (upd H dx (exd dx (fV y))) a (exo a C (some dx)))
/-- what is known of the class of BadText at CB -/
structure Err (P : Program) (w : World) (K : PySem.W.Frag) (mg : Str → Option Value) (base : Heap) (CB : Addr) : Prop where
  ox : OexC K CB
  gB : mg "BadText" = some (.ref CB)
  nv : PySem.W.findIn K (.ref CB) "value" = some none
  init : ∃ (fI : Addr) (fd : FuncData), PySem.W.findIn K (.ref CB) "__init__" = some (some (.ref fI)) ∧ PySem.W.typeIn K (.ref fI) = some (.type "function") ∧ FnOk P w K mg base CX0 1 fI fd ["self", "value"] (spEI K) ∧ Binds K fd ["self", "value"] []
section
variable {base : Heap} {P : Program} {w : World} {K : PySem.W.Frag} {mg : Str → Option Value}
theorem scEInit : FnScope ["self", "value"] ["self", "value"] (defScope sEInit) := ⟨rfl, rfl, rfl, by decide +kernel, rfl, by decide +kernel, by decide +kernel⟩
theorem ok_einit {f : Addr} {fd : FuncData} (F : Fun K "__init__" "SettledError.__init__" sEInit f fd) : FnOk P w K mg base CX0 1 f fd ["self", "value"] (spEI K) := by
  refine F.ok scEInit (fun vs H Q E h => ?_) (fun cdv A outer s H vs Q E hr h => ?_)
  · obtain ⟨a, C, y, rfl, _⟩ := h
    rfl
  · obtain ⟨a, C, y, rfl, T, nv, ha, k⟩ := h
    refine ⟨_, pss_one (ps_ost (pv 0) (pv 1)), ?_⟩
    exact ⟨_, rfl, _, rfl, a, C, rfl, T, nv, .inl ⟨ha, fun dx hd ne => k dx hd ne⟩⟩
/-- what a raised BadText leaves -/
def Bad (H : Hp) (CB : Addr) (n : Int) (E : XK) : Prop := ∀ d H', Same H H' → H d = none → H' d = some (.xd (fV (.int n))) → E (.ref CB) (some d) H'
theorem Bad.same {H H1 : Hp} {CB : Addr} {n : Int} {E : XK} (s : Same H H1) (h : Bad H CB n E) : Bad H1 CB n E := fun d H' s' hd e => h d H' (s.trans s') (s.free hd) e
/-- raise BadText(e) in a def that errors leave -/
theorem ps_bad {X : Cx} {CB : Addr} {W : WX} {e : Expr} {te : TE} {p pos pos2 : Pos} (B : Err X.prog X.w X.K X.mg X.base CB) (hc : X.calm = true) (tk : L2.Takes X W) (hr : Room 2 X.A) (he : PE X e te) (hg : Gl X "BadText" := by rfl)
    (hst : starEach (e :: []) X.env = (false, eval e X.env) :: starEach [] X.env := by rfl) (hpl : (backTo pos (starEach [] X.env)).any (·.1) = false := by rfl) :
    PS X (.Raise (some (.Call (.Name "BadText" p) [e] [] pos)) none pos2) (fun _ σ H => tMkO CB (spEI X.K) [] (tCons te tNil) σ H fun cls d H' => W cls d σ H') := by
  obtain ⟨fI, fd, iC, tI, F1, hb⟩ := B.init
  exact ps_raise (W := W) (pos := pos2) hc tk (pmk_oex (pos := pos) (p := p) (ta := tCons te tNil) (dvs := []) B.ox iC tI F1 hr hb .nil pass0 hg B.gB (pa_cons he pa_nil hst) (by decide) hst hpl)
/-- its reading, behind e's -/
theorem bad_made {CB : Addr} {n : Int} {H1 : Hp} {R : XK} (B : Err P w K mg base CB) (h : Bad H1 CB n R) : ([V.int n] : List V).length ≤ 1000 ∧ ∀ a, H1 a = none → spEI K (.ref a :: ([V.int n] ++ [])) (upd H1 a (exo a CB none))
    (fun v H2 => v = .non ∧ ∃ (d : Addr) (fs : List (Str × V)), H2 a = some (exo a CB (some d)) ∧ H2 d = some (exd d fs) ∧ H1 d = none ∧ R (.ref CB) (some d) (upd (del H2 a) d (.xd fs))) (fun _ _ _ => False) := by
  refine ⟨(by show 1 ≤ 1000; decide), fun a ha => ⟨a, CB, .int n, rfl, B.ox, B.nv, upd_same, fun dx hdx ne => ⟨rfl, dx, fV (.int n), upd_same, ?_, ?_, ?_⟩⟩⟩
  · rw [upd_ne ne, upd_same]
  · rw [upd_ne ne] at hdx
    exact hdx
  · have d1 : H1 dx = none := by
      rw [upd_ne ne] at hdx
      exact hdx
    refine h dx _ (fun b o e => ?_) d1 upd_same
    have nba : b ≠ a := ne_of_none e ha
    have nbd : b ≠ dx := ne_of_none e d1
    rw [upd_ne nbd, del_ne nba, upd_ne nba, upd_ne nbd, upd_ne nba]
    exact e
/-! ### lines_of -/
def nl : Str := "\n"
def linesOf (z : Str) : List Str := Txt.split z nl
/-- what is no string -/
def NotStr (K : PySem.W.Frag) (H : Hp) (x : V) : Prop := ∃ t, TyX K H x t ∧ PySem.W.kitOne K t (.type "str") = some false
def spLines (K : PySem.W.Frag) (CB : Addr) : Sp := fun vs H Q E => ∃ x : V, vs = [x] ∧
  ((∃ z : Str, x = .str z ∧ z.length ≤ 1000000 ∧ ∀ p H', H p = none → Same H H' → H' p = some (.lst ((linesOf z).map V.str)) → Q (.ref p) H') ∨ (NotStr K H x ∧ Bad H CB (-1) E))
theorem scLines : FnScope ["text"] ["text"] (defScope sLines) := ⟨rfl, rfl, rfl, by decide +kernel, rfl, by decide +kernel, by decide +kernel⟩
theorem ok_lines {f CB : Addr} {fd : FuncData} (F : Fun K "lines_of" "lines_of" sLines f fd) (T : Txt3 K mg) (B : Err P w K mg base CB) : FnOk P w K mg base (L2.CX P w) 3 f fd ["text"] (spLines K CB) := by
  refine F.okX scLines (fun vs H Q E h => ?_) (fun cdv A outer s H vs Q E hr h => ?_)
  · obtain ⟨x, rfl, _⟩ := h
    rfl
  · obtain ⟨x, rfl, h⟩ := h
    refine ⟨_, pss_cons (ps_if (pt_not (pt_val (pe_callB call_isi (by rfl) T.isinst (by decide +kernel) (pa_cons (pv 0) (pa_cons (pe_bltn (v := .ty "str") (by rfl) T.str PyProof.Rows.boot_str rfl) pa_nil)))))
        (pss_one (ps_bad B rfl (takes_of rfl rfl rfl rfl) hr (pe_un un_neg pe_int))) pss_nil)
      (pss_one (ps_ret (pe_split (pv 0) pe_str))), ?_⟩
    rcases h with ⟨z, rfl, hz, k⟩ | ⟨⟨t, ty, kt⟩, bad⟩
    · refine ⟨_, rfl, _, _, _, _, true, rfl, .ty "str", .base (.str z), kit_ty (by decide +kernel), _, rfl, ?_⟩
      exact ⟨_, rfl, ⟨_, rfl⟩, _, _, rfl, rfl, by decide +kernel, Nat.le_trans (Nat.add_le_add_right hz 2) (by decide), fun p hp => k p _ hp (same_upd hp) upd_same⟩
    · refine ⟨_, rfl, _, _, _, _, false, rfl, .ty "str", ty, kt, _, rfl, ?_⟩
      exact ⟨1, rfl, bad_made B bad⟩
/-! ### read_parts -/
abbrev Row := Str × Str × Bool
/-- the number of the first wrong line, or what all tell -/
def readR (k : Nat) (acc : List Row) : List Str → Sum Nat (List Row)
  | [] => .inr acc
  | l :: r => match partOf (wordsOf l) with
    | none => .inl k
    | some p => if k = 4 ∨ p.1 ∈ acc.map (·.1) then .inl k else readR (k + 1) (acc ++ [p]) r
def rowV (r : Row) : List V := [.str r.1, .str r.2.1, .bl r.2.2]
def Rows (H : Hp) (ts : List Addr) (rows : List Row) : Prop := Paired (fun (t : Addr) (r : Row) => H t = some (.tup (rowV r))) ts rows
theorem rows_same {H H' : Hp} {ts : List Addr} {rows : List Row} (h : Rows H ts rows) (k : ∀ t xs, H t = some (.tup xs) → H' t = some (.tup xs)) : Rows H' ts rows := Paired.mapP h fun t r e => k t _ e
theorem rows_get {H : Hp} : ∀ {ts : List Addr} {rows : List Row}, Rows H ts rows → ∀ {j : Nat} {t : Addr}, ts[j]? = some t → ∃ r, rows[j]? = some r ∧ H t = some (.tup (rowV r))
  | _, _, .cons h _, 0, t, e => by
    cases e
    exact ⟨_, rfl, h⟩
  | _, _, .cons _ k, j + 1, t, e => by
    obtain ⟨r, e1, e2⟩ := rows_get (j := j) (t := t) k e
    exact ⟨r, e1, e2⟩
theorem rows_snoc {H : Hp} {t : Addr} {r : Row} : ∀ {ts : List Addr} {rows : List Row}, Rows H ts rows → H t = some (.tup (rowV r)) → Rows H (ts ++ [t]) (rows ++ [r])
  | _, _, .nil, last => .cons last .nil
  | _, _, .cons h k, e => .cons h (rows_snoc k e)
theorem flats (acc : List Row) : (acc.map fun r => V.str r.1).all flatV = true := by
  induction acc with
  | nil => rfl
  | cons r l ih =>
    show (flatV (.str r.1) && (l.map fun r => V.str r.1).all flatV) = true
    rw [ih]
    rfl
theorem inV_names (b : Str) (acc : List Row) : inV (.str b) (acc.map fun r => V.str r.1) = decide (b ∈ acc.map (·.1)) := by
  induction acc with
  | nil => rfl
  | cons r l ih =>
    show (eqV (.str r.1) (.str b) || inV (.str b) (l.map fun r => V.str r.1)) = _
    rw [ih]
    show ((r.1 == b) || decide (b ∈ l.map (·.1))) = decide (b ∈ r.1 :: l.map (·.1))
    by_cases h : r.1 = b
    · rw [h, beq_self_eq_true, Bool.true_or]
      exact (decide_eq_true List.mem_cons_self).symm
    · rw [beq_eq_false_iff_ne.mpr h, Bool.false_or]
      exact decide_eq_decide.mpr ⟨fun z => List.mem_cons_of_mem _ z, fun z => (List.mem_cons.mp z).resolve_left fun e => h e.symm⟩
def spRead (K : PySem.W.Frag) (CB : Addr) : Sp := fun vs H Q E => ∃ (a : Addr) (ls : List Str), vs = [.ref a] ∧ SqL K H a (ls.map V.str) ∧ ls.length ≤ 1000000 ∧ (∀ l ∈ ls, l.length ≤ 1000000 ∧ Asc l) ∧
  (∀ n : Nat, readR 0 [] ls = .inl n → Bad H CB (n : Int) E) ∧
  (∀ rows, readR 0 [] ls = .inr rows → ∀ p ts H', Same H H' → H p = none → H' p = some (.lst (ts.map V.ref)) → Rows H' ts rows → Q (.ref p) H')
abbrev nRead : List Str := ["lines", "rows", "number", "line", "part", "row"]
theorem scRead : FnScope nRead ["lines"] (defScope sReadParts) := ⟨rfl, rfl, rfl, by decide +kernel, rfl, by decide +kernel, by decide +kernel⟩
structure Txt4 (K : PySem.W.Frag) (mg : Str → Option Value) : Prop extends Txt3 K mg where
  enum : mg "enumerate" = none
  most : ∃ t, mg "MOST_PARTS" = some (.int 4 t)
theorem ok_read {f CB : Addr} {fd : FuncData} (F : Fun K "read_parts" "read_parts" sReadParts f fd) (T : Txt4 K mg) (B : Err P w K mg base CB) (GP : Has P w K mg base "part_of" 2 ["line"] spPart) : FnOk P w K mg base (L2.CX P w) 3 f fd ["lines"] (spRead K CB) := by
  refine F.okX scRead (fun vs H Q E h => ?_) (fun cdv A outer s H vs Q E hr h => ?_)
  · obtain ⟨a, ls, rfl, _⟩ := h
    rfl
  · obtain ⟨a, ls, rfl, hS, hl, hok, kB, kO⟩ := h
    obtain ⟨t4, g4⟩ := T.most
    refine ⟨_, pss_cons (ps_set (i := 1) scRead.nd rfl (.inl rfl) (pe_lst pa_nil))
      (pss_cons (ps_for (passes_of rfl) rfl (pi_enum (by rfl) T.enum (pa_cons (pv 0) pa_nil)) (pg_tup rfl (pgs_cons (pg_name (i := 2) scRead.nd rfl (.inl rfl)) (pgs_cons (pg_name (i := 3) scRead.nd rfl (.inl rfl)) pgs_nil)))
        (pss_cons (ps_set (i := 4) scRead.nd rfl (.inl rfl) (pe_has GP hr (pa_cons (pv 3) pa_nil)))
        (pss_cons (ps_if (PW.pt (pw_or (pt_cmpR op_eq (pv 2) (pe_glob (v := .int 4) (by rfl) g4 ⟨_, rfl⟩) (nomark _))
            (pw_or (pt_cmpR op_isN (pv 4) pe_non (nomark _))
            (pw_or1 (pt_cmpR op_in_seq (pe_ix ix_tup (pv 4) pe_int (fun _ _ => rfl)) (pe_lc (own := [("row", 5)]) (g := gName 5) (tt := tYes) rfl scRead.nd (pi_list (pv 1))
              (blkOk_by (N := nRead) (sc := defScope sReadParts) (by decide +kernel)) (fun _ _ _ _ _ => pg_name (i := 5) scRead.nd rfl (Or.inl rfl)) (fun _ _ _ _ _ => pts_nil)
              (fun _ _ _ _ _ => pe_ix (r := rIxT K) ix_tup (pv 5) pe_int (fun _ _ => rfl))) (by rfl))))))
          (pss_one (ps_bad B rfl (takes_of rfl rfl rfl rfl) hr (pv 2))) pss_nil)
        (pss_one (ps_expr (pe_bm PySem.F.plainAttrs_list PySem.F.slot_list_append PySem.F.type_list_append mt_append (pv 1) (pa_cons (pv 4) pa_nil)))))))
      (pss_one (ps_ret (pv (1))))), ?_⟩
    refine ⟨Nat.zero_le _, fun R nR => ?_⟩
    have sR : Same H (upd H R (.lst [])) := same_upd nR
    refine ⟨_, rfl, a, _, rfl, sR.seq hS, for_it (walk_enum (xs := ls.map V.str)) (fun i σ H1 => ∃ (ts : List Addr) (acc : List Row) (v2 v3 v4 : Option V), σ = [some (.ref a), some (.ref R), v2, v3, v4, none] ∧ Same H H1 ∧ H1 R = some (.lst (ts.map V.ref)) ∧ Rows H1 ts acc ∧
        acc.length = i ∧ readR 0 [] ls = readR i acc (ls.drop i)) ⟨[], [], none, none, none, rfl, sR, upd_same, .nil, rfl, rfl⟩ (fun i σ H1 _ ⟨_, _, _, _, _, _, s1, _⟩ => s1.seq hS) ?_ ?_⟩
    · rintro i x σ H1 H2 hi ⟨ts, acc, v2, v3, v4, rfl, s1, hR, hRows, ha, hrd⟩ ⟨T1, x1, x2, rfl, nT, rfl, e1, e2⟩
      obtain ⟨l, hl1, rfl⟩ : ∃ l, ls[i]? = some l ∧ V.str l = x2 := by
        have e2' : (ls.map V.str)[i]? = some x2 := e2
        rw [List.getElem?_map] at e2'
        exact Option.map_eq_some_iff.mp e2'
      obtain rfl : V.int (i : Int) = x1 := Option.some.inj e1
      obtain ⟨lm1, lm2⟩ := hok l (List.mem_of_getElem? hl1)
      have ed : ls.drop i = l :: ls.drop (i + 1) := by
        obtain ⟨hlt, hv⟩ := List.getElem?_eq_some_iff.mp hl1
        rw [List.drop_eq_getElem_cons hlt, hv]
      have hrd' : readR 0 [] ls = readR i acc (l :: ls.drop (i + 1)) := by rw [hrd, ed]
      have sT : Same H1 (upd H1 T1 (.tup [.int (i : Int), .str l])) := same_upd nT
      refine ⟨T1, _, rfl, SqT.of upd_same, rfl, .int (i : Int), _, rfl, .str l, _, rfl, rfl, ?_⟩
      refine ⟨_, rfl, l, rfl, lm1, lm2, fun H3 s3 => ?_⟩
      have s13 := sT.trans s3
      have s03 := s1.trans s13
      have hR3 := s13 _ _ hR
      cases hp : partOf (wordsOf l) with
      | none =>
        have hbad : Bad H CB (i : Int) E := kB i (by rw [hrd']; show (match partOf (wordsOf l) with | none => Sum.inl i | some p => _) = _; rw [hp])
        (refine ⟨_, rfl, rfl, _, rfl, ?_⟩)
        (refine ite2 (fun _ => ?_) (fun _ => ?_))
        · exact ⟨_, rfl, bad_made B (hbad.same s03)⟩
        · exact ⟨_, rfl, rfl, _, rfl, _, rfl, bad_made B (hbad.same s03)⟩
      | some row =>
        obtain ⟨b, c, t⟩ := row
        have hstep : readR 0 [] ls = if i = 4 ∨ b ∈ acc.map (·.1) then Sum.inl i else readR (i + 1) (acc ++ [(b, c, t)]) (ls.drop (i + 1)) := by
          rw [hrd']
          show (match partOf (wordsOf l) with | none => Sum.inl i | some p => _) = _
          rw [hp]
        intro p hp3
        (refine ⟨_, rfl, rfl, _, rfl, ?_⟩)
        have bad_if : (i = 4 ∨ b ∈ acc.map (·.1)) → ∀ H4, Same H3 H4 → Bad H4 CB (i : Int) E := fun c H4 s4 => (kB i (by rw [hstep, if_pos c])).same (s03.trans s4)
        refine ite2 (fun h4 => ?_) (fun h4 => ?_)
        · refine ⟨_, rfl, bad_made B (bad_if (.inl ?_) H3 (Same.refl _))⟩
          have := V.int.inj (of_decide_eq_true h4)
          omega
        have h4' : ¬ i = 4 := fun e => h4 (decide_eq_true (by rw [e]; rfl))
        (refine ⟨_, rfl, rfl, _, rfl, ?_⟩)
        refine ⟨_, rfl, p, _, 0, .str b, rfl, rfl, SqT.of hp3, atI_nat (j := 0) rfl, ?_⟩
        refine ⟨_, rfl, R, rfl, ⟨_, SqL.of hR3⟩, fun D nD => ?_⟩
        have hRows3 : Rows H3 ts acc := rows_same hRows fun t xs e => s13 _ _ e
        refine lc_list (K := K) (a := R) (xs := ts.map V.ref) (fun j H4 => Same H3 H4 ∧ H4 D = some (.lst ((acc.take j).map fun r => V.str r.1))) ⟨same_upd nD, upd_same⟩ (fun j H4 _ q => q.1.seq (SqL.of hR3)) ?_ ?_
        · rintro j x H4 hx ⟨s4, hD⟩
          obtain ⟨t1, ht1, rfl⟩ : ∃ t1, ts[j]? = some t1 ∧ V.ref t1 = x := by
            rw [List.getElem?_map] at hx
            exact Option.map_eq_some_iff.mp hx
          obtain ⟨r1, hr1, he1⟩ := rows_get hRows3 ht1
          refine ⟨rfl, _, rfl, t1, _, 0, .str r1.1, rfl, rfl, SqT.of (s4 _ _ he1), atI_nat (j := 0) rfl, _, hD, ?_, same_new s4 nD, ?_⟩
          · (rw [List.length_map, List.length_take])
            refine Nat.lt_of_le_of_lt (Nat.min_le_right _ _) ?_
            have : acc.length ≤ 1000000 := by
              have := (List.getElem?_eq_some_iff.mp hl1).1
              omega
            exact Nat.lt_of_le_of_lt this (by decide)
          · rw [upd_same, take_one hr1, List.map_append]
            rfl
        · rintro H4 ⟨s4, hD⟩
          have elen : (ts.map V.ref).length = acc.length := by
            rw [List.length_map]
            exact Paired.length hRows3
          rw [elen, List.take_length] at hD
          refine ⟨D, _, rfl, .inl (SqL.of hD), rfl, flats _, _, rfl, ?_⟩
          have ein := inV_names b acc
          refine ite2 (fun h5 => ?_) (fun h5 => ?_)
          · refine ⟨_, rfl, bad_made B (bad_if (.inr ?_) H4 s4)⟩
            have h5' : inV (.str b) (acc.map fun r => V.str r.1) = true := h5
            rw [ein] at h5'
            exact of_decide_eq_true h5'
          have h5' : ¬ b ∈ acc.map (·.1) := fun e => h5 (by
            show inV (.str b) (acc.map fun r => V.str r.1) = true
            rw [ein]
            exact decide_eq_true e)
          have hR4 := s4 _ _ hR3
          refine ⟨_, rfl, .inl ⟨rfl, _, SqL.of hR4⟩, _, rfl, R, _, _, rfl, rfl, hR4, ?_, ?_⟩
          · rw [elen]
            have := (List.getElem?_eq_some_iff.mp hl1).1
            exact Nat.lt_of_le_of_lt (show acc.length ≤ 1000000 by omega) (by decide)
          · have nt : ∀ (t1 : Addr) (xs : List V), H4 t1 = some (.tup xs) → t1 ≠ R := fun t1 xs e z => by
              rw [z, hR4] at e
              cases e
            refine ⟨ts ++ [p], acc ++ [(b, c, t)], _, _, _, rfl, same_new (s03.trans s4) nR, ?_, ?_, ?_, ?_⟩
            · rw [upd_same, List.map_append]
              rfl
            · refine rows_snoc (rows_same hRows3 fun t1 xs e => ?_) ?_
              · rw [upd_ne (nt t1 xs (s4 _ _ e))]
                exact s4 _ _ e
              · rw [upd_ne (nt p _ (s4 _ _ hp3))]
                exact s4 _ _ hp3
            · rw [List.length_append, ha]
              rfl
            · rw [hstep, if_neg (fun z => z.elim h4' h5')]
    · rintro σ H1 ⟨ts, acc, v2, v3, v4, rfl, s1, hR, hRows, ha, hrd⟩
      have e : readR 0 [] ls = .inr acc := by
        rw [hrd, List.length_map, List.drop_length]
        rfl
      exact ⟨_, rfl, kO acc e R ts H1 s1 nR hR hRows⟩
end
end K08

set_option Elab.async false
set_option linter.all false
namespace K08
open L2 PySem PySem.Spec PyProof.Rows
abbrev sPInit : Stmt := inClass (top 12) 0
abbrev sPText : Stmt := inClass (top 12) 1
abbrev sPParts : Stmt := inClass (top 12) 2
abbrev sPWays : Stmt := inClass (top 12) 3
abbrev sPTakes : Stmt := inClass (top 12) 4
abbrev sPEq : Stmt := inClass (top 12) 5
/-! ### a class made where what is raised is wished for at the slots -/
section
variable {X : Cx} {k : Nat} {f C : Addr} {fd : FuncData} {ps : List Str} {sp : Sp} {E : L2.St → XK} {x : Str} {p pos : Pos} {e : Expr} {es : List Expr} {t : TA}
def tMakeS (C : Addr) (sp : Sp) (E : L2.St → XK) (t : TA) : TE := fun σ H Q => t σ H fun vs H1 => ∀ x dx, H1 x = none → H1 dx = none → dx ≠ x → sp (.ref x :: vs) (upd (upd H1 dx (.own x)) x (.ins C dx [])) (fun v H2 => v = .non ∧ Q (.ref x) H2) (E σ)
theorem pe_makeS {CXX : CXT} (M : Mk X.K C f) (F : FnOk X.prog X.w X.K X.mg X.base CXX k f fd ps sp) (hr : Room (k + 1) X.A) (hg : Gl X x) (hm : X.mg x = some (.ref C)) (hb : Binds X.K fd ps []) (hx : ∀ σ, PassesAt CXX X σ (E σ))
    (ha : PA X (e :: es) t) (hdb : (x == ("__debug__" : Str)) = false := by (decide)) (he : starEach (e :: es) X.env = (false, eval e X.env) :: starEach es X.env := by rfl) (hpl : (backTo pos (starEach es X.env)).any (·.1) = false := by rfl) :
    PE X (.Call (.Name x p) (e :: es) [] pos) (tMakeS C sp E t) := by
  refine ⟨fun pins s σ H Q I h => wpAny_Call_Name_kw (ld_glob I hg hm ?_ hdb)⟩
  (refine PySem.W.callWith_K (h₀ := X.base) I.ok.mod.kin M.kp (thn (ha.run pos pins s σ H _ I h) fun us s1 ⟨vs, H1, I1, r, q⟩ => ⟨I1.kIn, ?_⟩) he hpl)
  have q1 := q (s1.heap.objs.size + 1) s1.heap.objs.size (I1.hok.fresh (Nat.le_succ _)) (I1.hok.fresh (Nat.le_refl _)) (Nat.ne_of_lt (Nat.lt_succ_self _))
  have J := Inv.made (C := C) I1
  have rr : Vals (V.ref (s1.heap.objs.size + 1) :: vs) (Value.ref (s1.heap.objs.size + 1) :: us) := .cons rfl r
  have count : (Value.ref (s1.heap.objs.size + 1) :: us ++ []).length = ps.length := by
    rw [List.append_nil, ← rr.length]
    exact F.len _ _ _ _ q1
  have bound := hb _ (Value.ref (s1.heap.objs.size + 1) :: us) J.kIn count
  rw [List.append_nil] at bound
  refine wpAny_call (make_map (f := f) I1.kIn M.makes M.init (beq_iff_eq.mp M.fn) (codeAny_mono (F.run _ X.stack _ _ ⟨Value.ref (s1.heap.objs.size + 1) :: us, []⟩ (Value.ref (s1.heap.objs.size + 1) :: us) _ _ (E σ) (hr.make C us [])
    (J.env0.make C us []) bound rr q1) fun r s' out => ?_))
  cases r with
  | error er => exact hx σ pins _ _ er s' J out
  | ok fl =>
    cases fl with
    | ret u =>
      obtain ⟨v, H', I3, rv, ev, q3⟩ := J.after out
      subst ev
      exact ⟨rv, ⟨V.ref (s1.heap.objs.size + 1), H', I3, rfl, q3⟩⟩
    | next => exact False.elim out
    | brk => exact False.elim out
    | cont => exact False.elim out
end
def HasX (P : Program) (w : World) (K : PySem.W.Frag) (mg : Str → Option Value) (base : Heap) (nm : Str) (k : Nat) (ps : List Str) (sp : Sp) : Prop :=
  ∃ (f : Addr) (fd : FuncData), FnOk P w K mg base (L2.CX P w) k f fd ps sp ∧ mg nm = some (.ref f) ∧ PySem.W.keepIn K (.ref f) = true ∧ Binds K fd ps []
theorem pe_hasX {X : Cx} {nm : Str} {k : Nat} {ps : List Str} {sp : Sp} {W : WX} {e : Expr} {es : List Expr} {t : TA} {p pos : Pos} (h : HasX X.prog X.w X.K X.mg X.base nm k ps sp) (tk : L2.Takes X W) (hr : Room k X.A) (ha : PA X (e :: es) t) (hg : Gl X nm := by rfl)
    (hdb : (nm == ("__debug__" : Str)) = false := by decide) (he : starEach (e :: es) X.env = (false, eval e X.env) :: starEach es X.env := by rfl) (hpl : (backTo pos (starEach es X.env)).any (·.1) = false := by rfl) :
    PE X (.Call (.Name nm p) (e :: es) [] pos) (tCallS sp (WE W) t) := by
  obtain ⟨f, fd, F, hm, hk, hb⟩ := h
  exact pe_callS F hr hg hm hk hb (fun σ => passAt tk σ) ha hdb he hpl
/-! ### Plan -/
def pf (z : Str) (a b c : Addr) : List (Str × V) := putF "_takes" (.ref c) (putF "_ways" (.ref b) (putF "_parts" (.ref a) (putF "_text" (.str z) [])))
structure PlanT (K : PySem.W.Frag) (mg : Str → Option Value) (C : Addr) : Prop where
  cl : Cls K C
  gP : mg "Plan" = some (.ref C)
  n1 : NoAttr K C "_text"
  n2 : NoAttr K C "_parts"
  n3 : NoAttr K C "_ways"
  n4 : NoAttr K C "_takes"
  tuple : mg "tuple" = none
  isinst : mg "isinstance" = none
theorem split_count (z y : Str) (hy : (tx y).length = 1) : (Txt.split z y).length ≤ z.length + 1 := by
  have e : TL.tl (Str.join y (Txt.split z y)) = TL.tl z := by rw [StrLaws.join_split]
  rw [TL.tl_join] at e
  have count : ∀ ps : List (List Nat), ps.length ≤ (TL.joinL (TL.tl y) ps).length + 1 := by
    intro ps
    induction ps with
    | nil => exact Nat.zero_le _
    | cons p r ih =>
      cases r with
      | nil => exact Nat.succ_le_succ (Nat.zero_le _)
      | cons q l =>
        show (q :: l).length + 1 ≤ (p ++ (TL.tl y ++ TL.joinL (TL.tl y) (q :: l))).length + 1
        rw [List.length_append, List.length_append]
        have : (TL.tl y).length = 1 := hy
        omega
  have := count ((Txt.split z y).map TL.tl)
  rw [e, List.length_map] at this
  rw [TL.len_tl z]
  exact this
theorem readR_len : ∀ {ls : List Str} {k : Nat} {acc rows : List Row}, readR k acc ls = .inr rows → rows.length ≤ acc.length + ls.length
  | [], k, acc, rows, h => by
    cases h
    exact Nat.le_refl _
  | l :: r, k, acc, rows, h => by
    have h' : (match partOf (wordsOf l) with | none => Sum.inl k | some p => if k = 4 ∨ p.1 ∈ acc.map (fun q : Row => q.1) then Sum.inl k else readR (k + 1) (acc ++ [p]) r) = .inr rows := h
    cases hp : partOf (wordsOf l) with
    | none =>
      rw [hp] at h'
      cases h'
    | some p =>
      rw [hp] at h'
      have h2 : (if k = 4 ∨ p.1 ∈ acc.map (·.1) then Sum.inl k else readR (k + 1) (acc ++ [p]) r) = .inr rows := h'
      by_cases c : k = 4 ∨ p.1 ∈ acc.map (·.1)
      · rw [if_pos c] at h2
        cases h2
      · rw [if_neg c] at h2
        have := readR_len h2
        rw [List.length_append] at this
        simp only [List.length_cons, List.length_nil] at this ⊢
        omega
theorem putF_len {f : Str} {y : V} : ∀ fs : List (Str × V), (putF f y fs).length ≤ fs.length + 1
  | [] => Nat.le_refl _
  | (g, x) :: r => by
    show (if g = f then (g, y) :: r else (g, x) :: putF f y r).length ≤ r.length + 1 + 1
    by_cases h : g = f
    · rw [if_pos h]
      exact Nat.le_succ _
    · rw [if_neg h]
      exact Nat.succ_le_succ (putF_len r)
section
variable {K : PySem.W.Frag}
/-- [row[j] for row in rows] -/
theorem col_lc {σ : L2.St} {H : Hp} {Q : VK} {te : TE} {R : Addr} {ts : List Addr} {rows : List Row} {col : Row → V} (h2 : σ[2]? = some (some (.ref R))) (hR : SqL K H R (ts.map V.ref)) (hr : Rows H ts rows) (hl : rows.length ≤ 1000000)
    (hw : ∀ v, wipe ((wipe σ [3]).set 3 (some v)) [3] = wipe σ [3]) (he : ∀ (t : Addr) (r : Row) (H1 : Hp) (R' : VK), H1 t = some (.tup (rowV r)) → R' (col r) H1 → te ((wipe σ [3]).set 3 (some (.ref t))) H1 R')
    (k : ∀ D H', Same H H' → H D = none → H' D = some (.lst (rows.map col)) → Q (.ref D) H') : tLc (iList K (tVar 2)) (gName 3) tYes te [3] σ H Q := by
  refine ⟨_, h2, R, rfl, ⟨_, hR⟩, fun D nD => ?_⟩
  refine lc_list (K := K) (a := R) (xs := ts.map V.ref) (fun j H4 => Same H H4 ∧ H4 D = some (.lst ((rows.take j).map col))) ⟨same_upd nD, upd_same⟩ (fun j H4 _ q => q.1.seq hR) ?_ ?_
  · rintro j x H4 hx ⟨s4, hD⟩
    obtain ⟨t1, ht1, rfl⟩ : ∃ t1, ts[j]? = some t1 ∧ V.ref t1 = x := by
      rw [List.getElem?_map] at hx
      exact Option.map_eq_some_iff.mp hx
    obtain ⟨r1, hr1, he1⟩ := rows_get hr ht1
    refine ⟨hw _, ?_⟩
    show te _ H4 _
    refine he t1 r1 H4 _ (s4 _ _ he1) ⟨_, hD, ?_, same_new s4 nD, ?_⟩
    · (rw [List.length_map, List.length_take])
      exact Nat.lt_of_le_of_lt (Nat.le_trans (Nat.min_le_right _ _) hl) (by decide)
    · rw [upd_same, take_one hr1, List.map_append]
      rfl
  · rintro H4 ⟨s4, hD⟩
    have elen : (ts.map V.ref).length = rows.length := by
      rw [List.length_map]
      exact Paired.length hr
    rw [elen, List.take_length] at hD
    exact k D H4 s4 nD hD
/-- self.F = tuple([row[j] for row in rows]) -/
theorem fld_col {σ : L2.St} {H : Hp} {D : Ends} {te : TE} {R p C dx : Addr} {fs : List (Str × V)} {F : Str} {ts : List Addr} {rows : List Row} {col : Row → V} (h0 : σ[0]? = some (some (.ref p))) (h2 : σ[2]? = some (some (.ref R)))
    (hR : H R = some (.lst (ts.map V.ref))) (hr : Rows H ts rows) (hl : rows.length ≤ 1000000) (hp : H p = some (.ins C dx fs)) (c : Cls K C) (n : NoAttr K C F) (hf : fs.length < 1000)
    (hw : ∀ v, wipe ((wipe σ [3]).set 3 (some v)) [3] = wipe σ [3]) (he : ∀ (t : Addr) (r : Row) (H1 : Hp) (R' : VK), H1 t = some (.tup (rowV r)) → R' (col r) H1 → te ((wipe σ [3]).set 3 (some (.ref t))) H1 R')
    (k : ∀ H' l, Keep p H H' → H' p = some (.ins C dx (putF F (.ref l) fs)) → H' l = some (.tup (rows.map col)) → D.nx σ H') :
    sFld K (tVar 0) (tCB (fun xs H Q => ∃ p ys, xs = [.ref p] ∧ ((SqL K H p ys ∧ ∀ l, H l = none → Q (.ref l) (upd H l (.tup ys))) ∨ (SqT K H p ys ∧ Q (.ref p) H))) (tCons (tLc (iList K (tVar 2)) (gName 3) tYes te [3]) tNil)) F D σ H := by
  unfold sFld tCB tCons
  refine col_lc h2 (SqL.of hR) hr hl hw he fun D1 H4 s4 nD hD => ?_
  refine ⟨D1, _, rfl, .inl ⟨SqL.of hD, fun l hl1 => ?_⟩⟩
  have s5 := same_upd (o := .tup (rows.map col)) hl1
  have hp5 := s5 _ _ (s4 _ _ hp)
  have nl : l ≠ p := fun z => by
    rw [z, s4 _ _ hp] at hl1
    cases hl1
  refine ⟨_, h0, p, C, dx, fs, rfl, hp5, c, n, hf, k _ l ((K08.Same.keep (s4.trans s5)).trans Keep.put) upd_same ?_⟩
  rw [upd_ne nl, upd_same]
end
def spPI (K : PySem.W.Frag) (C CB : Addr) : Sp := fun vs H Q E => ∃ (p dx : Addr) (x : V), vs = [.ref p, x] ∧ H p = some (.ins C dx []) ∧
  ((NotStr K H x ∧ Bad H CB (-1) E) ∨ ∃ z : Str, x = .str z ∧ z.length ≤ 100000 ∧ Asc z ∧ (∀ n : Nat, readR 0 [] (linesOf z) = .inl n → Bad H CB (n : Int) E) ∧
    (∀ rows, readR 0 [] (linesOf z) = .inr rows → ∀ (H' : Hp) (a b c : Addr), Keep p H H' → H' p = some (.ins C dx (pf z a b c)) → H' a = some (.tup (rows.map fun r => V.str r.1)) → H' b = some (.tup (rows.map fun r => V.str r.2.1)) →
      H' c = some (.tup (rows.map fun r => V.bl r.2.2)) → Q .non H'))
abbrev nPInit : List Str := ["self", "text", "rows", "row"]
section
variable {base : Heap} {P : Program} {w : World} {K : PySem.W.Frag} {mg : Str → Option Value}
theorem scPInit : FnScope nPInit ["self", "text"] (defScope sPInit) := ⟨rfl, rfl, rfl, by decide +kernel, rfl, by decide +kernel, by decide +kernel⟩
theorem ok_pinit {f C CB : Addr} {fd : FuncData} (F : Fun K "__init__" "Plan.__init__" sPInit f fd) (T : PlanT K mg C) (GL : HasX P w K mg base "lines_of" 3 ["text"] (spLines K CB)) (GR : HasX P w K mg base "read_parts" 3 ["lines"] (spRead K CB)) :
    FnOk P w K mg base (L2.CX P w) 4 f fd ["self", "text"] (spPI K C CB) := by
  refine F.okX scPInit (fun vs H Q E h => ?_) (fun cdv A outer s H vs Q E hr h => ?_)
  · obtain ⟨p, dx, x, rfl, _⟩ := h
    rfl
  · obtain ⟨p, dx, x, rfl, hp, h⟩ := h
    refine ⟨_, pss_cons (ps_set (i := 2) scPInit.nd rfl (.inl rfl) (pe_hasX GR (takes_of rfl rfl rfl rfl) hr (pa_cons (pe_hasX GL (takes_of rfl rfl rfl rfl) hr (pa_cons (pv 1) pa_nil)) pa_nil)))
      (pss_cons (ps_fld (pv 0) (pv 1) rfl)
      (pss_cons (ps_fld (pv 0) (pe_callTy call_tuple_of (by rfl) T.tuple (by decide +kernel) (pa_cons (pe_lc (own := [("row", 3)]) (g := gName 3) (tt := tYes) rfl scPInit.nd (pi_list (pv 2))
              (blkOk_by (N := nPInit) (sc := defScope sPInit) (by decide +kernel)) (fun _ _ _ _ _ => pg_name (i := 3) scPInit.nd rfl (Or.inl rfl)) (fun _ _ _ _ _ => pts_nil) (fun _ _ _ _ _ => pe_ix (r := rIxT K) ix_tup (pv 3) pe_int (fun _ _ => rfl))) pa_nil)) rfl)
      (pss_cons (ps_fld (pv 0) (pe_callTy call_tuple_of (by rfl) T.tuple (by decide +kernel) (pa_cons (pe_lc (own := [("row", 3)]) (g := gName 3) (tt := tYes) rfl scPInit.nd (pi_list (pv 2))
              (blkOk_by (N := nPInit) (sc := defScope sPInit) (by decide +kernel)) (fun _ _ _ _ _ => pg_name (i := 3) scPInit.nd rfl (Or.inl rfl)) (fun _ _ _ _ _ => pts_nil) (fun _ _ _ _ _ => pe_ix (r := rIxT K) ix_tup (pv 3) pe_int (fun _ _ => rfl))) pa_nil)) rfl)
      (pss_one (ps_fld (pv 0) (pe_callTy call_tuple_of (by rfl) T.tuple (by decide +kernel) (pa_cons (pe_lc (own := [("row", 3)]) (g := gName 3) (tt := tYes) rfl scPInit.nd (pi_list (pv 2))
              (blkOk_by (N := nPInit) (sc := defScope sPInit) (by decide +kernel)) (fun _ _ _ _ _ => pg_name (i := 3) scPInit.nd rfl (Or.inl rfl)) (fun _ _ _ _ _ => pts_nil) (fun _ _ _ _ _ => pe_ix (r := rIxT K) ix_tup (pv 3) pe_int (fun _ _ => rfl))) pa_nil)) rfl))))), ?_⟩
    rcases h with ⟨ns, bad⟩ | ⟨z, rfl, hz, asc, kB, kO⟩
    · exact ⟨_, rfl, x, rfl, .inr ⟨ns, bad⟩⟩
    refine ⟨_, rfl, _, rfl, .inl ⟨z, rfl, Nat.le_trans hz (by decide), fun p1 H1 np s1 h1 => ?_⟩⟩
    have cnt : (linesOf z).length ≤ 1000000 := Nat.le_trans (split_count z nl (by decide +kernel)) (by omega)
    refine ⟨p1, linesOf z, rfl, SqL.of h1, cnt, fun l hl => ⟨Nat.le_trans (split_mem hl).2 (Nat.le_trans hz (by decide)), fun c hc => asc c ((split_mem hl).1 c hc)⟩, fun n e => (kB n e).same s1, fun rows e R ts H2 s2 nR hR hRows => ?_⟩
    have hp2 := s2 _ _ (s1 _ _ hp)
    have len : rows.length ≤ 1000000 := Nat.le_trans (readR_len e) (by rw [List.length_nil]; omega)
    refine ⟨_, rfl, _, rfl, p, C, dx, [], rfl, hp2, T.cl, T.n1, (by show 0 < 1000; decide), ?_⟩
    -- the three tuples
    have tupNe : ∀ {Hx : Hp} {fs : List (Str × V)} {t : Addr} {xs : List V}, Hx p = some (.ins C dx fs) → Hx t = some (.tup xs) → t ≠ p := fun {Hx fs t xs} a b e => by
      rw [e, a] at b
      cases b
    have k3 : Keep p H2 (upd H2 p (.ins C dx (putF "_text" (.str z) []))) := Keep.put
    have hR3 := k3 _ _ (fun e => by rw [e, hp2] at hR; cases hR) hR
    have hr3 : Rows (upd H2 p (.ins C dx (putF "_text" (.str z) []))) ts rows := rows_same hRows fun t xs e => k3 _ _ (tupNe hp2 e) e
    have k03 : Keep p H (upd H2 p (.ins C dx (putF "_text" (.str z) []))) := (K08.Same.keep (s1.trans s2)).trans k3
    dsimp only [tSeq, tAsg, List.map]
    refine fld_col (K := K) (R := R) (p := p) (C := C) (dx := dx) (ts := ts) (rows := rows) (col := fun r => V.str r.1) ?_ ?_ hR3 hr3 len upd_same T.cl T.n2 ?_ ?_ ?_ ?_
    · rfl
    · rfl
    · show 1 < 1000
      decide
    · exact fun _ => rfl
    · exact fun t r H1 R' e q => ⟨_, rfl, t, _, 0, .str r.1, rfl, rfl, SqT.of e, atI_nat (j := 0) rfl, q⟩
    intro H4 a k4 hp4 ha4
    have k04 := k03.trans k4
    have hR4 := k4 _ _ (fun e => by rw [e, upd_same] at hR3; cases hR3) hR3
    have hr4 : Rows H4 ts rows := rows_same hr3 fun t xs e => k4 _ _ (tupNe upd_same e) e
    have len4 := putF_len (f := "_parts") (y := .ref a) (putF "_text" (.str z) [])
    refine fld_col (K := K) (R := R) (p := p) (C := C) (dx := dx) (ts := ts) (rows := rows) (col := fun r => V.str r.2.1) ?_ ?_ hR4 hr4 len hp4 T.cl T.n3 ?_ ?_ ?_ ?_
    · rfl
    · rfl
    · exact Nat.lt_of_le_of_lt len4 (by show 2 < 1000; decide)
    · exact fun _ => rfl
    · exact fun t r H1 R' e q => ⟨_, rfl, t, _, 1, .str r.2.1, rfl, rfl, SqT.of e, atI_nat (j := 1) rfl, q⟩
    intro H5 b k5 hp5 hb5
    have k05 := k04.trans k5
    have hR5 := k5 _ _ (fun e => by rw [e, hp4] at hR4; cases hR4) hR4
    have hr5 : Rows H5 ts rows := rows_same hr4 fun t xs e => k5 _ _ (tupNe hp4 e) e
    have len5 := putF_len (f := "_ways") (y := .ref b) (putF "_parts" (.ref a) (putF "_text" (.str z) []))
    refine fld_col (K := K) (R := R) (p := p) (C := C) (dx := dx) (ts := ts) (rows := rows) (col := fun r => V.bl r.2.2) ?_ ?_ hR5 hr5 len hp5 T.cl T.n4 ?_ ?_ ?_ ?_
    · rfl
    · rfl
    · exact Nat.lt_of_le_of_lt len5 (Nat.lt_of_le_of_lt (Nat.succ_le_succ len4) (by show 3 < 1000; decide))
    · exact fun _ => rfl
    · exact fun t r H1 R' e q => ⟨_, rfl, t, _, 2, .bl r.2.2, rfl, rfl, SqT.of e, atI_nat (j := 2) rfl, q⟩
    intro H6 c k6 hp6 hc6
    have na : ∀ {Hx : Hp} {fs : List (Str × V)} {t : Addr} {xs : List V}, Hx p = some (.ins C dx fs) → Hx t = some (.tup xs) → t ≠ p := tupNe
    have ha5 := k5 _ _ (na hp4 ha4) ha4
    exact kO rows e H6 a b c (k05.trans k6) hp6 (k6 _ _ (na hp5 ha5) ha5) (k6 _ _ (na hp5 hb5) hb5) hc6
end
end K08

set_option Elab.async false
set_option linter.all false
namespace K08
open L2 PySem PySem.Spec PyProof.Rows
section
variable {base : Heap} {P : Program} {w : World} {K : PySem.W.Frag} {mg : Str → Option Value}
/-! ### properties -/
theorem scSelf (st : Stmt) (h : defScope st = defScope sPText) : FnScope ["self"] ["self"] (defScope st) := by
  rw [h]
  exact ⟨rfl, rfl, rfl, by decide +kernel, rfl, by decide +kernel, by decide +kernel⟩
theorem ok_get {x qual fl : Str} {st : Stmt} {f C : Addr} {fd : FuncData} {p1 p2 p3 : Pos} (F : Fun K x qual st f fd) (hs : defScope st = defScope sPText) (hb : defBody st = [.Return (some (.Attribute (.Name "self" p1) fl p2)) p3]) (c : Cls K C) (n : NoAttr K C fl) :
    FnOk P w K mg base CX0 1 f fd ["self"] (getSp C fl) := by
  (obtain ⟨oc, od, kV, doc, pm, an, cdv, ct, osl, rfl, lk, hcd⟩ := F.ex)
  exact fn_getter lk hcd (scSelf st hs) rfl hb c n
/-- a property of Plan -/
def HasP (P : Program) (w : World) (K : PySem.W.Frag) (mg : Str → Option Value) (base : Heap) (C : Addr) (nm fl : Str) : Prop :=
  ∃ (p g : Addr) (fd : FuncData), PropOf K C nm p g ∧ FnOk P w K mg base CX0 1 g fd ["self"] (getSp C fl) ∧ Binds K fd ["self"] []
def tGet (C : Addr) (fl : Str) (te : TE) : TE := tProp C (getSp C fl) [] E0 te
theorem pe_get {X : Cx} {C : Addr} {nm fl : Str} {e : Expr} {te : TE} {pos : Pos} (h : HasP X.prog X.w X.K X.mg X.base C nm fl) (c : Cls X.K C) (hr : Room 2 X.A) (he : PE X e te) (hab : attributeBase e nm X.env (eval e X.env) = eval e X.env := by rfl) :
    PE X (.Attribute e nm pos) (tGet C fl te) := by
  obtain ⟨p, g, fd, hp, F, hb⟩ := h
  exact pe_prop he c hp F hr hb .nil pass0 hab
/-! ### == of plans -/
def spPEq (K : PySem.W.Frag) (C : Addr) : Sp := fun vs H Q _ => ∃ (a dx : Addr) (fs : List (Str × V)) (z : Str) (y : V), vs = [.ref a, y] ∧ H a = some (.ins C dx fs) ∧ fs.lookup ("_text" : Str) = some (.str z) ∧
  ((∃ t, TyX K H y t ∧ PySem.W.kitOne K t (.ref C) = some false ∧ ∀ H', Same H H' → Q (.bl false) H') ∨
   (∃ (b dy : Addr) (gs : List (Str × V)) (u : Str) (t : Value), y = .ref b ∧ H b = some (.ins C dy gs) ∧ gs.lookup ("_text" : Str) = some (.str u) ∧ TyX K H y t ∧ PySem.W.kitOne K t (.ref C) = some true ∧ ∀ H', Same H H' → Q (.bl (decide (z = u))) H'))
theorem scPEq : FnScope ["self", "other"] ["self", "other"] (defScope sPEq) := ⟨rfl, rfl, rfl, by decide +kernel, rfl, by decide +kernel, by decide +kernel⟩
theorem ok_peq {f C : Addr} {fd : FuncData} (F : Fun K "__eq__" "Plan.__eq__" sPEq f fd) (T : PlanT K mg C) : FnOk P w K mg base CX0 1 f fd ["self", "other"] (spPEq K C) := by
  refine F.ok scPEq (fun vs H Q E h => ?_) (fun cdv A outer s H vs Q E hr h => ?_)
  · obtain ⟨a, dx, fs, z, y, rfl, _⟩ := h
    rfl
  · obtain ⟨a, dx, fs, z, y, rfl, ha, hl, h⟩ := h
    refine ⟨_, pss_one (ps_ret (pe_and (pe_callB call_isi (by rfl) T.isinst (by decide +kernel) (pa_cons (pv 1) (pa_cons (pe_glob (v := .ref C) (by rfl) T.gP rfl) pa_nil)))
      (pe_one (pe_cmpR op_eq (pe_fld (pv 0) rfl) (pe_fld (pv 1) rfl) (nomark _))))), ?_⟩
    rcases h with ⟨t, ty, kt, k⟩ | ⟨b, dy, gs, u, t, rfl, hb, hl2, ty, kt, k⟩
    · exact ⟨_, rfl, y, .ref C, t, .ref C, false, rfl, .own C, ty, kt, _, rfl, k H (Same.refl H)⟩
    · refine ⟨_, rfl, .ref b, .ref C, t, .ref C, true, rfl, .own C, ty, kt, _, rfl, _, rfl, a, C, dx, fs, .str z, rfl, ha, T.cl, T.n1, hl, _, rfl, b, C, dy, gs, .str u, rfl, hb, T.cl, T.n1, hl2, rfl, ?_⟩
      have e : decide (V.str z = V.str u) = decide (z = u) := decide_eq_decide.mpr ⟨V.str.inj, congrArg V.str⟩
      rw [e]
      exact k H (Same.refl H)
end
/-- made == y, made a Plan -/
def rOwnEq (K : PySem.W.Frag) (C : Addr) : R2 := fun x y H Q => ∃ (a dx : Addr) (fs : List (Str × V)) (t : Value), x = .ref a ∧ H a = some (.ins C dx fs) ∧ TyX K H y t ∧ PySem.W.notFirst K C t = true ∧ spPEq K C [x, y] H Q E0
theorem op_ownEq {X : Cx} {C g : Addr} {fd : FuncData} (hs : PySem.W.findIn X.K (.ref C) "__eq__" = some (some (.ref g))) (hf : PySem.W.isFn X.K (.ref g) = true) (F : FnOk X.prog X.w X.K X.mg X.base CX0 1 g fd ["self", "other"] (spPEq X.K C)) (hb : Binds X.K fd ["self", "other"] []) (hr : Room 1 X.A) :
    OpR X (compareOp .Eq) (rOwnEq X.K C) := by
  (intro pins s σ H x y v u Q I rx ry h)
  obtain ⟨a, dx, fs, t, rfl, ha, ty, hn, q⟩ := h
  (cases (show v = Value.ref a from rx))
  (obtain ⟨mA, J, _⟩ := ins_get I.hok ha)
  obtain ⟨od, J, _⟩ := J.look
  obtain ⟨m, hF⟩ := I.fr
  obtain ⟨Pz, Z, pz, _⟩ := kit_of I ry ty
  show wpAny (model X.prog X.w) X.A (richCompare .Eq (.ref a) u) (EP X pins σ Q) X.xe s
  refine PySem.W.cmp_K (op := .Eq) (tb := t) hr.units0 hF I.ok.mod.kin J (Z.ty _ _ I.kIn pz) hn hs hf ?_
  have rv : Vals [V.ref a, y] [Value.ref a, u] := .cons rfl (.cons ry .nil)
  refine wpAny_mono (run_fn (ds := []) (dvs := []) F hr hb .nil pass0 I rv (show spPEq X.K C ([V.ref a, y] ++ []) H (fun v H' => (∃ b, v = .bl b) ∧ Q v H') E0 from ?_)) (fun w s' z => ?_) fun _ _ x => x
  · obtain ⟨a', dx', fs', z, y', e, ha', hl, h⟩ := q
    refine ⟨a', dx', fs', z, y', e, ha', hl, ?_⟩
    rcases h with ⟨t', ty', kt, k⟩ | ⟨b, dy, gs, u', t', e2, hb', hl2, ty', kt, k⟩
    · exact .inl ⟨t', ty', kt, fun H' s' => ⟨⟨_, rfl⟩, k H' s'⟩⟩
    · exact .inr ⟨b, dy, gs, u', t', e2, hb', hl2, ty', kt, fun H' s' => ⟨⟨_, rfl⟩, k H' s'⟩⟩
  · obtain ⟨v, H', I', rw', ⟨b, eb⟩, q'⟩ := z
    subst eb
    obtain rfl : w = Value.bool b := rw'
    exact ⟨.bl b, H', I', rfl, q'⟩
end K08

set_option Elab.async false
set_option linter.all false
namespace K08
open PySem L2
abbrev sLWrong : Stmt := top 23
section
variable {base : Heap} {P : Program} {w : World} {K : PySem.W.Frag} {mg : Str → Option Value}
/-! ### the law's own look at names -/
abbrev nLIsName : List Str := ["_law_word", "_law_sign"]
theorem scLIsName : FnScope nLIsName ["_law_word"] (defScope sLIsName) := ⟨rfl, rfl, rfl, by decide +kernel, rfl, by decide +kernel, by decide +kernel⟩
theorem ok_lisName {f : Addr} {fd : FuncData} (F : Fun K "_law_is_name" "_law_is_name" sLIsName f fd) (T : Txt2 K mg) : FnOk P w K mg base CX0 1 f fd ["_law_word"] spName := by
  refine F.ok scLIsName (fun vs H Q E h => ?_) (fun cdv A outer s H vs Q E hr h => ?_)
  · obtain ⟨z, rfl, _⟩ := h
    rfl
  · obtain ⟨z, rfl, hz, k⟩ := h
    refine ⟨_, pss_one (ps_ret (pe_and (pe_chain op_lt op_lt pe_int (pe_callB call_len_str (by rfl) T.len PySem.boot_len (pa_cons (pv 0) pa_nil)) pe_int)
      (pe_one (pe_callB (cr_all rfl) (by rfl) T.all (by decide +kernel) (pa_cons (pe_lc (own := [("_law_sign", 1)]) (g := gName 1) (tt := tYes) rfl scLIsName.nd (pi_str (pv 0))
          (blkOk_by (N := nLIsName) (sc := defScope sLIsName) (by decide +kernel)) (fun _ _ _ _ _ => pg_name (i := 1) scLIsName.nd rfl (Or.inl rfl)) (fun _ _ _ _ _ => pts_nil)
          (fun _ _ _ _ _ => pe_cmpR op_in_sign (pv 1) pe_str (by rfl))) pa_nil))))), ?_⟩
    refine ⟨_, rfl, z, rfl, Nat.le_trans hz (by decide), _, _, rfl, rfl, _, rfl, ?_⟩
    refine ite2 (fun h1 => ?_) (fun h1 => ?_)
    · refine ⟨_, _, rfl, rfl, _, rfl, ?_⟩
      refine ite2 (fun h2 => ?_) (fun h2 => ?_)
      · dsimp only [tCB, tCons, List.map]
        refine signs_all (z := z) ?_ hz ?_ ?_ ?_
        · rfl
        · exact fun _ => rfl
        · exact fun c H1 R q => ⟨_, rfl, c, abc, rfl, rfl, q⟩
        intro D H1 s1 hl
        refine ⟨D, _, rfl, SqL.of hl, ?_⟩
        have e : nameB z = ((tx z).map fun c => decide (c ∈ tx abc)).all id := by
          rw [all_map_id]
          unfold nameB
          rw [decide_eq_true (show 1 ≤ z.length by have := of_decide_eq_true h1; omega), decide_eq_true (show z.length ≤ 8 by have := of_decide_eq_true h2; omega)]
          rfl
        rw [← e]
        exact k H1 s1
      · have e : nameB z = false := by
          unfold nameB
          rw [decide_eq_false (show ¬ z.length ≤ 8 from fun q => h2 (decide_eq_true (by omega)))]
          simp
        have q := k H (Same.refl H)
        rw [e] at q
        exact q
    · have e : nameB z = false := by
        unfold nameB
        rw [decide_eq_false (show ¬ 1 ≤ z.length from fun q => h1 (decide_eq_true (by omega)))]
        simp
      have q := k H (Same.refl H)
      rw [e] at q
      exact ⟨_, rfl, q⟩
/-! ### the law's own look at texts -/
theorem flats1 (l : List Str) : (l.map V.str).all flatV = true := by
  induction l with
  | nil => rfl
  | cons r l ih =>
    show (flatV (.str r) && (l.map V.str).all flatV) = true
    rw [ih]
    rfl
def optV : Option Nat → V
  | none => .non
  | some n => .int (n : Int)
def wrongN (z : Str) : Option Nat := match readR 0 [] (linesOf z) with
  | .inl n => some n
  | .inr _ => none
def spWrong : Sp := fun vs H Q _ => ∃ z : Str, vs = [.str z] ∧ z.length ≤ 100000 ∧ Asc z ∧ ∀ H', Same H H' → Q (optV (wrongN z)) H'
abbrev nLWrong : List Str := ["_law_text", "_law_names_here", "_law_number", "_law_line_here", "_law_words", "_law_is_long"]
theorem scLWrong : FnScope nLWrong ["_law_text"] (defScope sLWrong) := ⟨rfl, rfl, rfl, by decide +kernel, rfl, by decide +kernel, by decide +kernel⟩
theorem ok_wrong {f : Addr} {fd : FuncData} (F : Fun K "_law_wrong" "_law_wrong" sLWrong f fd) (T : Txt4 K mg) (GN : Has P w K mg base "_law_is_name" 1 ["_law_word"] spName) : FnOk P w K mg base CX0 2 f fd ["_law_text"] spWrong := by
  refine F.ok scLWrong (fun vs H Q E h => ?_) (fun cdv A outer s H vs Q E hr h => ?_)
  · obtain ⟨z, rfl, _⟩ := h
    rfl
  · obtain ⟨z, rfl, hz, asc, k⟩ := h
    refine ⟨_, pss_cons (ps_set (i := 1) scLWrong.nd rfl (.inl rfl) (pe_lst pa_nil))
      (pss_cons (ps_for PassesOwn.never rfl (pi_enum (by rfl) T.enum (pa_cons (pe_split (pv 0) pe_str) pa_nil)) (pg_tup rfl (pgs_cons (pg_name (i := 2) scLWrong.nd rfl (.inl rfl)) (pgs_cons (pg_name (i := 3) scLWrong.nd rfl (.inl rfl)) pgs_nil)))
        (pss_cons (ps_set (i := 4) scLWrong.nd rfl (.inl rfl) (pe_split (pv 3) pe_str))
        (pss_cons (ps_set (i := 5) scLWrong.nd rfl (.inl rfl) (pe_or (pe_cmpR op_eq (pe_callB call_len_seq (by rfl) T.len PySem.boot_len (pa_cons (pv 4) pa_nil)) pe_int (nomark _))
            (pe_one (pe_and (pe_cmpR op_eq (pe_callB call_len_seq (by rfl) T.len PySem.boot_len (pa_cons (pv 4) pa_nil)) pe_int (nomark _)) (pe_one (pe_cmpR op_eq (pe_ix ix_list (pv 4) pe_int (fun _ _ => rfl)) pe_str (nomark _)))))))
        (pss_cons (ps_if (PW.pt (pw_or (pt_not (pt_val (pv 5))) (pw_or (pt_cmpR op_ne (pe_ix ix_list (pv 4) pe_int (fun _ _ => rfl)) pe_str (nomark _))
            (pw_or1 (pt_cmpR op_notIn_seq (pe_ix ix_list (pv 4) pe_int (fun _ _ => rfl)) (pe_tup (pa_cons pe_str (pa_cons pe_str (pa_cons pe_str (pa_cons pe_str pa_nil))))) (by rfl)))))) (pss_one (ps_ret (pv 2))) pss_nil)
        (pss_cons (ps_if (PW.pt (pw_or (pt_not (pt_val (pe_has GN hr (pa_cons (pe_ix ix_list (pv 4) pe_int (fun _ _ => rfl)) pa_nil)))) (pw_or (pt_cmpR op_in_seq (pe_ix ix_list (pv 4) pe_int (fun _ _ => rfl)) (pv 1) (by rfl))
            (pw_or1 (pt_cmpR op_gt (pv 2) pe_int (nomark _)))))) (pss_one (ps_ret (pv 2))) pss_nil)
        (pss_one (ps_expr (pe_bm PySem.F.plainAttrs_list PySem.F.slot_list_append PySem.F.type_list_append mt_append (pv 1) (pa_cons (pe_ix ix_list (pv 4) pe_int (fun _ _ => rfl)) pa_nil)))))))))
      (pss_one (ps_ret pe_non))), ?_⟩
    refine ⟨Nat.zero_le _, fun R nR => ?_⟩
    refine ⟨_, rfl, ⟨_, rfl⟩, _, _, rfl, rfl, by decide +kernel, Nat.le_trans (Nat.add_le_add_right hz 2) (by decide), fun L nL => ?_⟩
    have cnt : (linesOf z).length ≤ 1000000 := Nat.le_trans (split_count z nl (by decide +kernel)) (by omega)
    have nLR : L ≠ R := fun e => by
      rw [e, upd_same] at nL
      cases nL
    have sR : Same H (upd H R (.lst [])) := same_upd nR
    refine ⟨L, _, rfl, SqL.of upd_same, for_it (walk_enum (xs := (linesOf z).map V.str)) (fun i σ H1 => ∃ (acc : List Row) (v2 v3 v4 v5 : Option V), σ = [some (.str z), some (.ref R), v2, v3, v4, v5] ∧ Same H H1 ∧ H1 R = some (.lst ((acc.map (·.1)).map V.str)) ∧
        H1 L = some (.lst ((linesOf z).map V.str)) ∧ acc.length = i ∧ i ≤ 4 ∧ readR 0 [] (linesOf z) = readR i acc ((linesOf z).drop i)) ⟨[], none, none, none, none, rfl, sR.trans (same_upd nL), ?_, upd_same, rfl, by decide, rfl⟩ (fun i σ H1 _ ⟨_, _, _, _, _, _, _, _, hL, _⟩ => SqL.of hL) ?_ ?_⟩
    · rw [upd_ne nLR.symm, upd_same]
      rfl
    · rintro i x σ H1 H2 hi ⟨acc, v2, v3, v4, v5, rfl, s1, hR, hL, ha, h4, hrd⟩ ⟨T1, x1, x2, rfl, nT, rfl, e1, e2⟩
      obtain ⟨l, hl1, rfl⟩ : ∃ l, (linesOf z)[i]? = some l ∧ V.str l = x2 := by
        have e2' : ((linesOf z).map V.str)[i]? = some x2 := e2
        rw [List.getElem?_map] at e2'
        exact Option.map_eq_some_iff.mp e2'
      obtain rfl : V.int (i : Int) = x1 := Option.some.inj e1
      have lin := List.mem_of_getElem? hl1
      have lm1 : l.length ≤ 100000 := Nat.le_trans (split_mem lin).2 hz
      have lm2 : Asc l := fun c hc => asc c ((split_mem lin).1 c hc)
      have ed : (linesOf z).drop i = l :: (linesOf z).drop (i + 1) := by
        obtain ⟨hlt, hv⟩ := List.getElem?_eq_some_iff.mp hl1
        rw [List.drop_eq_getElem_cons hlt, hv]
      have hrd' : readR 0 [] (linesOf z) = readR i acc (l :: (linesOf z).drop (i + 1)) := by rw [hrd, ed]
      refine ⟨T1, _, rfl, SqT.of upd_same, rfl, .int (i : Int), _, rfl, .str l, _, rfl, rfl, ?_⟩
      refine ⟨_, rfl, ⟨_, rfl⟩, _, _, rfl, rfl, by decide +kernel, Nat.le_trans (Nat.add_le_add_right lm1 2) (by decide), fun p np => ?_⟩
      have sT : Same H1 (upd H1 T1 (.tup [.int (i : Int), .str l])) := same_upd nT
      have sp : Same (upd H1 T1 (.tup [.int (i : Int), .str l])) (upd (upd H1 T1 (.tup [.int (i : Int), .str l])) p (.lst ((wordsOf l).map V.str))) := same_upd np
      have s13 := sT.trans sp
      have s03 := s1.trans s13
      have hR3 := s13 _ _ hR
      have hL3 := s13 _ _ hL
      have hp3 : (upd (upd H1 T1 (.tup [.int (i : Int), .str l])) p (.lst ((wordsOf l).map V.str))) p = some (.lst ((wordsOf l).map V.str)) := upd_same
      have wa := words_asc lm2
      have wl := words_len lm1
      generalize hH3 : (upd (upd H1 T1 (.tup [.int (i : Int), .str l])) p (.lst ((wordsOf l).map V.str))) = H3 at s03 hR3 hL3 hp3
      have hH3' : (upd (upd H1 T1 (.tup [.int (i : Int), .str l])) p (.lst ((Txt.split l (PySem.Str.ofString " ")).map V.str))) = H3 := hH3
      rw [hH3']
      have ret : partOf (wordsOf l) = none → ∀ H', Same H H' → Q (.int (i : Int)) H' := fun e H' s' => by
        have w1 : wrongN z = some i := by
          unfold wrongN
          rw [hrd']
          show (match (match partOf (wordsOf l) with | none => Sum.inl i | some p => _ : Sum Nat (List Row)) with | .inl n => some n | .inr _ => none) = some i
          rw [e]
        have q := k H' s'
        rw [w1] at q
        exact q
      generalize hws : wordsOf l = ws at hp3 wa wl ret hrd'
      clear hH3 hH3'
      refine ⟨_, rfl, p, _, rfl, .inl (SqL.of hp3), rfl, _, rfl, ?_⟩
      refine ite2 (fun c3 => ?_) (fun c3 => ?_)
      · obtain ⟨a, b, c, r, rfl, hr'⟩ : ∃ a b c r, ws = a :: b :: c :: r ∧ (r = [] ∨ r = [wTakes]) := by
          have e := V.int.inj (of_decide_eq_true c3)
          rw [List.length_map] at e
          match ws, e with
          | [a, b, c], _ => exact ⟨a, b, c, [], rfl, .inl rfl⟩
          | [], e => exact absurd e (by decide)
          | [_], e => exact absurd (show (1 : Int) = 3 from e) (by decide)
          | [_, _], e => exact absurd (show (2 : Int) = 3 from e) (by decide)
          | _ :: _ :: _ :: _ :: r, e =>
            simp only [List.length_cons] at e
            omega
        -- it is long: the other tests
        refine ⟨_, rfl, _, rfl, _, rfl, p, _, 0, .str a, rfl, rfl, SqL.of hp3, atI_nat (j := 0) rfl, rfl, _, rfl, ?_⟩
        refine ite2 (fun ca => ?_) (fun ca => ?_)
        · refine ⟨_, rfl, ret (if_neg fun q => ?_) H3 s03⟩
          have ca' : (!decide (V.str a = V.str wPart)) = true := ca
          rw [q.1, decide_eq_true rfl] at ca'
          cases ca'
        have ea : a = wPart := by
          by_cases e : a = wPart
          · exact e
          · exfalso
            refine ca ?_
            show (!decide (V.str a = V.str wPart)) = true
            rw [decide_eq_false (fun q => e (V.str.inj q))]
            rfl
        refine ⟨_, rfl, p, _, 2, .str c, rfl, rfl, SqL.of hp3, atI_nat (j := 2) rfl, (by show 4 ≤ sizeLine; decide), fun t4 nt4 => ?_⟩
        refine ⟨t4, _, rfl, .inr (SqT.of upd_same), rfl, rfl, _, rfl, ?_⟩
        have s4 := same_upd (o := .tup [V.str "fresh", V.str "once", V.str "handed", V.str "kept"]) nt4
        have s04 := s03.trans s4
        refine ite2 (fun cc => ?_) (fun cc => ?_)
        · refine ⟨_, rfl, ret (if_neg fun q => ?_) _ s04⟩
          have cc' : (!inV (.str c) [.str "fresh", .str "once", .str "handed", .str "kept"]) = true := cc
          rw [way_in, q.2.2.1] at cc'
          cases cc'
        have ec : wayB c = true := by
          cases e : wayB c with
          | true => rfl
          | false =>
            exfalso
            refine cc ?_
            show (!inV (.str c) [.str "fresh", .str "once", .str "handed", .str "kept"]) = true
            rw [way_in, e]
            rfl
        have hp4 := s4 _ _ hp3
        refine ⟨_, rfl, p, _, 1, .str b, rfl, rfl, SqL.of hp4, atI_nat (j := 1) rfl, b, rfl, Nat.le_trans (wl b (by simp)) (by decide), fun H5 s5 => ⟨_, rfl, ?_⟩⟩
        have s05 := s04.trans s5
        refine ite2 (fun cb => ?_) (fun cb => ?_)
        · refine ⟨_, rfl, ret (if_neg fun q => ?_) H5 s05⟩
          rw [q.2.1] at cb
          cases cb
        have eb : nameB b = true := by
          cases e : nameB b with
          | true => rfl
          | false =>
            rw [e] at cb
            exact absurd rfl cb
        have ep : partOf (a :: b :: c :: r) = some (b, c, decide (r = [wTakes])) := if_pos ⟨ea, eb, ec, hr'⟩
        have hstep : readR 0 [] (linesOf z) = if i = 4 ∨ b ∈ acc.map (·.1) then Sum.inl i else readR (i + 1) (acc ++ [(b, c, decide (r = [wTakes]))]) ((linesOf z).drop (i + 1)) := by
          rw [hrd']
          show (match partOf (wordsOf l) with | none => Sum.inl i | some p => _) = _
          rw [hws, ep]
        have ret2 : (i = 4 ∨ b ∈ acc.map (·.1)) → ∀ H', Same H H' → Q (.int (i : Int)) H' := fun e H' s' => by
          have w1 : wrongN z = some i := by
            unfold wrongN
            rw [hstep, if_pos e]
          have q := k H' s'
          rw [w1] at q
          exact q
        have hp5 := s5 _ _ hp4
        have hR5 := s5 _ _ (s4 _ _ hR3)
        have hL5 := s5 _ _ (s4 _ _ hL3)
        refine ⟨_, rfl, p, _, 1, .str b, rfl, rfl, SqL.of hp5, atI_nat (j := 1) rfl, _, rfl, R, _, rfl, .inl (SqL.of hR5), rfl, flats1 _, _, rfl, ?_⟩
        refine ite2 (fun cm => ?_) (fun cm => ?_)
        · refine ⟨_, rfl, ret2 (.inr ?_) H5 s05⟩
          have cm' : inV (.str b) ((acc.map (·.1)).map V.str) = true := cm
          rw [List.map_map] at cm'
          have := inV_names b acc
          rw [show (acc.map fun r => V.str r.1) = acc.map (V.str ∘ fun x => x.1) from rfl] at this
          rw [this] at cm'
          exact of_decide_eq_true cm'
        have nm : ¬ b ∈ acc.map (·.1) := fun e => cm (by
          show inV (.str b) ((acc.map (·.1)).map V.str) = true
          rw [List.map_map]
          have := inV_names b acc
          rw [show (acc.map fun r => V.str r.1) = acc.map (V.str ∘ fun x => x.1) from rfl] at this
          rw [this]
          exact decide_eq_true e)
        refine ⟨_, rfl, _, 3, rfl, rfl, _, rfl, ?_⟩
        refine ite2 (fun c4 => ?_) (fun c4 => ?_)
        · refine ⟨_, rfl, ret2 (.inl ?_) H5 s05⟩
          have := of_decide_eq_true c4
          omega
        have n4 : ¬ i = 4 := fun e => c4 (decide_eq_true (by omega))
        refine ⟨_, rfl, .inl ⟨rfl, _, SqL.of hR5⟩, _, rfl, p, _, 1, .str b, rfl, rfl, SqL.of hp5, atI_nat (j := 1) rfl, R, _, _, rfl, rfl, hR5, ?_, ?_⟩
        · rw [List.length_map, List.length_map, ha]
          exact small1000 (by omega)
        · refine ⟨acc ++ [(b, c, decide (r = [wTakes]))], _, _, _, _, rfl, same_new s05 nR, ?_, ?_, ?_, by omega, ?_⟩
          · rw [upd_same, List.map_append, List.map_append]
            rfl
          · rw [upd_ne nLR]
            exact hL5
          · rw [List.length_append, ha]
            rfl
          · rw [hstep, if_neg (fun q => q.elim n4 nm)]
      · refine ⟨_, rfl, p, _, rfl, .inl (SqL.of hp3), rfl, _, rfl, ?_⟩
        refine ite2 (fun c4 => ?_) (fun c4 => ?_)
        · obtain ⟨a, b, c, d, rfl⟩ : ∃ a b c d, ws = [a, b, c, d] := by
            have e := V.int.inj (of_decide_eq_true c4)
            rw [List.length_map] at e
            match ws, e with
            | [a, b, c, d], _ => exact ⟨a, b, c, d, rfl⟩
            | [], e => exact absurd e (by decide)
            | [_], e => exact absurd (show (1 : Int) = 4 from e) (by decide)
            | [_, _], e => exact absurd (show (2 : Int) = 4 from e) (by decide)
            | [_, _, _], e => exact absurd (show (3 : Int) = 4 from e) (by decide)
            | _ :: _ :: _ :: _ :: _ :: r, e =>
              simp only [List.length_cons] at e
              omega
          refine ⟨_, rfl, p, _, 3, .str d, rfl, rfl, SqL.of hp3, atI_nat (j := 3) rfl, rfl, ?_⟩
          by_cases hd : d = wTakes
          · obtain ⟨r, er, hr'⟩ : ∃ r, [d] = r ∧ (r = [] ∨ r = [wTakes]) := ⟨[d], rfl, .inr (by rw [hd])⟩
            have et : decide (V.str d = V.str (PySem.Str.ofString "takes")) = true := decide_eq_true (by rw [hd]; rfl)
            rw [et]
            rw [er] at hp3 hws ret wl wa
            -- it is long: the other tests
            refine ⟨_, rfl, _, rfl, _, rfl, p, _, 0, .str a, rfl, rfl, SqL.of hp3, atI_nat (j := 0) rfl, rfl, _, rfl, ?_⟩
            refine ite2 (fun ca => ?_) (fun ca => ?_)
            · refine ⟨_, rfl, ret (if_neg fun q => ?_) H3 s03⟩
              have ca' : (!decide (V.str a = V.str wPart)) = true := ca
              rw [q.1, decide_eq_true rfl] at ca'
              cases ca'
            have ea : a = wPart := by
              by_cases e : a = wPart
              · exact e
              · exfalso
                refine ca ?_
                show (!decide (V.str a = V.str wPart)) = true
                rw [decide_eq_false (fun q => e (V.str.inj q))]
                rfl
            refine ⟨_, rfl, p, _, 2, .str c, rfl, rfl, SqL.of hp3, atI_nat (j := 2) rfl, (by show 4 ≤ sizeLine; decide), fun t4 nt4 => ?_⟩
            refine ⟨t4, _, rfl, .inr (SqT.of upd_same), rfl, rfl, _, rfl, ?_⟩
            have s4 := same_upd (o := .tup [V.str "fresh", V.str "once", V.str "handed", V.str "kept"]) nt4
            have s04 := s03.trans s4
            refine ite2 (fun cc => ?_) (fun cc => ?_)
            · refine ⟨_, rfl, ret (if_neg fun q => ?_) _ s04⟩
              have cc' : (!inV (.str c) [.str "fresh", .str "once", .str "handed", .str "kept"]) = true := cc
              rw [way_in, q.2.2.1] at cc'
              cases cc'
            have ec : wayB c = true := by
              cases e : wayB c with
              | true => rfl
              | false =>
                exfalso
                refine cc ?_
                show (!inV (.str c) [.str "fresh", .str "once", .str "handed", .str "kept"]) = true
                rw [way_in, e]
                rfl
            have hp4 := s4 _ _ hp3
            refine ⟨_, rfl, p, _, 1, .str b, rfl, rfl, SqL.of hp4, atI_nat (j := 1) rfl, b, rfl, Nat.le_trans (wl b (by simp)) (by decide), fun H5 s5 => ⟨_, rfl, ?_⟩⟩
            have s05 := s04.trans s5
            refine ite2 (fun cb => ?_) (fun cb => ?_)
            · refine ⟨_, rfl, ret (if_neg fun q => ?_) H5 s05⟩
              rw [q.2.1] at cb
              cases cb
            have eb : nameB b = true := by
              cases e : nameB b with
              | true => rfl
              | false =>
                rw [e] at cb
                exact absurd rfl cb
            have ep : partOf (a :: b :: c :: r) = some (b, c, decide (r = [wTakes])) := if_pos ⟨ea, eb, ec, hr'⟩
            have hstep : readR 0 [] (linesOf z) = if i = 4 ∨ b ∈ acc.map (·.1) then Sum.inl i else readR (i + 1) (acc ++ [(b, c, decide (r = [wTakes]))]) ((linesOf z).drop (i + 1)) := by
              rw [hrd']
              show (match partOf (wordsOf l) with | none => Sum.inl i | some p => _) = _
              rw [hws, ep]
            have ret2 : (i = 4 ∨ b ∈ acc.map (·.1)) → ∀ H', Same H H' → Q (.int (i : Int)) H' := fun e H' s' => by
              have w1 : wrongN z = some i := by
                unfold wrongN
                rw [hstep, if_pos e]
              have q := k H' s'
              rw [w1] at q
              exact q
            have hp5 := s5 _ _ hp4
            have hR5 := s5 _ _ (s4 _ _ hR3)
            have hL5 := s5 _ _ (s4 _ _ hL3)
            refine ⟨_, rfl, p, _, 1, .str b, rfl, rfl, SqL.of hp5, atI_nat (j := 1) rfl, _, rfl, R, _, rfl, .inl (SqL.of hR5), rfl, flats1 _, _, rfl, ?_⟩
            refine ite2 (fun cm => ?_) (fun cm => ?_)
            · refine ⟨_, rfl, ret2 (.inr ?_) H5 s05⟩
              have cm' : inV (.str b) ((acc.map (·.1)).map V.str) = true := cm
              rw [List.map_map] at cm'
              have := inV_names b acc
              rw [show (acc.map fun r => V.str r.1) = acc.map (V.str ∘ fun x => x.1) from rfl] at this
              rw [this] at cm'
              exact of_decide_eq_true cm'
            have nm : ¬ b ∈ acc.map (·.1) := fun e => cm (by
              show inV (.str b) ((acc.map (·.1)).map V.str) = true
              rw [List.map_map]
              have := inV_names b acc
              rw [show (acc.map fun r => V.str r.1) = acc.map (V.str ∘ fun x => x.1) from rfl] at this
              rw [this]
              exact decide_eq_true e)
            refine ⟨_, rfl, _, 3, rfl, rfl, _, rfl, ?_⟩
            refine ite2 (fun c4 => ?_) (fun c4 => ?_)
            · refine ⟨_, rfl, ret2 (.inl ?_) H5 s05⟩
              have := of_decide_eq_true c4
              omega
            have n4 : ¬ i = 4 := fun e => c4 (decide_eq_true (by omega))
            refine ⟨_, rfl, .inl ⟨rfl, _, SqL.of hR5⟩, _, rfl, p, _, 1, .str b, rfl, rfl, SqL.of hp5, atI_nat (j := 1) rfl, R, _, _, rfl, rfl, hR5, ?_, ?_⟩
            · rw [List.length_map, List.length_map, ha]
              exact small1000 (by omega)
            · refine ⟨acc ++ [(b, c, decide (r = [wTakes]))], _, _, _, _, rfl, same_new s05 nR, ?_, ?_, ?_, by omega, ?_⟩
              · rw [upd_same, List.map_append, List.map_append]
                rfl
              · rw [upd_ne nLR]
                exact hL5
              · rw [List.length_append, ha]
                rfl
              · rw [hstep, if_neg (fun q => q.elim n4 nm)]
          · have et : decide (V.str d = V.str (PySem.Str.ofString "takes")) = false := decide_eq_false (fun q => hd (V.str.inj q))
            rw [et]
            refine ⟨_, rfl, _, rfl, _, rfl, ret (if_neg fun q => ?_) H3 s03⟩
            rcases q.2.2.2 with e | e
            · cases e
            · exact hd (List.cons.inj e).1
        · refine ⟨_, rfl, _, rfl, _, rfl, ret ?_ H3 s03⟩
          have e3 : ¬ ws.length = 3 := fun e => c3 (decide_eq_true (by rw [List.length_map, e]; rfl))
          have e4 : ¬ ws.length = 4 := fun e => c4 (decide_eq_true (by rw [List.length_map, e]; rfl))
          match ws, e3, e4 with
          | [], _, _ => rfl
          | [_], _, _ => rfl
          | [_, _], _, _ => rfl
          | a :: b :: c :: r, e3, e4 =>
            refine if_neg fun q => ?_
            rcases q.2.2.2 with e | e
            · exact e3 (by rw [e]; rfl)
            · exact e4 (by rw [e]; rfl)
    · rintro σ H1 ⟨acc, v2, v3, v4, v5, rfl, s1, hR, hL, ha, h4, hrd⟩
      have e : wrongN z = none := by
        unfold wrongN
        rw [hrd, List.length_map, List.drop_length]
        rfl
      have q := k H1 s1
      rw [e] at q
      exact q
end
end K08

set_option Elab.async false
set_option linter.all false
namespace K08
open PySem L2
abbrev sHeard : Stmt := top 26
theorem tyx_same {K : PySem.W.Frag} {H H' : Hp} {x : V} {t : Value} (s : Same H H') (h : TyX K H x t) : TyX K H' x t := by
  cases h with
  | base b =>
    cases b with
    | non => exact .base .non
    | bl x => exact .base (.bl x)
    | int i => exact .base (.int i)
    | str x => exact .base (.str x)
    | flt x => exact .base (.flt x)
    | lst e => exact .base (.lst (s _ _ e))
    | frz e => exact .base (.frz (s _ _ e))
    | tup e => exact .base (.tup (s _ _ e))
    | dK e => exact .base (.dK (s _ _ e))
    | dT e => exact .base (.dT (s _ _ e))
    | ins e cl ha hn ht hm => exact .base (.ins (s _ _ e) cl ha hn ht hm)
  | byt b => exact .byt b
  | set e => exact .set (s _ _ e)
  | kList e c => exact .kList e c
  | kTuple e c => exact .kTuple e c
  | kDict e c => exact .kDict e c
  | fTuple e => exact .fTuple (s _ _ e)
  | fDict e => exact .fDict (s _ _ e)
theorem notStr_same {K : PySem.W.Frag} {H H' : Hp} {x : V} (s : Same H H') (h : NotStr K H x) : NotStr K H' x := by
  obtain ⟨t, a, b⟩ := h
  exact ⟨t, tyx_same s a, b⟩
/-- the class Plan and its __init__, as makers know it -/
structure PlanC (P : Program) (w : World) (K : PySem.W.Frag) (mg : Str → Option Value) (base : Heap) (C CB : Addr) : Prop extends PlanT K mg C where
  init : ∃ (fI : Addr) (fd : FuncData), Mk K C fI ∧ FnOk P w K mg base (L2.CX P w) 4 fI fd ["self", "text"] (spPI K C CB) ∧ Binds K fd ["self", "text"] []
/-- what the clause of SettledError knows -/
structure Caught (K : PySem.W.Frag) (mg : Str → Option Value) (CS CB : Addr) : Prop where
  gS : mg "SettledError" = some (.ref CS)
  te : PySem.W.exmOne K (.ref CB) (.ref CS) = some true
  ec : ExcC K CB
  xf : XfC K CB
  k1 : PySem.W.kitOne K (.ref CB) (.ref CB) = some true
  k2 : PySem.W.kitOne K (.ref CB) (.type "ValueError") = some true
  ve : mg "ValueError" = none
theorem look_fV (v : V) : (fV v).lookup ("value" : Str) = some v := by
  simp [fV, List.lookup]
def heardV (o : Option Nat) : List V := match o with
  | some n => [.str "text", .int (n : Int)]
  | none => [.str "told", .non]
section
variable {base : Heap} {P : Program} {w : World} {K : PySem.W.Frag} {mg : Str → Option Value}
def spHeard (K : PySem.W.Frag) : Sp := fun vs H Q _ => ∃ x : V, vs = [x] ∧
  ((NotStr K H x ∧ ∀ H' p, Same H H' → H p = none → H' p = some (.tup [.str "text", .int (-1)]) → Q (.ref p) H') ∨
   (∃ z : Str, x = .str z ∧ z.length ≤ 100000 ∧ Asc z ∧ ∀ H' p, Same H H' → H p = none → H' p = some (.tup (heardV (wrongN z))) → Q (.ref p) H'))
abbrev nHeard : List Str := ["_law_thing", "_law_caught", "error", "_law_is_alone"]
theorem scHeard : FnScope nHeard ["_law_thing"] (defScope sHeard) := ⟨rfl, rfl, rfl, by decide +kernel, rfl, by decide +kernel, by decide +kernel⟩
theorem ok_heard {f C CB CS : Addr} {fd : FuncData} (F : Fun K "_law_heard" "_law_heard" sHeard f fd) (T : PlanC P w K mg base C CB) (B : Err P w K mg base CB) (Z : Caught K mg CS CB) : FnOk P w K mg base CX0 6 f fd ["_law_thing"] (spHeard K) := by
  refine F.ok scHeard (fun vs H Q E h => ?_) (fun cdv A outer s H vs Q E hr h => ?_)
  · obtain ⟨x, rfl, _⟩ := h
    rfl
  · obtain ⟨x, rfl, h⟩ := h
    obtain ⟨fI, fdI, M, FI, bI⟩ := T.init
    refine ⟨_, pss_cons (ps_set (i := 1) scHeard.nd rfl (.inl rfl) pe_non)
      (pss_cons (ps_try_keep (i := 2) (tb := fun W => tDrop (tMakeS C (spPI K C CB) (WE W) (tCons (tVar 0) tNil))) (ts := fun _ _ _ => tAsg (tVar 2) (gName 1)) (Wout := fun _ _ _ _ => False) rfl rfl rfl scHeard.nd rfl rfl ⟨rfl, by decide, .inl Z.gS⟩ takes0
          (fun W pn xe tk _ => pss_one (ps_expr (pe_makeS M FI hr rfl T.gP bI (fun σ => passAt tk σ) (pa_cons (pv 0) pa_nil))))
          (fun a oe cls d pn hz hf => pss_one (ps_set (i := 1) scHeard.nd rfl (.inl rfl) (pv 2))))
      (pss_cons (ps_if (pt_cmpR op_isN (pv 1) pe_non (nomark _)) (pss_one (ps_ret (pe_tup (pa_cons pe_str (pa_cons pe_non pa_nil))))) pss_nil)
      (pss_cons (ps_set (i := 3) scHeard.nd rfl (.inl rfl) (pe_and (pe_callB (call_isV Z.ec) (by rfl) T.isinst (by decide +kernel) (pa_cons (pv 1) (pa_cons (pe_glob (v := .ref CB) (by rfl) B.gB rfl) pa_nil)))
          (pe_one (pe_callB (call_isV Z.ec) (by rfl) T.isinst (by decide +kernel) (pa_cons (pv 1) (pa_cons (pe_bltn (v := .ty "ValueError") (by rfl) Z.ve PyProof.Rows.Boot.«ValueError» rfl) pa_nil))))))
      (pss_one (ps_ret (pe_ifExp (pt_val (pv 3)) (pe_tup (pa_cons pe_str (pa_cons (pe_exv Z.xf B.nv (pv 1)) pa_nil))) (pe_tup (pa_cons pe_str (pa_cons pe_non pa_nil))))))))), ?_⟩
    rcases h with ⟨ns, k⟩ | ⟨z, rfl, hz, asc, k⟩
    · refine ⟨_, rfl, fun xp dx nx ndx nex => ?_⟩
      have s0 : Same H (upd (upd H dx (.own xp)) xp (.ins C dx [])) := (same_upd ndx).trans (same_upd (by rw [upd_ne nex.symm]; exact nx))
      refine ⟨xp, dx, x, rfl, upd_same, .inl ⟨notStr_same s0 ns, fun d H1 s1 hd e1 => ⟨true, Z.te, fun _ a na => ?_, fun q => Bool.noConfusion q⟩⟩⟩
      have s2 := same_upd (o := ExV (.ref CB) (some d) a) na
      have ed : (upd H1 a (ExV (.ref CB) (some d) a)) d = some (.xd (fV (.int (-1)))) := s2 _ _ e1
      refine ⟨.ref a, rfl, ?_⟩
      (refine ⟨_, rfl, rfl, _, rfl, ?_⟩)
      refine ite2 (fun q => by cases of_decide_eq_true q) (fun _ => ?_)
      refine ⟨_, rfl, a, d, fV (.int (-1)), .ref CB, .ref CB, true, rfl, upd_same, ed, fun u r => r, Z.k1, _, rfl, _, rfl, a, d, fV (.int (-1)), .ty "ValueError", .type "ValueError", true, rfl, upd_same, ed, fun u r => r, Z.k2, ?_⟩
      refine ⟨_, rfl, _, rfl, ?_⟩
      refine ⟨_, rfl, a, d, fV (.int (-1)), .int (-1), rfl, upd_same, ed, look_fV _, (by show 2 ≤ sizeLine; decide), fun p hp => ?_⟩
      have s02 := (s0.trans s1).trans s2
      exact k _ p (s02.trans (same_upd hp)) (s02.free hp) upd_same
    · refine ⟨_, rfl, fun xp dx nx ndx nex => ?_⟩
      have s0 : Same H (upd (upd H dx (.own xp)) xp (.ins C dx [])) := (same_upd ndx).trans (same_upd (by rw [upd_ne nex.symm]; exact nx))
      refine ⟨xp, dx, .str z, rfl, upd_same, .inr ⟨z, rfl, hz, asc, fun n e => fun d H1 s1 hd e1 => ⟨true, Z.te, fun _ a na => ?_, fun q => Bool.noConfusion q⟩, fun rows e H1 a b c k1 _ _ _ _ => ⟨rfl, ?_⟩⟩⟩
      · have ew : wrongN z = some n := by
          unfold wrongN
          rw [e]
        rw [ew] at k
        have s2 := same_upd (o := ExV (.ref CB) (some d) a) na
        have ed : (upd H1 a (ExV (.ref CB) (some d) a)) d = some (.xd (fV (.int (n : Int)))) := s2 _ _ e1
        refine ⟨.ref a, rfl, ?_⟩
        (refine ⟨_, rfl, rfl, _, rfl, ?_⟩)
        refine ite2 (fun q => by cases of_decide_eq_true q) (fun _ => ?_)
        refine ⟨_, rfl, a, d, fV (.int (n : Int)), .ref CB, .ref CB, true, rfl, upd_same, ed, fun u r => r, Z.k1, _, rfl, _, rfl, a, d, fV (.int (n : Int)), .ty "ValueError", .type "ValueError", true, rfl, upd_same, ed, fun u r => r, Z.k2, ?_⟩
        refine ⟨_, rfl, _, rfl, ?_⟩
        refine ⟨_, rfl, a, d, fV (.int (n : Int)), .int (n : Int), rfl, upd_same, ed, look_fV _, (by show 2 ≤ sizeLine; decide), fun p hp => ?_⟩
        have s02 := (s0.trans s1).trans s2
        exact k _ p (s02.trans (same_upd hp)) (s02.free hp) upd_same
      · have ew : wrongN z = none := by
          unfold wrongN
          rw [e]
        rw [ew] at k
        have s1 : Same H H1 := fun b o q => k1 b o (ne_of_none q nx) (s0 _ _ q)
        (refine ⟨_, rfl, rfl, _, rfl, ?_⟩)
        refine ite2 (fun _ => ?_) (fun q => absurd (decide_eq_true rfl) q)
        exact ⟨(by show 2 ≤ sizeLine; decide), fun p hp => k _ p (s1.trans (same_upd hp)) (s1.free hp) upd_same⟩
end
end K08

set_option Elab.async false
set_option linter.all false
namespace K08
theorem nat_ne {a c : Nat} (h : a < c ∨ c < a) : a ≠ c := by omega
theorem nm2 {a x y : Nat} (h1 : a ≠ x) (h2 : a ≠ y) : a ∉ [x, y] := fun q => by
  rcases List.mem_cons.mp q with q | q
  · exact h1 q
  · exact h2 (List.mem_singleton.mp q)
open L2 PySem PySem.Spec PyProof.Rows
/-! list(zip(a, b, c)) of three lists of one length -/
/-- three drawn lists from cell b on: iterators b, b+1, b+2, the zip's tuples b+3, b+4, the zip b+5 -/
def Z3 (b l1 l2 l3 : Nat) (xs ys zs : Array Value) (i : Nat) (h : Heap) : Prop :=
  IsTupOf3 h (b + 3) (.ref b) (.ref (b + 1)) (.ref (b + 2)) ∧ h.IsListIter b l1 i ∧ h.IsListIter (b + 1) l2 i ∧ h.IsListIter (b + 2) l3 i ∧ h.IsList l1 xs ∧ h.IsList l2 ys ∧ h.IsList l3 zs ∧
  ((IsZip h (b + 5) (b + 3) (b + 4) .none ∧ ∃ a1 a2 a3, IsTupOf3 h (b + 4) a1 a2 a3) ∨ ∃ (T : Nat) (f : Bool) (oT : Obj), IsZipHeld h (b + 5) (b + 3) (b + 4) T f ∧ h.get? T = some oT ∧ b + 6 < T)
section
variable {prog : Program} {w : World} {A : Around} {E : Value → Shared → Prop} {s : Shared} {b l1 l2 l3 : Nat} {xs ys zs : Array Value} {i : Nat}
theorem z3_keep {h h' : Heap} (x : Z3 b l1 l2 l3 xs ys zs i h) (k : ∀ (c : Nat) (o : Obj), c ≠ b + 6 → h.get? c = some o → h'.get? c = some o) (h1 : l1 < b) (h2 : l2 < b) (h3 : l3 < b) : Z3 b l1 l2 l3 xs ys zs i h' := by
  obtain ⟨a1, a2, a3, a4, a5, a6, a7, a8⟩ := x
  refine ⟨k _ _ (by (first | omega | exact nat_ne (by omega))) a1, a2.at fun o => k _ o (by (first | omega | exact nat_ne (by omega))), a3.at fun o => k _ o (by (first | omega | exact nat_ne (by omega))), a4.at fun o => k _ o (by (first | omega | exact nat_ne (by omega))), a5.at fun o => k _ o (by (first | omega | exact nat_ne (by omega))), a6.at fun o => k _ o (by (first | omega | exact nat_ne (by omega))), a7.at fun o => k _ o (by (first | omega | exact nat_ne (by omega))), ?_⟩
  rcases a8 with ⟨e1, c1, c2, c3, e2⟩ | ⟨T, f, oT, e1, e2, e3⟩
  · exact .inl ⟨k _ _ (by (first | omega | exact nat_ne (by omega))) e1, c1, c2, c3, k _ _ (by (first | omega | exact nat_ne (by omega))) e2⟩
  · exact .inr ⟨T, f, oT, k _ _ (by (first | omega | exact nat_ne (by omega))) e1, k _ _ (by (first | omega | exact nat_ne (by omega))) e2, e3⟩
theorem z3_sep (h1 : l1 < b) (h2 : l2 < b) (h3 : l3 < b) : ZipSep3 (b + 5) (b + 3) (b + 4) b (b + 1) (b + 2) [b, l1] [b + 1, l2] [b + 2, l3] := by
  constructor <;> first | omega | exact nat_ne (by omega) | exact List.mem_cons_self | exact nm2 (by (first | omega | exact nat_ne (by omega))) (by (first | omega | exact nat_ne (by omega)))
theorem z3_heldItem {T : Nat} {f : Bool} {oT : Obj} {x y z : Value} {Q : Value → Shared → Prop} (h1 : l1 < b) (h2 : l2 < b) (h3 : l3 < b) (st : Z3 b l1 l2 l3 xs ys zs i s.heap) (hz : IsZipHeld s.heap (b + 5) (b + 3) (b + 4) T f) (hT : s.heap.get? T = some oT) (bT : b + 6 < T)
    (hx : xs[i]? = some x) (hy : ys[i]? = some y) (hw : zs[i]? = some z)
    (hQ : ∀ h', Z3 b l1 l2 l3 xs ys zs (i + 1) h' → IsTupOf3 h' s.heap.objs.size x y z → h'.objs.size = s.heap.objs.size + 1 → (∀ (c : Nat) (o : Obj), (c < b ∨ b + 6 ≤ c) → s.heap.get? c = some o → h'.get? c = some o) → Q (.ref s.heap.objs.size) { s with heap := h' }) :
    wpAny (model prog w) A (Builtin.«zip.__next__» ⟨[.ref (b + 5)], []⟩) (fun fin s' => ∃ v, fin = .done (.ret v) ∧ Q v s') E s := by
  obtain ⟨a1, a2, a3, a4, a5, a6, a7, _⟩ := st
  show wpAny _ _ (field (.ref (b + 5)) 2 >>= _) _ _ _
  (refine wpAny_bind (wpAny_field hz rfl (x := .bool false) rfl ?_))
  show wpAny _ _ (field (.ref (b + 5)) 3 >>= _) _ _ _
  refine wpAny_bind (wpAny_field hz rfl (x := .ref (b + 3)) rfl ?_)
  refine wpAny_bind (wpAny_seqItems a1 rfl ?_)
  show wpAny _ _ (Builtin.SmallTypes.ownedTupleIsFree (.ref (b + 5)) >>= _) _ _ _
  refine wpAny_bind (wpAny_tupleHeld_zip hz hT fun g1 z1 s1 => ?_)
  (rw [if_neg Bool.false_ne_true])
  refine wpAny_bind ?_
  rw [← Array.forIn_toList]
  (simp only [List.forIn_cons, List.forIn_nil])
  (refine wpAny_bind (wpAny_bind (wpAny_holding ?_)))
  show wpAny _ _ (Builtin.SmallTypes.nextOf (.ref b) >>= _) _ _ _
  have n5 : ∀ (c : Nat), c < b + 3 → c ≠ b + 5 := fun (c : Nat) q => by (first | omega | exact nat_ne (by omega))
  refine wpAny_bind (wpAny_nextOf_list_item (s := { s with heap := g1 }) (a2.extBut s1.extBut (n5 _ (by (first | omega | exact nat_ne (by omega))))) (a5.extBut s1.extBut (n5 _ (by (first | omega | exact nat_ne (by omega))))) hx fun g2 u2 s2 => wpAny_pure (wpAny_pure ?_))
  (refine wpAny_bind (wpAny_bind (wpAny_holding ?_)))
  show wpAny _ _ (Builtin.SmallTypes.nextOf (.ref (b + 1)) >>= _) _ _ _
  refine wpAny_bind (wpAny_nextOf_list_item (s := { s with heap := g2 }) ((a3.extBut s1.extBut (n5 _ (by (first | omega | exact nat_ne (by omega))))).extBut s2.extBut (by (first | omega | exact nat_ne (by omega)))) ((a6.extBut s1.extBut (n5 _ (by (first | omega | exact nat_ne (by omega))))).extBut s2.extBut (by (first | omega | exact nat_ne (by omega)))) hy fun g3 u3 s3 => wpAny_pure (wpAny_pure ?_))
  (refine wpAny_bind (wpAny_bind (wpAny_holding ?_)))
  show wpAny _ _ (Builtin.SmallTypes.nextOf (.ref (b + 2)) >>= _) _ _ _
  refine wpAny_bind (wpAny_nextOf_list_item (s := { s with heap := g3 }) (((a4.extBut s1.extBut (n5 _ (by (first | omega | exact nat_ne (by omega))))).extBut s2.extBut (by (first | omega | exact nat_ne (by omega)))).extBut s3.extBut (by (first | omega | exact nat_ne (by omega)))) (((a7.extBut s1.extBut (n5 _ (by (first | omega | exact nat_ne (by omega))))).extBut s2.extBut (by (first | omega | exact nat_ne (by omega)))).extBut s3.extBut (by (first | omega | exact nat_ne (by omega)))) hw fun g4 u4 s4 => wpAny_pure ?_)
  (refine wpAny_pure (wpAny_pure ?_))
  show wpAny _ _ (newTuple [x, y, z] >>= _) _ _ _
  (refine wpAny_bind (wpAny_newTuple ?_))
  have all : ∀ (c : Nat) (o : Obj), c ≠ b + 5 → c ≠ b → c ≠ b + 1 → c ≠ b + 2 → s.heap.get? c = some o → (g4.push { cls := .type "tuple", data := .seq #[x, y, z] }).get? c = some o := fun (c : Nat) o n1 n2 n3 n4 e =>
    Heap.get?_push_of_some _ (s4.extBut _ _ n4 (s3.extBut _ _ n3 (s2.extBut _ _ n2 (s1.extBut _ _ n1 e))))
  have size4 : g4.objs.size = s.heap.objs.size := by rw [s4.1, s3.1, s2.1, s1.1]
  have at4 : (g4.push { cls := .type "tuple", data := .seq #[x, y, z] }).get? g4.objs.size = some { cls := .type "tuple", data := .seq #[x, y, z] } := Heap.get?_push_size _ rfl
  have size5 : (g4.push { cls := .type "tuple", data := .seq #[x, y, z] }).objs.size = g4.objs.size + 1 := Heap.size_push ..
  have z4 : IsZipHeld g4 (b + 5) (b + 3) (b + 4) T true := s4.extBut _ _ (by (first | omega | exact nat_ne (by omega))) (s3.extBut _ _ (by (first | omega | exact nat_ne (by omega))) (s2.extBut _ _ (by (first | omega | exact nat_ne (by omega))) z1))
  have i1 := (u2.extBut s3.extBut (by (first | omega | exact nat_ne (by omega)))).extBut s4.extBut (by (first | omega | exact nat_ne (by omega)))
  have i2 := u3.extBut s4.extBut (by (first | omega | exact nat_ne (by omega)))
  (refine wpAny_pure ⟨_, rfl, ?_⟩)
  show Q (.ref g4.objs.size) _
  rw [size4] at at4 size5 ⊢
  refine hQ _ ⟨all _ _ (by (first | omega | exact nat_ne (by omega))) (by (first | omega | exact nat_ne (by omega))) (by (first | omega | exact nat_ne (by omega))) (by (first | omega | exact nat_ne (by omega))) a1, i1.at fun o => Heap.get?_push_of_some _, i2.at fun o => Heap.get?_push_of_some _, u4.at fun o => Heap.get?_push_of_some _,
    a5.at fun o => all _ o (by (first | omega | exact nat_ne (by omega))) (by (first | omega | exact nat_ne (by omega))) (by (first | omega | exact nat_ne (by omega))) (by (first | omega | exact nat_ne (by omega))), a6.at fun o => all _ o (by (first | omega | exact nat_ne (by omega))) (by (first | omega | exact nat_ne (by omega))) (by (first | omega | exact nat_ne (by omega))) (by (first | omega | exact nat_ne (by omega))), a7.at fun o => all _ o (by (first | omega | exact nat_ne (by omega))) (by (first | omega | exact nat_ne (by omega))) (by (first | omega | exact nat_ne (by omega))) (by (first | omega | exact nat_ne (by omega))),
    .inr ⟨T, true, oT, Heap.get?_push_of_some _ z4, all _ _ (by (first | omega | exact nat_ne (by omega))) (by (first | omega | exact nat_ne (by omega))) (by (first | omega | exact nat_ne (by omega))) (by (first | omega | exact nat_ne (by omega))) hT, bT⟩⟩ at4 size5 fun (c : Nat) o r e => all c o (by (first | omega | exact nat_ne (by omega))) (by (first | omega | exact nat_ne (by omega))) (by (first | omega | exact nat_ne (by omega))) (by (first | omega | exact nat_ne (by omega))) e
theorem z3_item {x y z : Value} {Q : Option Value → Shared → Prop} (hh : A.handled = none) (h1 : l1 < b) (h2 : l2 < b) (h3 : l3 < b) (st : Z3 b l1 l2 l3 xs ys zs i s.heap) (big : b + 6 < s.heap.objs.size)
    (hx : xs[i]? = some x) (hy : ys[i]? = some y) (hw : zs[i]? = some z)
    (hQ : ∀ h' tk, Z3 b l1 l2 l3 xs ys zs (i + 1) h' → IsTupOf3 h' s.heap.objs.size x y z → h'.objs.size = s.heap.objs.size + 1 → (∀ (c : Nat) (o : Obj), (c < b ∨ b + 6 ≤ c) → s.heap.get? c = some o → h'.get? c = some o) → Q (some (.ref s.heap.objs.size)) { s with heap := h', toks := tk }) :
    wpAny (model prog w) A (pyNext (.ref (b + 5))) Q E s := by
  have st' := st
  obtain ⟨a1, a2, a3, a4, a5, a6, a7, a8⟩ := st'
  rcases a8 with ⟨e1, c1, c2, c3, e2⟩ | ⟨T, f, oT, e1, e2, e3⟩
  · refine wpAny_pyNext_zipD3_item (z3_sep h1 h2 h3) (Draws.list (prog := prog) (w := w) (A := A.in1) (show A.in1.handled = none from hh) b l1 (by (first | omega | exact nat_ne (by omega))) xs) (Draws.list (prog := prog) (w := w) (A := A.in1) (show A.in1.handled = none from hh) (b + 1) l2 (by (first | omega | exact nat_ne (by omega))) ys) (Draws.list (prog := prog) (w := w) (A := A.in1) (show A.in1.handled = none from hh) (b + 2) l3 (by (first | omega | exact nat_ne (by omega))) zs) e1 a1 e2 ⟨a2, a5⟩ ⟨a3, a6⟩ ⟨a4, a7⟩
      (by rcases Nat.lt_or_ge i xs.size with q | q; exact q; rw [Array.getElem?_eq_none q] at hx; cases hx) (by rcases Nat.lt_or_ge i ys.size with q | q; exact q; rw [Array.getElem?_eq_none q] at hy; cases hy) (by rcases Nat.lt_or_ge i zs.size with q | q; exact q; rw [Array.getElem?_eq_none q] at hw; cases hw)
      fun x1 x2 x3 h' tk p1 p2 p3 q1 q2 q3 q4 q5 q6 q7 k => ?_
    rw [hx] at p1
    rw [hy] at p2
    rw [hw] at p3
    cases p1
    cases p2
    cases p3
    exact hQ h' tk ⟨k _ _ (by (first | omega | exact nat_ne (by omega))) (by (first | omega | exact nat_ne (by omega))) (by (first | omega | exact nat_ne (by omega))) (by (first | omega | exact nat_ne (by omega))) (by (first | omega | exact nat_ne (by omega))) a1, q3.1, q4.1, q5.1, q3.2, q4.2, q5.2, .inr ⟨_, false, _, q1, q6, big⟩⟩ q6 q7 fun (c : Nat) o r e => k c o (by (first | omega | exact nat_ne (by omega))) (by (first | omega | exact nat_ne (by omega))) (by (first | omega | exact nat_ne (by omega))) (by (first | omega | exact nat_ne (by omega))) (by (first | omega | exact nat_ne (by omega))) e
  · have ty : s.TypeIs (.ref (b + 5)) "zip" := ⟨_, e1, rfl⟩
    unfold pyNext
    exact wpAny_bind (wpAny_attempt (wpAny_callSpecial?_slot (name := Str.ofString "__next__") ty F.slot_zip_next
      (wpAny_call_entry F.slot_zip_next ty F.entry_zip_next (z3_heldItem h1 h2 h3 st e1 e2 e3 hx hy hw fun h' q1 q2 q3 q4 => wpAny_pure (hQ h' s.toks q1 q2 q3 q4)) (F.args_zip_next_1 _))))
theorem z3_heldEnd {T : Nat} {f : Bool} {oT : Obj} {Q : Fin → Shared → Prop} (hh : A.handled = none) (h1 : l1 < b) (st : Z3 b l1 l2 l3 xs ys zs i s.heap) (hz : IsZipHeld s.heap (b + 5) (b + 3) (b + 4) T f) (hT : s.heap.get? T = some oT)
    (hx : xs[i]? = none) (hE : ∀ h' e, (∀ (c : Nat) (o : Obj), (c < b ∨ b + 6 ≤ c) → s.heap.get? c = some o → h'.get? c = some o) → (∃ o, h'.get? e = some o ∧ o.cls = .type "StopIteration") → E (.ref e) { s with heap := h' }) :
    wpAny (model prog w) A (Builtin.«zip.__next__» ⟨[.ref (b + 5)], []⟩) Q E s := by
  obtain ⟨a1, a2, a3, a4, a5, a6, a7, _⟩ := st
  show wpAny _ _ (field (.ref (b + 5)) 2 >>= _) _ _ _
  (refine wpAny_bind (wpAny_field hz rfl (x := .bool false) rfl ?_))
  show wpAny _ _ (field (.ref (b + 5)) 3 >>= _) _ _ _
  refine wpAny_bind (wpAny_field hz rfl (x := .ref (b + 3)) rfl ?_)
  refine wpAny_bind (wpAny_seqItems a1 rfl ?_)
  show wpAny _ _ (Builtin.SmallTypes.ownedTupleIsFree (.ref (b + 5)) >>= _) _ _ _
  refine wpAny_bind (wpAny_tupleHeld_zip hz hT fun g1 z1 s1 => ?_)
  (rw [if_neg Bool.false_ne_true])
  refine wpAny_bind ?_
  rw [← Array.forIn_toList]
  (simp only [List.forIn_cons, List.forIn_nil])
  (refine wpAny_bind (wpAny_bind (wpAny_holding ?_)))
  show wpAny _ _ (Builtin.SmallTypes.nextOf (.ref b) >>= _) _ _ _
  refine wpAny_bind (wpAny_nextOf_list_end (s := { s with heap := g1 }) hh (a2.extBut s1.extBut (by (first | omega | exact nat_ne (by omega)))) (a5.extBut s1.extBut (by (first | omega | exact nat_ne (by omega)))) hx fun g2 e s2 he => ?_)
  exact hE g2 e (fun (c : Nat) o r q => s2 _ _ (by (first | omega | exact nat_ne (by omega))) (s1.extBut _ _ (by (first | omega | exact nat_ne (by omega))) q)) he
theorem z3_end {Q : Option Value → Shared → Prop} (hh : A.handled = none) (h1 : l1 < b) (h2 : l2 < b) (h3 : l3 < b) (st : Z3 b l1 l2 l3 xs ys zs i s.heap)
    (hx : xs.size = i) (hy : ys.size = i) (hw : zs.size = i)
    (hQ : ∀ h' tk, (∀ (c : Nat) (o : Obj), (c < b ∨ b + 6 ≤ c) → s.heap.get? c = some o → h'.get? c = some o) → Q none { s with heap := h', toks := tk }) : wpAny (model prog w) A (pyNext (.ref (b + 5))) Q E s := by
  have st' := st
  obtain ⟨a1, a2, a3, a4, a5, a6, a7, a8⟩ := st'
  rcases a8 with ⟨e1, c1, c2, c3, e2⟩ | ⟨T, f, oT, e1, e2, e3⟩
  · exact wpAny_pyNext_zipD3_end (i := i) (z3_sep h1 h2 h3) (Draws.list (prog := prog) (w := w) (A := A.in1) (show A.in1.handled = none from hh) b l1 (by (first | omega | exact nat_ne (by omega))) xs) (Draws.list (prog := prog) (w := w) (A := A.in1) (show A.in1.handled = none from hh) (b + 1) l2 (by (first | omega | exact nat_ne (by omega))) ys) (Draws.list (prog := prog) (w := w) (A := A.in1) (show A.in1.handled = none from hh) (b + 2) l3 (by (first | omega | exact nat_ne (by omega))) zs) e1 a1 e2 ⟨a2, a5⟩ ⟨a3, a6⟩ ⟨a4, a7⟩
      (by (first | omega | exact nat_ne (by omega))) (by (first | omega | exact nat_ne (by omega))) (by (first | omega | exact nat_ne (by omega))) (by (first | omega | exact nat_ne (by omega))) fun h' tk k => hQ h' tk fun (c : Nat) o r e => k c o (by (first | omega | exact nat_ne (by omega))) (by (first | omega | exact nat_ne (by omega))) (by (first | omega | exact nat_ne (by omega))) (by (first | omega | exact nat_ne (by omega))) (by (first | omega | exact nat_ne (by omega))) e
  · have ty : s.TypeIs (.ref (b + 5)) "zip" := ⟨_, e1, rfl⟩
    unfold pyNext
    refine wpAny_bind (wpAny_attempt (wpAny_callSpecial?_slot (name := Str.ofString "__next__") ty F.slot_zip_next
      (wpAny_call_entry F.slot_zip_next ty F.entry_zip_next (z3_heldEnd hh h1 st e1 e2 (Array.getElem?_eq_none (by (first | omega | exact nat_ne (by omega)))) fun h' e q1 q2 => ?_) (F.args_zip_next_1 _))))
    obtain ⟨o, ho, hc⟩ := q2
    (refine wpAny_bind (wpAny_isInstance (T := "StopIteration") (b := true) ⟨o, ho, hc⟩ isSubtype_stop ?_))
    exact wpAny_pure (hQ _ _ q1)
end
end K08

set_option Elab.async false
set_option linter.all false
namespace K08
open L2 PySem PySem.Spec PyProof.Rows
/-- the tuples that came, at their cells -/
structure Z3G (xs ys zs : Array Value) (lo : Nat) (h : Heap) (as : List Nat) : Prop where
  rise : as.Pairwise (· < ·)
  above : ∀ a ∈ as, lo < a
  tups : ∀ (j : Nat) (a : Nat), as[j]? = some a → ∃ x y z, xs[j]? = some x ∧ ys[j]? = some y ∧ zs[j]? = some z ∧ IsTupOf3 h a x y z
section
variable {prog : Program} {w : World} {A : Around} {E : Value → Shared → Prop} {s : Shared} {R : Result → Shared → Prop} {b l1 l2 l3 : Nat} {xs ys zs : Array Value}
theorem arr_at {a : Array Value} {i n : Nat} (e : a.size = n) (q : i < n) : a[i]? = some (a[i]'(by omega)) := Array.getElem?_eq_getElem (by omega)
theorem z3_loop {n : Nat} (hh : A.handled = none) (h1 : l1 < b) (h2 : l2 < b) (h3 : l3 < b) (ex : xs.size = n) (ey : ys.size = n) (ez : zs.size = n) (hn : n ≤ sizeLine) (res : Value) {g : Heap}
    (hR : ∀ h' tk acc c as, (∀ (a : Nat) (o : Obj), a < b → g.get? a = some o → h'.get? a = some o) → h'.get? (b + 6) = some { cls := .type "list", dict := none, data := .seq acc c, slots := #[] } → as.length = n → Z3G xs ys zs (b + 6) h' as →
      (acc.toList = as.map Value.ref) → R (.ok (.ret res)) { s with heap := h', toks := tk }) :
    ∀ (k i : Nat) (h : Heap) (tk c : Nat) (acc : Array Value) (as : List Nat), n - i = k → i ≤ n → Z3 b l1 l2 l3 xs ys zs i h → (∀ (a : Nat) (o : Obj), a < b → g.get? a = some o → h.get? a = some o) →
      h.get? (b + 6) = some { cls := .type "list", dict := none, data := .seq acc c, slots := #[] } → acc.toList = as.map Value.ref → as.length = i → Z3G xs ys zs (b + 6) h as → b + 6 < h.objs.size →
      codeAny (model prog w) A (.builtin "list.extend.loop" ⟨[.ref (b + 6), .ref (b + 5), res], []⟩) R { s with heap := h, toks := tk } := by
  intro k
  induction k with
  | zero =>
    intro i h tk c acc as hk hi st kp at6 hacc hal G big
    (refine codeAny_builtin F.entry_extend_loop ?_)
    (rw [Around.under_plainId F.plain_extend_loop _])
    show wpAny _ A.in1 (pyNext (.ref (b + 5)) >>= _) _ _ _
    refine wpAny_bind (z3_end (s := { s with heap := h, toks := tk }) (A := A.in1) hh h1 h2 h3 st (by omega) (by omega) (by omega) fun h' tk' he => ?_)
    refine wpAny_pure (hR h' tk' acc c as (fun a o q e => he a o (.inl q) (kp a o q e)) (he _ _ (.inr (Nat.le_refl _)) at6) (by omega) ⟨G.rise, G.above, fun j a hj => ?_⟩ hacc)
    obtain ⟨x, y, z, e1, e2, e3, e4⟩ := G.tups j a hj
    have q := G.above a (List.mem_of_getElem? hj)
    exact ⟨x, y, z, e1, e2, e3, he a _ (.inr (by omega)) e4⟩
  | succ k ih =>
    intro i h tk c acc as hk hi st kp at6 hacc hal G big
    have lt : i < n := by omega
    have accsz : acc.size = i := by rw [← Array.length_toList, hacc, List.length_map, hal]
    (refine codeAny_builtin F.entry_extend_loop ?_)
    (rw [Around.under_plainId F.plain_extend_loop _])
    show wpAny _ A.in1 (pyNext (.ref (b + 5)) >>= _) _ _ _
    refine wpAny_bind (z3_item (s := { s with heap := h, toks := tk }) (A := A.in1) hh h1 h2 h3 st big (arr_at ex lt) (arr_at ey lt) (arr_at ez lt) fun h' tk' st' tt sz kk => ?_)
    dsimp only at tt sz kk ⊢
    have at6' := kk _ _ (.inr (Nat.le_refl _)) at6
    have up : ∀ (a : Nat) (o : Obj), a ≠ b + 6 → h'.get? a = some o → (h'.update (b + 6) (Obj.mapSeq (·.push (Value.ref h.objs.size)))).get? a = some o := fun a o hb e => (Heap.get?_update_other _ _ (Ne.symm hb)).trans e
    show wpAny _ A.in1 (updateSeq (b + 6) (·.push (Value.ref h.objs.size)) >>= _) _ _ _
    refine wpAny_bind ?_
    have nlt : (h.objs.size : Nat) ≠ b + 6 := by first | omega | exact nat_ne (by omega)
    refine wpAny_updateSeq at6' rfl (wpAny_pure ⟨plainId_quiet F.plain_extend_loop _, ih (i + 1) _ tk' _ (acc.push (Value.ref h.objs.size)) (as ++ [h.objs.size]) (by omega) lt (z3_keep st' up h1 h2 h3)
      (fun a o q e => up a o (by omega) (kk a o (.inl q) (kp a o q e))) (Heap.get?_update_self _ at6' rfl) (by rw [Array.toList_push, hacc, List.map_append]; rfl) (by rw [List.length_append, hal]; rfl) ⟨?_, ?_, ?_⟩ ?_⟩) (by rw [accsz]; omega) (by show (acc.push (Value.ref h.objs.size)).size ≤ sizeLine + 1; rw [Array.size_push, accsz]; omega)
    · refine List.pairwise_append.mpr ⟨G.rise, List.pairwise_singleton _ _, fun a ha d hd => ?_⟩
      rw [List.mem_singleton.mp hd]
      (obtain ⟨j, hj⟩ := List.mem_iff_getElem?.mp ha)
      obtain ⟨_, _, _, _, _, _, e⟩ := G.tups j a hj
      exact Heap.lt_size e
    · intro a ha
      (rcases List.mem_append.mp ha with ha | ha)
      · exact G.above a ha
      · (rw [List.mem_singleton.mp ha])
        exact big
    · intro j a hj
      rcases Nat.lt_trichotomy j as.length with q | q | q
      · rw [List.getElem?_append_left q] at hj
        obtain ⟨x, y, z, e1, e2, e3, e4⟩ := G.tups j a hj
        have ab := G.above a (List.mem_of_getElem? hj)
        exact ⟨x, y, z, e1, e2, e3, up a _ (by omega) (kk a _ (.inr (by omega)) e4)⟩
      · subst q
        have ha : h.objs.size = a := by simpa using hj
        subst ha
        rw [hal]
        exact ⟨_, _, _, arr_at ex lt, arr_at ey lt, arr_at ez lt, up _ _ nlt tt⟩
      · have hno : (as ++ [h.objs.size])[j]? = none := List.getElem?_eq_none (by rw [List.length_append, List.length_singleton]; omega)
        rw [hno] at hj
        cases hj
    · have e : (h'.update (b + 6) (Obj.mapSeq (·.push (Value.ref h.objs.size)))).get? h.objs.size = _ := up _ _ nlt tt
      exact Nat.lt_trans big (Heap.lt_size e)
theorem zip_no_len : typeLookup (.type "zip") "__len__" = pure none := am_miss_of_fast (by decide +kernel)
theorem zip_no_hint : typeLookup (.type "zip") "__length_hint__" = pure none := am_miss_of_fast (by decide +kernel)
theorem z3_hint {r : Nat} (hT : s.TypeIs (.ref r) "zip") {Q : Bool → Shared → Prop} (h : Q true s) : wpAny (model prog w) A (Builtin.List.listLengthHint (.ref r)) Q E s := by
  (unfold Builtin.List.listLengthHint)
  refine wpAny_bind (wpAny_specialOf hT zip_no_len ?_)
  dsimp only
  refine wpAny_ite_split (fun q => absurd q (by decide)) (fun _ => ?_)
  refine wpAny_ite_split (fun q => absurd q (by decide)) (fun _ => ?_)
  refine wpAny_bind (wpAny_specialOf hT zip_no_hint ?_)
  exact wpAny_pure h
theorem z3_extend {n : Nat} (hh : A.handled = none) (h1 : l1 < b) (h2 : l2 < b) (h3 : l3 < b) (ex : xs.size = n) (ey : ys.size = n) (ez : zs.size = n) (hn : n ≤ sizeLine) (res : Value) (c₀ : Nat)
    (hz : IsZip s.heap (b + 5) (b + 3) (b + 4) .none) (st : Z3 b l1 l2 l3 xs ys zs 0 s.heap) (at6 : s.heap.get? (b + 6) = some { cls := .type "list", data := .seq #[] c₀ })
    (hR : ∀ h' tk acc c as, (∀ (a : Nat) (o : Obj), a < b → s.heap.get? a = some o → h'.get? a = some o) → h'.get? (b + 6) = some { cls := .type "list", dict := none, data := .seq acc c, slots := #[] } → as.length = n → Z3G xs ys zs (b + 6) h' as →
      (acc.toList = as.map Value.ref) → R (.ok (.ret res)) { s with heap := h', toks := tk }) :
    wpAny (model prog w) A.in1 (Builtin.List.listExtendWith (.ref (b + 6)) (.ref (b + 5)) res)
      (fun fi s' => match fi with | .done f => R (.ok f) s' | .again c' => c'.quiet = true ∧ codeAny (model prog w) A c' R s') (fun e s' => R (.error e) s') s := by
  have go : ∀ (h : Heap) (c₁ tk : Nat), (∀ (a : Nat) (o : Obj), a ≠ b + 6 → s.heap.get? a = some o → h.get? a = some o) → h.get? (b + 6) = some { cls := .type "list", data := .seq #[] c₁ } →
      codeAny (model prog w) A (.builtin "list.extend.loop" ⟨[.ref (b + 6), .ref (b + 5), res], []⟩) R { s with heap := h, toks := tk } := by
    intro h c₁ tk kp at6'
    exact z3_loop (s := s) (g := s.heap) hh h1 h2 h3 ex ey ez hn res hR n 0 h tk c₁ #[] [] (Nat.sub_zero _) (Nat.zero_le _) (z3_keep st kp h1 h2 h3) (fun a o q e => kp a o (by omega) e) at6' rfl rfl
      ⟨List.Pairwise.nil, (fun _ ha => nomatch ha), (fun j a hj => by simp at hj)⟩ (Heap.lt_size at6')
  have ty : s.TypeIs (.ref (b + 5)) "zip" := ⟨_, hz, rfl⟩
  (unfold Builtin.List.listExtendWith)
  refine wpAny_bind (wpAny_typeOf (T := "zip") ty ?_)
  have q1 : Builtin.List.listSameRef (.ref (b + 6)) (.ref (b + 5)) = false := by simp [Builtin.List.listSameRef]
  have q2 : (Value.type "zip" == Value.type "list") = false := by decide
  have q3 : (Value.type "zip" == Value.type "tuple") = false := by decide
  simp only [q1, q2, q3, Bool.or_false, Bool.false_eq_true, if_false]
  refine wpAny_bind (wpAny_pyIter_zip hz ?_)
  refine wpAny_bind (wpAny_holding (z3_hint ty ?_))
  refine wpAny_ite_split (fun _ => ?_) (fun _ => wpAny_pure ⟨plainId_quiet F.plain_extend_loop _, go _ c₀ _ (fun a o _ e => e) at6⟩)
  (refine wpAny_bind (wpAny_rule ?_))
  refine wpAny_bind ?_
  show wpAny _ _ (updateSeq (b + 6) (·.push .none) >>= fun _ => updateSeq (b + 6) (·.pop)) _ _ _
  refine wpAny_bind (wpAny_updateSeq at6 rfl ?_)
  have at6b := Heap.get?_update_self (Obj.mapSeq (·.push Value.none)) at6 rfl
  refine wpAny_updateSeq (hz := by seq_fits) at6b rfl ?_
  have at6c := Heap.get?_update_self (Obj.mapSeq (·.pop)) at6b rfl
  refine wpAny_pure ⟨plainId_quiet F.plain_extend_loop _, go _ _ _ (fun a o hb e => ?_) at6c⟩
  (exact (Heap.get?_update_other _ _ (Ne.symm hb)).trans ((Heap.get?_update_other _ _ (Ne.symm hb)).trans e))
theorem z3_init {n : Nat} (hh : A.handled = none) (h1 : l1 < b) (h2 : l2 < b) (h3 : l3 < b) (ex : xs.size = n) (ey : ys.size = n) (ez : zs.size = n) (hn : n ≤ sizeLine)
    (hz : IsZip s.heap (b + 5) (b + 3) (b + 4) .none) (st : Z3 b l1 l2 l3 xs ys zs 0 s.heap) (at6 : s.heap.get? (b + 6) = some { cls := .type "list", data := .seq #[] })
    (hR : ∀ h' tk acc c as, (∀ (a : Nat) (o : Obj), a < b → s.heap.get? a = some o → h'.get? a = some o) → h'.get? (b + 6) = some { cls := .type "list", dict := none, data := .seq acc c, slots := #[] } → as.length = n → Z3G xs ys zs (b + 6) h' as →
      acc.toList = as.map Value.ref → R (.ok (.ret .none)) { s with heap := h', toks := tk }) :
    wpAny (model prog w) A.in1 (Builtin.«list.__init__» ⟨[.ref (b + 6), .ref (b + 5)], []⟩)
      (fun fi s' => match fi with | .done f => R (.ok f) s' | .again c' => c'.quiet = true ∧ codeAny (model prog w) A c' R s') (fun e s' => R (.error e) s') s := by
  show wpAny _ _ (do let old ← Builtin.List.listItems (.ref (b + 6)); Builtin.List.listUpdate (.ref (b + 6)) (fun _ => #[]); letGo old.toList.reverse; Builtin.List.listExtendWith (.ref (b + 6)) (.ref (b + 5)) .none) _ _ s
  refine wpAny_bind ?_
  unfold Builtin.List.listItems
  refine wpAny_bind (wpAny_seqItems at6 rfl (wpAny_pure ?_))
  show wpAny _ _ (updateSeq (b + 6) (fun _ => #[]) >>= fun _ => letGo (#[] : Array Value).toList.reverse >>= fun _ => Builtin.List.listExtendWith (.ref (b + 6)) (.ref (b + 5)) .none) _ _ s
  refine wpAny_bind (wpAny_updateSeq at6 rfl ?_)
  have at6b := Heap.get?_update_self (Obj.mapSeq (fun _ => (#[] : Array Value))) at6 rfl
  have oth : ∀ (a : Nat) (o : Obj), a ≠ b + 6 → s.heap.get? a = some o → (s.heap.update (b + 6) (Obj.mapSeq (fun _ => (#[] : Array Value)))).get? a = some o :=
    fun a o hb e => (Heap.get?_update_other _ _ (Ne.symm hb)).trans e
  (refine wpAny_bind (wpAny_letGo ?_))
  refine z3_extend hh h1 h2 h3 ex ey ez hn .none _ (oth _ _ (by omega) hz) (z3_keep st oth h1 h2 h3) at6b fun h' tk acc c as hk hS' hl hG hacc => ?_
  exact hR h' tk acc c as (fun a o q e => hk a o q (oth a o (by omega) e)) hS' hl hG hacc
theorem z3_call {n : Nat} {Q : Value → Shared → Prop} (hh : A.handled = none) (h1 : l1 < b) (h2 : l2 < b) (h3 : l3 < b) (ex : xs.size = n) (ey : ys.size = n) (ez : zs.size = n) (hn : n ≤ sizeLine)
    (hz : IsZip s.heap (b + 5) (b + 3) (b + 4) .none) (st : Z3 b l1 l2 l3 xs ys zs 0 s.heap) (sz : s.heap.objs.size = b + 6)
    (hQ : ∀ h' tk acc c as, (∀ (a : Nat) (o : Obj), a < b → s.heap.get? a = some o → h'.get? a = some o) → h'.get? (b + 6) = some { cls := .type "list", dict := none, data := .seq acc c, slots := #[] } → as.length = n → Z3G xs ys zs (b + 6) h' as →
      acc.toList = as.map Value.ref → Q (.ref (b + 6)) { s with heap := h', toks := tk }) :
    wpAny (model prog w) A (call (.type "list") [.ref (b + 5)]) Q E s := by
  refine callType_codes (Q₁ := fun obj s₁ => obj = .ref (b + 6) ∧ s₁ = { s with heap := s.heap.push { cls := .type "list", data := .seq #[] } }) F.called_list (F.typeCall_list_1 _) F.entry_list_init
    (by rw [← sz]; exact code_list_new _ ⟨rfl, rfl⟩) fun obj s₁ q => ?_
  obtain ⟨rfl, rfl⟩ := q
  have at6 : (s.heap.push { cls := .type "list", data := .seq #[] }).get? (b + 6) = some { cls := .type "list", data := .seq #[] } := by rw [← sz]; exact Heap.get?_push_size _ rfl
  refine ⟨⟨_, at6, rfl⟩, F.args_list_init_2 _ _, z3_init (A := A.in1) hh h1 h2 h3 ex ey ez hn (Heap.get?_push_of_some _ hz) (z3_keep st (fun a o _ e => Heap.get?_push_of_some _ e) h1 h2 h3) at6 fun h' tk acc c as hk hS' hl hG hacc => ?_⟩
  exact ⟨rfl, hQ h' tk acc c as (fun a o q e => hk a o q (Heap.get?_push_of_some _ e)) hS' hl hG hacc⟩
end
end K08

set_option Elab.async false
set_option linter.all false
namespace K08
open L2 PySem PySem.Spec PyProof.Rows
/-! the rule for list(zip(a, b, c)) -/
def rows3 : List Addr → List V → List V → List V → List (Addr × List V)
  | a :: as, x :: xs, y :: ys, z :: zs => (a, [x, y, z]) :: rows3 as xs ys zs
  | _, _, _, _ => []
def layR : Hp → List (Addr × List V) → Hp
  | H, [] => H
  | H, p :: r => layR (upd H p.1 (.tup p.2)) r
theorem rows3_mem : ∀ {as : List Addr} {xs ys zs : List V} {p : Addr × List V}, p ∈ rows3 as xs ys zs → ∃ (j : Nat) (x y z : V), as[j]? = some p.1 ∧ xs[j]? = some x ∧ ys[j]? = some y ∧ zs[j]? = some z ∧ p.2 = [x, y, z]
  | a :: as, x :: xs, y :: ys, z :: zs, p, h => by
    (rcases List.mem_cons.mp h with e | h)
    · subst e
      exact ⟨0, x, y, z, rfl, rfl, rfl, rfl, rfl⟩
    · obtain ⟨j, x', y', z', e1, e2, e3, e4, e5⟩ := rows3_mem h
      exact ⟨j + 1, x', y', z', e1, e2, e3, e4, e5⟩
  | [], _, _, _, _, h => nomatch h
  | _ :: _, [], _, _, _, h => nomatch h
  | _ :: _, _ :: _, [], _, _, h => nomatch h
  | _ :: _, _ :: _, _ :: _, [], _, h => nomatch h
theorem rows3_at : ∀ {as : List Addr} {xs ys zs : List V} {j : Nat} {a : Addr} {x y z : V}, as[j]? = some a → xs[j]? = some x → ys[j]? = some y → zs[j]? = some z → (a, [x, y, z]) ∈ rows3 as xs ys zs
  | a :: as, x :: xs, y :: ys, z :: zs, 0, _, _, _, _, h1, h2, h3, h4 => by
    cases h1
    cases h2
    cases h3
    cases h4
    exact List.mem_cons_self
  | a :: as, x :: xs, y :: ys, z :: zs, j + 1, _, _, _, _, h1, h2, h3, h4 => List.mem_cons_of_mem _ (rows3_at (j := j) h1 h2 h3 h4)
  | [], _, _, _, _, _, _, _, _, h, _, _, _ => nomatch h
  | _ :: _, [], _, _, _, _, _, _, _, _, h, _, _ => nomatch h
  | _ :: _, _ :: _, [], _, _, _, _, _, _, _, _, h, _ => nomatch h
  | _ :: _, _ :: _, _ :: _, [], _, _, _, _, _, _, _, _, h => nomatch h
theorem layR_off {b : Addr} : ∀ (r : List (Addr × List V)) (H : Hp), (∀ p ∈ r, p.1 ≠ b) → layR H r b = H b
  | [], _, _ => rfl
  | p :: r, H, h => by
    show layR (upd H p.1 (.tup p.2)) r b = H b
    rw [layR_off r _ fun q hq => h q (List.mem_cons_of_mem _ hq), upd_ne fun e => h p List.mem_cons_self e.symm]
theorem rows3_first {as : List Addr} {xs ys zs : List V} {p : Addr × List V} (h : p ∈ rows3 as xs ys zs) : p.1 ∈ as := by
  obtain ⟨j, _, _, _, e, _⟩ := rows3_mem h
  exact List.mem_of_getElem? e
theorem layR_at : ∀ {as : List Addr} {xs ys zs : List V} (H : Hp), as.Nodup → ∀ p ∈ rows3 as xs ys zs, layR H (rows3 as xs ys zs) p.1 = some (.tup p.2)
  | a :: as, x :: xs, y :: ys, z :: zs, H, nd, p, h => by
    (obtain ⟨n1, n2⟩ := List.nodup_cons.mp nd)
    show layR (upd H a (.tup [x, y, z])) (rows3 as xs ys zs) p.1 = _
    (rcases List.mem_cons.mp h with e | h)
    · subst e
      show layR (upd H a (.tup [x, y, z])) (rows3 as xs ys zs) a = _
      rw [layR_off _ _ fun q hq e => n1 (by rw [← e]; exact rows3_first hq), upd_same]
    · exact layR_at _ n2 p h
  | [], _, _, _, _, _, _, h => nomatch h
  | _ :: _, [], _, _, _, _, _, h => nomatch h
  | _ :: _, _ :: _, [], _, _, _, _, h => nomatch h
  | _ :: _, _ :: _, _ :: _, [], _, _, _, h => nomatch h
theorem refs_vals : ∀ as : List Nat, Vals (as.map V.ref) (as.map Value.ref)
  | [] => .nil
  | _ :: as => .cons rfl (refs_vals as)
/-- the tuples of three lists, one for each turn -/
def Tri (H : Hp) (ts : List Addr) (xs ys zs : List V) : Prop := ts.length = xs.length ∧ ∀ (j : Nat) (t : Addr), ts[j]? = some t → ∃ x y z, xs[j]? = some x ∧ ys[j]? = some y ∧ zs[j]? = some z ∧ H t = some (.tup [x, y, z])
def tListZip3 (ta : TA) : TE := fun σ H Q => ta σ H fun vs H1 => ∃ (a b c : Addr) (xs ys zs : List V), vs = [.ref a, .ref b, .ref c] ∧ H1 a = some (.lst xs) ∧ H1 b = some (.lst ys) ∧ H1 c = some (.lst zs) ∧ xs.length = ys.length ∧ xs.length = zs.length ∧
  ∀ (H' : Hp) (p : Addr) (ts : List Addr), Same H1 H' → H1 p = none → (∀ t ∈ ts, H1 t = none) → p ∉ ts → H' p = some (.lst (ts.map V.ref)) → Tri H' ts xs ys zs → Q (.ref p) H'
section
variable {X : Cx} {e1 e2 e3 : Expr} {ta : TA} {p p' cpos pos : Pos}
theorem z3_laid {pins : List (Addr × Obj)} {σ : L2.St} {H : Hp} {s : Shared} {h' : Heap} {tk : Nat} {xs ys zs : List V} {us vs ws : List Value} {acc : Array Value} {c : Nat} {as : List Nat} (I : Inv X pins σ H s) (hz : xs.length ≤ sizeLine) (rx : Vals xs us) (ry : Vals ys vs) (rz : Vals zs ws)
    (hk : ∀ (a : Nat) (o : Obj), a < s.heap.objs.size → s.heap.get? a = some o → h'.get? a = some o) (hS : h'.get? (s.heap.objs.size + 6) = some { cls := .type "list", dict := none, data := .seq acc c, slots := #[] }) (hl : as.length = xs.length) (G : Z3G us.toArray vs.toArray ws.toArray (s.heap.objs.size + 6) h' as) (hacc : acc.toList = as.map Value.ref) :
    ∃ H' : Hp, Same H H' ∧ H (s.heap.objs.size + 6) = none ∧ (∀ t ∈ as, H t = none) ∧ (s.heap.objs.size + 6) ∉ as ∧ H' (s.heap.objs.size + 6) = some (.lst (as.map V.ref)) ∧ Tri H' as xs ys zs ∧ Inv X pins σ H' { s with heap := h', toks := tk } := by
  have big : ∀ t ∈ as, s.heap.objs.size + 6 < t := G.above
  have nin : (s.heap.objs.size + 6) ∉ as := fun z => Nat.lt_irrefl _ (big _ z)
  have nd : as.Nodup := List.Pairwise.imp (fun {a b} (h : a < b) => Nat.ne_of_lt h) G.rise
  have new : ∀ t ∈ as, H t = none := fun t ht => I.hok.fresh (by have := big t ht; show s.heap.objs.size ≤ t; omega)
  have newS : H (s.heap.objs.size + 6) = none := I.hok.fresh (Nat.le_add_right _ _)
  have off : ∀ b, b ∉ as → b ≠ s.heap.objs.size + 6 → layR (upd H (s.heap.objs.size + 6) (.lst (as.map V.ref))) (rows3 as xs ys zs) b = H b := fun b n1 n2 => by
    rw [layR_off _ _ fun q hq e => n1 (by rw [← e]; exact rows3_first hq), upd_ne n2]
  have kp : Same H (layR (upd H (s.heap.objs.size + 6) (.lst (as.map V.ref))) (rows3 as xs ys zs)) := fun b u e => by
    (rw [off b (fun z => by rw [new b z] at e; cases e) (fun z => by rw [z, newS] at e; cases e)])
    exact e
  have low : ∀ b o, s.heap.get? b = some o → h'.get? b = some o := fun b o e => hk b o (Heap.lt_size e) e
  have eS : layR (upd H (s.heap.objs.size + 6) (.lst (as.map V.ref))) (rows3 as xs ys zs) (s.heap.objs.size + 6) = some (.lst (as.map V.ref)) := by
    rw [layR_off _ _ fun q hq e => nin (by rw [← e]; exact rows3_first hq), upd_same]
  have row : ∀ (j : Nat) (t : Addr), as[j]? = some t → ∃ x y z u v w, xs[j]? = some x ∧ ys[j]? = some y ∧ zs[j]? = some z ∧ RelV x u ∧ RelV y v ∧ RelV z w ∧ IsTupOf3 h' t u v w := fun j t ht => by
    obtain ⟨u, v, w, f1, f2, f3, f4⟩ := G.tups j t ht
    have back : ∀ {qs : List V} {rs : List Value} {r : Value}, Vals qs rs → rs.toArray[j]? = some r → ∃ q, qs[j]? = some q ∧ RelV q r := fun {qs rs r} R e => by
      have e' : rs[j]? = some r := by simpa using e
      have lt : j < qs.length := by
        rw [R.length]
        rcases Nat.lt_or_ge j rs.length with q | q
        · exact q
        · rw [List.getElem?_eq_none q] at e'
          cases e'
      obtain ⟨r', a1, a2⟩ := R.get (List.getElem?_eq_getElem lt)
      rw [e'] at a1
      cases a1
      exact ⟨_, List.getElem?_eq_getElem lt, a2⟩
    obtain ⟨x, a1, b1⟩ := back rx f1
    obtain ⟨y, a2, b2⟩ := back ry f2
    obtain ⟨z, a3, b3⟩ := back rz f3
    exact ⟨x, y, z, u, v, w, a1, a2, a3, b1, b2, b3, f4⟩
  refine ⟨layR (upd H (s.heap.objs.size + 6) (.lst (as.map V.ref))) (rows3 as xs ys zs), kp, newS, new, nin, eS, ⟨hl, fun j t ht => ?_⟩, ?_⟩
  · obtain ⟨x, y, z, _, _, _, a1, a2, a3, _⟩ := row j t ht
    exact ⟨x, y, z, a1, a2, a3, layR_at _ nd _ (rows3_at ht a1 a2 a3)⟩
  · refine I.call' (ch := []) rfl ⟨fun b o q _ _ _ => low b o q, fun b o q _ _ _ => ⟨o.slots, low b o q⟩, fun b o q n _ => ?_, fun b o q _ => ⟨o, low b o q⟩, fun b xs q => kp b _ q, fun b o u q => kp b _ q, fun b ps q => ⟨#[], by rw [kp b _ q]; simp⟩⟩ (fun b u q => ?_) I.bare fun b z => by simp at z
    · rw [off b (fun z => Nat.lt_irrefl _ (Nat.lt_trans (Nat.lt_of_lt_of_le (Heap.lt_size q) (Nat.le_add_right _ 6)) (big b z))) (Nat.ne_of_lt (Nat.lt_of_lt_of_le (Heap.lt_size q) (Nat.le_add_right _ 6)))]
      exact n
    · by_cases hb : b ∈ as
      · obtain ⟨j, hj⟩ := List.mem_iff_getElem?.mp hb
        obtain ⟨x, y, z, u1, v1, w1, a1, a2, a3, b1, b2, b3, f4⟩ := row j b hj
        rw [layR_at _ nd _ (rows3_at hj a1 a2 a3)] at q
        cases q
        exact ⟨by show 3 ≤ sizeLine; decide, [u1, v1, w1], .cons b1 (.cons b2 (.cons b3 .nil)), ⟨_, f4, rfl, _, rfl⟩⟩
      · by_cases hb2 : b = s.heap.objs.size + 6
        · rw [hb2] at q ⊢
          rw [eS] at q
          cases q
          refine ⟨by rw [List.length_map]; omega, acc.toList, c, by rw [hacc]; exact refs_vals as, ?_⟩
          rw [Array.toArray_toList]
          exact hS
        · rw [off b hb hb2] at q
          exact (I.hok b u q).stay (fun d v _ y => low d v y) (fun d y => kp d _ y) fun d xs y => kp d _ y
theorem pe_listZip3 (hc : X.calm = true) (ha : PA X [e1, e2, e3] ta) (gL : Gl X "list") (mL : X.mg "list" = none) (gZ : Gl X "zip") (mZ : X.mg "zip" = none) (bL : bootBuiltins "list" = some (.type "list"))
    (hs : starEach [.Call (.Name "zip" p') [e1, e2, e3] [] cpos] X.env = (false, eval (.Call (.Name "zip" p') [e1, e2, e3] [] cpos) X.env) :: starEach [] X.env := by rfl)
    (hs' : starEach [e1, e2, e3] X.env = (false, eval e1 X.env) :: starEach [e2, e3] X.env := by rfl) (hpl : (backTo cpos (starEach [e2, e3] X.env)).any (·.1) = false := by rfl) :
    PE X (.Call (.Name "list" p) [.Call (.Name "zip" p') [e1, e2, e3] [] cpos] [] pos) (tListZip3 ta) := by
  (refine ⟨fun pins s σ H Q I hq => ?_⟩)
  refine wpAny_Call_Name_kw (ld_blt I gL mL bL ?_)
  (refine PyProof.Rows.callWith_type1 ?_ hs rfl)
  rw [hs]
  show wpAny _ _ (spliced ((false, eval (.Call (.Name "zip" p') [e1, e2, e3] [] cpos) X.env) :: backTo pos (starEach [] X.env))) _ _ s
  refine Calls.spliced_cons ?_
  refine Call_ (ld_blt I gZ mZ PyProof.Rows.boot_zip (PyProof.Rows.callWith_type1 (thn (ha.run cpos pins s σ H _ I hq) fun rs s1 ⟨vs0, H1, I1, r1, q1⟩ => ?_) hs' hpl))
  obtain ⟨a, b, c, xs, ys, zs, ex, h1, h2, h3, ly, lz, q⟩ := q1
  subst ex
  cases r1 with
  | cons ra r2 =>
  cases r2 with
  | cons rb r3 =>
  cases r3 with
  | cons rc r4 =>
  cases r4
  cases ra
  cases rb
  cases rc
  obtain ⟨us, rx, p1, _⟩ := I1.list (.inl (.inl h1))
  obtain ⟨vs, ry, p2, _⟩ := I1.list (.inl (.inl h2))
  obtain ⟨ws, rz, p3, _⟩ := I1.list (.inl (.inl h3))
  have bnd : xs.length ≤ sizeLine := (I1.hok a _ h1).1
  have lx := rx.length
  have ly' := ry.length
  have lz' := rz.length
  refine zip_begins3 (begins_list a us.toArray) (begins_list b vs.toArray) (begins_list c ws.toArray) p1.isList p2.isList p3.isList fun g gz gT gO g1 g2 g3 gs gk => ?_
  refine Calls.spliced_nil ?_
  have n1 : (a : Nat) < s1.heap.objs.size := p1.lt
  have n2 : (b : Nat) < s1.heap.objs.size := p2.lt
  have n3 : (c : Nat) < s1.heap.objs.size := p3.lt
  have st : Z3 s1.heap.objs.size a b c us.toArray vs.toArray ws.toArray 0 g := ⟨gT, ⟨_, g1, rfl, rfl⟩, ⟨_, g2, rfl, rfl⟩, ⟨_, g3, rfl, rfl⟩, p1.isList.at fun o => gk a o, p2.isList.at fun o => gk b o, p3.isList.at fun o => gk c o, .inl ⟨gz, _, _, _, gO⟩⟩
  refine z3_call (n := xs.length) (s := { s1 with heap := g }) (I1.ok.hd hc) n1 n2 n3 (by simp; omega) (by simp; omega) (by simp; omega) bnd gz st gs fun h' tk acc cc as hk hS hl hG hacc => ?_
  obtain ⟨H', k1, k2, k3, k4, k5, k6, J⟩ := z3_laid (tk := tk) I1 bnd rx ry rz (fun d o lt e => hk d o lt (gk d o e)) hS hl hG hacc
  (exact ⟨.ref _, H', J, rfl, q H' _ as k1 k2 k3 k4 k5 k6⟩)
end
end K08

set_option Elab.async false
set_option linter.all false
namespace K08
open PySem L2
abbrev sPlan : Stmt := top 20
/-- a drawn plan: names, ways, who takes -/
structure Three (ws ys : List Str) (bs : List Bool) : Prop where
  one : 1 ≤ ws.length
  four : ws.length ≤ 4
  ly : ys.length = ws.length
  lb : bs.length = ws.length
  nd : ws.Nodup
  nm : ∀ x ∈ ws, IsNm x
  wy : ∀ y ∈ ys, y ∈ ways4
structure PlanAt (H : Hp) (j d : Addr) (ws ys : List Str) (bs : List Bool) : Prop where
  ex : ∃ p1 p2 p3 : Addr, d ≠ j ∧ p1 ≠ j ∧ p2 ≠ j ∧ p3 ≠ j ∧ H d = some (.dK [(.inr "names", .ref p1), (.inr "ways", .ref p2), (.inr "takes", .ref p3)]) ∧
    H p1 = some (.lst (ws.map V.str)) ∧ H p2 = some (.lst (ys.map V.str)) ∧ H p3 = some (.lst (bs.map V.bl))
theorem PlanAt.keep {H H' : Hp} {j d : Addr} {ws ys : List Str} {bs : List Bool} (h : PlanAt H j d ws ys bs) (k : Keep j H H') : PlanAt H' j d ws ys bs := by
  obtain ⟨p1, p2, p3, n0, n1, n2, n3, e0, e1, e2, e3⟩ := h.ex
  exact ⟨p1, p2, p3, n0, n1, n2, n3, k _ _ n0 e0, k _ _ n1 e1, k _ _ n2 e2, k _ _ n3 e3⟩
section
variable {base : Heap} {P : Program} {w : World} {K : PySem.W.Frag} {mg : Str → Option Value}
def spPlan : Sp := fun vs H Q _ => ∃ (j : Addr) (n m : Nat), vs = [.ref j, .int m] ∧ Jar H j n ∧ n ≤ 7000 ∧ 1 ≤ m ∧ m ≤ 4 ∧
  ∀ (d : Addr) (H' : Hp) (ws ys : List Str) (bs : List Bool), Three ws ys bs → Jar H' j (n + 30) → Keep j H H' → PlanAt H' j d ws ys bs → Q (.ref d) H'
abbrev nPlan : List Str := ["_law_jar_here", "_law_most", "_law_names_here", "_law_ways", "_law_name"]
theorem scPlan : FnScope nPlan ["_law_jar_here", "_law_most"] (defScope sPlan) := ⟨rfl, rfl, rfl, by decide +kernel, rfl, by decide +kernel, by decide +kernel⟩
theorem way_of {y : V} (h : y ∈ ([.str "fresh", .str "once", .str "handed", .str "kept"] : List V)) : ∃ z : Str, y = .str z ∧ z ∈ ways4 := by
  have e : ([.str "fresh", .str "once", .str "handed", .str "kept"] : List V) = ways4.map V.str := rfl
  rw [e] at h
  (obtain ⟨z, hz, rfl⟩ := List.mem_map.mp h)
  exact ⟨z, rfl, hz⟩
theorem merge3 (a b c : V) : mergeK [] [(.inr "names", a), (.inr "ways", b), (.inr "takes", c)] = [(.inr "names", a), (.inr "ways", b), (.inr "takes", c)] := rfl
theorem ok_plan {f : Addr} {fd : FuncData} (F : Fun K "_law_plan" "_law_plan" sPlan f fd) (GN : Has P w K mg base "_law_names" 3 ["_law_jar_here", "_law_many"] spNames) (G : jarTake P w K mg base) (GO : jarOf P w K mg base) : FnOk P w K mg base CX0 4 f fd ["_law_jar_here", "_law_most"] spPlan := by
  refine F.ok scPlan (fun vs H Q E h => ?_) (fun cdv A outer s H vs Q E hr h => ?_)
  · obtain ⟨j, n, m, rfl, _⟩ := h
    rfl
  · obtain ⟨j, n, m, rfl, hj, hn, m1, m4, k⟩ := h
    have hr2 : Room 2 _ := (hr.mono (by decide))
    have hr1 : Room 1 _ := (hr.mono (by decide))
    refine ⟨_, pss_cons (ps_set (i := 2) scPlan.nd rfl (.inl rfl) (pe_has GN hr (pa_cons (pv 0) (pa_cons (pe_op op_add pe_int (pe_has G hr1 (pa_cons (pv 0) (pa_cons (pv 1) pa_nil)))) pa_nil))))
      (pss_cons (ps_setLc (i := 3) (own := [("_law_name", 4)]) (g := gName 4) (tt := tYes) rfl scPlan.nd rfl rfl rfl (pi_list (pv 2))
          (blkOk_by (N := nPlan) (sc := defScope sPlan) (by decide +kernel)) (fun _ _ _ _ _ => pg_name (i := 4) scPlan.nd rfl (Or.inl rfl)) (fun _ _ _ _ _ => pts_nil)
          (fun _ _ _ _ _ => pe_has GO hr2 (pa_cons (pv 0) (pa_cons (pe_lst (pa_cons pe_str (pa_cons pe_str (pa_cons pe_str (pa_cons pe_str pa_nil))))) pa_nil))))
      (pss_one (ps_ret (pe_disp (pps_cons pe_str (pv 2) (pps_cons pe_str (pv 3) (pps_cons pe_str
          (pe_lc (own := [("_law_name", 4)]) (g := gName 4) (tt := tYes) rfl scPlan.nd (pi_list (pv 2))
            (blkOk_by (N := nPlan) (sc := defScope sPlan) (by decide +kernel)) (fun _ _ _ _ _ => pg_name (i := 4) scPlan.nd rfl (Or.inl rfl)) (fun _ _ _ _ _ => pts_nil)
            (fun _ _ _ _ _ => pe_cmpR op_eq (pe_has G hr1 (pa_cons (pv 0) (pa_cons pe_int pa_nil))) pe_int (nomark _))) pps_nil))) rfl rfl (by simp) (by decide))))), ?_⟩
    refine ⟨.ref j, rfl, .ref j, rfl, .int m, rfl, j, m, n, rfl, hj, by omega, by omega, by omega, fun d0 H1 z0 z1 hj1 kp1 => ?_⟩
    obtain ⟨d, rfl⟩ := Int.eq_ofNat_of_zero_le z0
    refine ⟨_, _, rfl, rfl, j, n + 1, 1 + d, ?_, hj1, by omega, by omega, fun p1 H2 ws lw nd_ nm hj2 kp2 f1 e1 => ?_⟩
    · show [V.ref j, V.int (1 + (d : Int))] = [V.ref j, V.int ((1 + d : Nat) : Int)]
      rw [Int.natCast_add]
      rfl
    have np1 : p1 ≠ j := kp1 |> fun _ => hj1.ne f1
    have kp2' := kp1.trans kp2
    have hj2' : Jar H2 j (n + 11) := hj2.mono (by omega)
    dsimp only [tAsg, tLc, iList, List.map]
    refine ⟨_, rfl, p1, rfl, ⟨_, SqL.of e1⟩, fun p2 nP2 => ?_⟩
    have np2 := hj2.ne nP2
    have np21 : p2 ≠ p1 := fun e => by
      rw [e, e1] at nP2
      cases nP2
    have lw' : ws.length ≤ 4 := by omega
    refine lc_list (xs := ws.map V.str) (fun i H3 => ∃ ys : List Str, ys.length = i ∧ (∀ y ∈ ys, y ∈ ways4) ∧ H3 p2 = some (.lst (ys.map V.str)) ∧ H3 p1 = some (.lst (ws.map V.str)) ∧ Jar H3 j (n + 11 + i) ∧ Keep j H H3 ∧ i ≤ 4)
      ⟨[], rfl, (fun c hc => (List.not_mem_nil hc).elim), upd_same, by rw [upd_ne np21.symm]; exact e1, hj2'.upd np2, kp2'.upd_new (kp2'.free nP2 np2), by decide⟩ (fun i H3 _ ⟨_, _, _, _, q, _⟩ => SqL.of q) ?_ ?_
    · rintro i x H3 hx ⟨ys, ly, wy, hp2, hp1, hj3, kp3, i4⟩
      have ilt : i < ws.length := by
        have := (List.getElem?_eq_some_iff.mp hx).1
        rwa [List.length_map] at this
      refine ⟨rfl, .ref j, rfl, (by show 4 ≤ sizeLine; decide), fun q nq => ?_⟩
      have nqj := hj3.ne nq
      refine ⟨j, n + 11 + i, .ref q, rfl, hj3.upd nqj, by omega, .inl ⟨q, _, rfl, nqj, SqL.of upd_same, by decide, by decide, fun y H4 hy hj4 kp4 => ?_⟩⟩
      obtain ⟨z, rfl, hz⟩ := way_of hy
      have kq : Keep j H3 H4 := (Keep.new nq).trans kp4
      have a2 := kq _ _ np2 hp2
      have a1 := kq _ _ np1 hp1
      refine ⟨_, a2, by rw [List.length_map]; exact small1000 (by omega), ys ++ [z], by rw [List.length_append, ly]; rfl, fun u hu => ?_, ?_, ?_, hj4.upd np2, ?_, by omega⟩
      · rcases List.mem_append.mp hu with hu | hu
        · exact wy u hu
        · rw [List.mem_singleton.mp hu]
          exact hz
      · rw [upd_same, List.map_append]
        rfl
      · rw [upd_ne np21.symm]
        exact a1
      · exact (kp3.trans kq).upd_new (kp2'.free nP2 np2)
    · rintro H3 ⟨ys, ly, wy, hp2, hp1, hj3, kp3, i4⟩
      rw [List.length_map] at ly hj3 i4
      refine fun dd nd => ?_
      have ndj := hj3.ne nd
      have nd1 : dd ≠ p1 := fun e => by
        rw [e, hp1] at nd
        cases nd
      have nd2 : dd ≠ p2 := fun e => by
        rw [e, hp2] at nd
        cases nd
      refine ⟨.ref p1, rfl, .ref p2, rfl, ?_⟩
      refine ⟨_, rfl, p1, rfl, ⟨_, SqL.of (by rw [upd_ne nd1.symm]; exact hp1)⟩, fun p3 nP3 => ?_⟩
      have hjd : Jar (upd H3 dd (.dK [])) j (n + 11 + ws.length) := hj3.upd ndj
      have np3 := hjd.ne nP3
      have np31 : p3 ≠ p1 := fun e => by
        rw [e, upd_ne nd1.symm, hp1] at nP3
        cases nP3
      have np32 : p3 ≠ p2 := fun e => by
        rw [e, upd_ne nd2.symm, hp2] at nP3
        cases nP3
      have np3d : p3 ≠ dd := fun e => by
        rw [e, upd_same] at nP3
        cases nP3
      have kpd : Keep j H (upd H3 dd (.dK [])) := kp3.upd_new (kp3.free nd ndj)
      refine lc_list (xs := ws.map V.str) (fun i H4 => ∃ bs : List Bool, bs.length = i ∧ H4 p3 = some (.lst (bs.map V.bl)) ∧ H4 p2 = some (.lst (ys.map V.str)) ∧ H4 p1 = some (.lst (ws.map V.str)) ∧ H4 dd = some (.dK []) ∧ Jar H4 j (n + 15 + i) ∧ Keep j H H4 ∧ i ≤ 4)
        ⟨[], rfl, upd_same, by rw [upd_ne np32.symm, upd_ne nd2.symm]; exact hp2, by rw [upd_ne np31.symm, upd_ne nd1.symm]; exact hp1, by rw [upd_ne np3d.symm, upd_same], (hjd.upd np3).mono (by omega), kpd.upd_new (kpd.free nP3 np3), by decide⟩ (fun i H4 _ ⟨_, _, _, _, q, _⟩ => SqL.of q) ?_ ?_
      · rintro i x H4 hx ⟨bs, lb, hp3, hp2', hp1', hpd, hj4, kp4, i4'⟩
        have ilt : i < ws.length := by
          have := (List.getElem?_eq_some_iff.mp hx).1
          rwa [List.length_map] at this
        refine ⟨rfl, .ref j, rfl, j, 3, n + 15 + i, rfl, hj4, by omega, by decide, by decide, fun d H5 d0 d1 hj5 kp5 => ?_⟩
        refine ⟨rfl, _, kp5 _ _ np3 hp3, by rw [List.length_map]; exact small1000 (by omega), bs ++ [decide (V.int d = V.int 0)], by rw [List.length_append, lb]; rfl, ?_, ?_, ?_, ?_, ?_, ?_, by omega⟩
        · rw [upd_same, List.map_append]
          rfl
        · rw [upd_ne np32.symm]
          exact kp5 _ _ np2 hp2'
        · rw [upd_ne np31.symm]
          exact kp5 _ _ np1 hp1'
        · rw [upd_ne np3d.symm]
          exact kp5 _ _ ndj hpd
        · exact (hj5.upd np3).mono (by omega)
        · exact (kp4.trans kp5).upd_new (kpd.free nP3 np3)
      · rintro H4 ⟨bs, lb, hp3, hp2', hp1', hpd, hj4, kp4, i4'⟩
        rw [List.length_map] at lb hj4 i4'
        refine ⟨hpd, [(.inr "names", .ref p1), (.inr "ways", .ref p2), (.inr "takes", .ref p3)], rfl, (by show 3 ≤ 15; decide), ?_⟩
        rw [merge3]
        have ddn := kp3.free nd ndj
        refine k dd _ ws ys bs ⟨by omega, by omega, ly, lb, nd_, nm, wy⟩ ((hj4.upd ndj).mono (by omega)) (kp4.upd_new ddn) ⟨p1, p2, p3, ndj, np1, np2, np3, upd_same, ?_, ?_, ?_⟩
        · rw [upd_ne nd1.symm]
          exact hp1'
        · rw [upd_ne nd2.symm]
          exact hp2'
        · rw [upd_ne np3d]
          exact hp3
end
end K08

set_option Elab.async false
set_option linter.all false
namespace K08
open PySem L2
abbrev sPLines : Stmt := top 21
/-! ### the lines of a drawn plan -/
def lineOf (w y : Str) (b : Bool) : Str := ((((("part " : Str) ++ w) ++ (" " : Str)) ++ y) ++ (if b = true then (" takes" : Str) else ⟨#[]⟩))
def drawn : List Str → List Str → List Bool → List Str
  | w :: ws, y :: ys, b :: bs => lineOf w y b :: drawn ws ys bs
  | _, _, _ => []
theorem drawn_at : ∀ {ws ys : List Str} {bs : List Bool} {j : Nat} {w y : Str} {b : Bool}, ws[j]? = some w → ys[j]? = some y → bs[j]? = some b → (drawn ws ys bs)[j]? = some (lineOf w y b)
  | w :: ws, y :: ys, b :: bs, 0, _, _, _, h1, h2, h3 => by
    cases h1
    cases h2
    cases h3
    rfl
  | w :: ws, y :: ys, b :: bs, j + 1, _, _, _, h1, h2, h3 => drawn_at (j := j) (ws := ws) (ys := ys) (bs := bs) h1 h2 h3
  | [], _, _, _, _, _, _, h, _, _ => nomatch h
  | _ :: _, [], _, _, _, _, _, _, h, _ => nomatch h
  | _ :: _, _ :: _, [], _, _, _, _, _, _, h => nomatch h
theorem drawn_len : ∀ {ws ys : List Str} {bs : List Bool}, ys.length = ws.length → bs.length = ws.length → (drawn ws ys bs).length = ws.length
  | [], _, _, _, _ => rfl
  | w :: ws, y :: ys, b :: bs, h1, h2 => congrArg (· + 1) (drawn_len (ws := ws) (ys := ys) (bs := bs) (Nat.succ.inj h1) (Nat.succ.inj h2))
  | _ :: _, [], _, h, _ => nomatch h
  | _ :: _, _ :: _, [], _, h => nomatch h
/-- a text as often as a bit tells -/
def rSB : R2 := fun x y H Q => ∃ (z : Str) (k : Bool), x = .str z ∧ y = .int (if k = true then 1 else 0) ∧ z.length ≤ 1000 ∧ Q (.str (if k = true then z else ⟨#[]⟩)) H
theorem op_strBit {X : Cx} : OpR X (binaryOp .Mult) rSB := by
  (intro pins s σ H x y v u Q I rx ry h)
  obtain ⟨z, k, rfl, rfl, hz, q⟩ := h
  obtain ⟨t, rfl⟩ := rx
  obtain ⟨t', rfl⟩ := ry
  cases k with
  | true =>
    refine PySem.P.mul_str (by decide) (fun _ c => by simp at c) (fun _ _ => ?_) ?_
    · have e : (sizeLine : Nat) = 16777216 := by decide
      exact decide_eq_false (show ¬ (z.length * 1 > sizeLine) by omega)
    · exact ⟨.str z, H, I, ⟨t, rfl⟩, q⟩
  | false =>
    exact PySem.P.mul_str_none (by decide) (by decide) ⟨.str ⟨#[]⟩, H, I.tok _, ⟨_, rfl⟩, q⟩
structure Txt5 (K : PySem.W.Frag) (mg : Str → Option Value) : Prop extends Txt4 K mg where
  list : mg "list" = none
  zip : mg "zip" = none
section
variable {base : Heap} {P : Program} {w : World} {K : PySem.W.Frag} {mg : Str → Option Value}
def spPLines : Sp := fun vs H Q _ => ∃ (j d : Addr) (ws ys : List Str) (bs : List Bool), vs = [.ref d] ∧ PlanAt H j d ws ys bs ∧ Three ws ys bs ∧
  ∀ H' p, Same H H' → H p = none → H' p = some (.lst ((drawn ws ys bs).map V.str)) → Q (.ref p) H'
abbrev nPLines : List Str := ["_law_plan_here", "_law_rows", "_law_name", "_law_way", "_law_takes"]
theorem scPLines : FnScope nPLines ["_law_plan_here"] (defScope sPLines) := ⟨rfl, rfl, rfl, by decide +kernel, rfl, by decide +kernel, by decide +kernel⟩
theorem units1 {k : Nat} {A : Around} (hr : Room k A) : A.units + 1 < cLine := by
  have := units65 hr
  omega
theorem ok_plines {f : Addr} {fd : FuncData} (F : Fun K "_law_plan_lines" "_law_plan_lines" sPLines f fd) (T : Txt5 K mg) : FnOk P w K mg base CX0 1 f fd ["_law_plan_here"] spPLines := by
  refine F.ok scPLines (fun vs H Q E h => ?_) (fun cdv A outer s H vs Q E hr h => ?_)
  · obtain ⟨j, d, ws, ys, bs, rfl, _⟩ := h
    rfl
  · obtain ⟨j, d, ws, ys, bs, rfl, pa, th, k⟩ := h
    refine ⟨_, pss_cons (ps_set (i := 1) scPLines.nd rfl (.inl rfl) (pe_listZip3 rfl (pa_cons (pe_dget (units1 hr) (pv 0) pe_str (fun _ _ => rfl)) (pa_cons (pe_dget (units1 hr) (pv 0) pe_str (fun _ _ => rfl)) (pa_cons (pe_dget (units1 hr) (pv 0) pe_str (fun _ _ => rfl)) pa_nil)))
        (by rfl) T.list (by rfl) T.zip (by decide +kernel)))
      (pss_one (ps_ret (pe_lc (own := [("_law_name", 2), ("_law_way", 3), ("_law_takes", 4)]) (g := gTup K 3 (gCons (gName 2) (gCons (gName 3) (gCons (gName 4) gNil)))) (tt := tYes) rfl scPLines.nd (pi_list (pv 1))
          (blkOk_by (N := nPLines) (sc := defScope sPLines) (by decide +kernel)) (fun _ _ _ _ _ => pg_tup rfl (pgs_cons (pg_name (i := 2) scPLines.nd rfl (Or.inl rfl)) (pgs_cons (pg_name (i := 3) scPLines.nd rfl (Or.inl rfl)) (pgs_cons (pg_name (i := 4) scPLines.nd rfl (Or.inl rfl)) pgs_nil)))) (fun _ _ _ _ _ => pts_nil)
          (fun _ _ _ _ _ => pe_op op_add_str (pe_op op_add_str (pe_op op_add_str (pe_op op_add_str pe_str (pv 2)) pe_str) (pv 3)) (pe_op op_strBit pe_str (pe_callTy call_int1 (by rfl) T.int (by decide +kernel) (pa_cons (pv 4) pa_nil))))))), ?_⟩
    obtain ⟨p1, p2, p3, n0, n1, n2, n3, e0, e1, e2, e3⟩ := pa.ex
    refine ⟨V.ref d, rfl, d, _, rfl, .inl ⟨_, .inr "names", .inl e0, rfl, rfl⟩, V.ref d, rfl, d, _, rfl, .inl ⟨_, .inr "ways", .inl e0, rfl, rfl⟩, V.ref d, rfl, d, _, rfl, .inl ⟨_, .inr "takes", .inl e0, rfl, rfl⟩, ?_⟩
    refine ⟨p1, p2, p3, _, _, _, rfl, e1, e2, e3, by rw [List.length_map, List.length_map, th.ly], by rw [List.length_map, List.length_map, th.lb], fun H1 p ts s1 np nts pts hp tri => ?_⟩
    have four := th.four
    dsimp only [tCons, List.map]
    refine ⟨.ref p, rfl, p, rfl, ⟨_, SqL.of hp⟩, fun D nD => ?_⟩
    have nDp : D ≠ p := fun e => by
      rw [e, hp] at nD
      cases nD
    have ld := drawn_len th.ly th.lb
    refine lc_list (xs := ts.map V.ref) (fun i H2 => Same H1 H2 ∧ i ≤ 4 ∧ H2 D = some (.lst (((drawn ws ys bs).take i).map V.str))) ⟨same_upd nD, by decide, upd_same⟩ (fun i H2 _ ⟨q, _⟩ => SqL.of (q _ _ hp)) ?_ ?_
    · rintro i x H2 hx ⟨s2, i4, hD⟩
      rw [List.getElem?_map] at hx
      obtain ⟨t, ht, rfl⟩ := Option.map_eq_some_iff.mp hx
      obtain ⟨x1, x2, x3, q1, q2, q3, q4⟩ := tri.2 i t ht
      rw [List.getElem?_map] at q1 q2 q3
      obtain ⟨w1, r1, rfl⟩ := Option.map_eq_some_iff.mp q1
      obtain ⟨y1, r2, rfl⟩ := Option.map_eq_some_iff.mp q2
      obtain ⟨b1, r3, rfl⟩ := Option.map_eq_some_iff.mp q3
      have da := drawn_at r1 r2 r3
      have ilt : i < ws.length := (List.getElem?_eq_some_iff.mp r1).1
      have nw := th.nm _ (List.mem_of_getElem? r1)
      have ly4 : y1.length ≤ 6 := by
        have hy := th.wy _ (List.mem_of_getElem? r2)
        have all : ∀ z ∈ ways4, z.length ≤ 6 := by decide +kernel
        exact all _ hy
      have lw8 := nw.len
      have l5 : ("part " : Str).length = 5 := by decide +kernel
      have l1 : (" " : Str).length = 1 := by decide +kernel
      have l6 : (" takes" : Str).length = 6 := by decide +kernel
      have sl : (sizeLine : Nat) = 16777216 := by decide
      refine ⟨t, _, rfl, SqT.of (s2 _ _ q4), rfl, .str w1, _, rfl, .str y1, _, rfl, .bl b1, _, rfl, rfl, ?_⟩
      refine ⟨rfl, _, rfl, _, _, rfl, rfl, by omega, _, _, rfl, rfl, by rw [Str.length_append]; omega, .str y1, rfl, _, _, rfl, rfl, by rw [Str.length_append, Str.length_append]; omega, .bl b1, rfl, .inr ⟨b1, rfl, _, b1, rfl, rfl, by omega, ?_⟩⟩
      have lb6 : (if b1 = true then (" takes" : Str) else ⟨#[]⟩).length ≤ 6 := by
        cases b1
        · exact Nat.zero_le _
        · exact Nat.le_of_eq l6
      refine ⟨_, _, rfl, rfl, by rw [Str.length_append, Str.length_append, Str.length_append]; omega, _, hD, by rw [List.length_map, List.length_take]; omega, same_new s2 nD, by omega, ?_⟩
      rw [upd_same, List.take_succ, da]
      show some (HO.lst (List.map V.str (List.take i (drawn ws ys bs)) ++ [V.str (lineOf w1 y1 b1)])) = _
      rw [List.map_append]
      rfl
    · rintro H2 ⟨s2, i4, hD⟩
      refine k H2 D (s1.trans s2) (s1.free nD) ?_
      rw [hD, List.take_of_length_le (by rw [List.length_map, tri.1, List.length_map, ld]; exact Nat.le_refl _)]
end
end K08

set_option Elab.async false
set_option linter.all false
namespace K08
open PySem PySem.Spec PyProof.Rows L2 CwR
open Builtin.Str in
/-- x with the first y as z -/
def repl1 (x y z : Str) : Str := if ((occurrences x y 0 x.length 1).isEmpty || (y.length == 0 && z.length == 0)) = true then x else glued z (partsBetween x (occurrences x y 0 x.length 1) y.length)
open Builtin.Str in
theorem gl_len (x y z : Str) (lim : Nat) : (glued z (partsBetween x (occurrences x y 0 x.length lim) y.length)).length ≤ x.length + lim * z.length := by
  have h1 := StrLaws.occ_length_le x y 0 x.length lim
  have hy : (glued y (partsBetween x (occurrences x y 0 x.length lim) y.length)).length = x.length := by rw [StrLaws.glued_between_self]
  (rw [size_glued, length_partsBetween, Nat.add_sub_cancel] at hy)
  (rw [size_glued, length_partsBetween, Nat.add_sub_cancel])
  have h2 : (occurrences x y 0 x.length lim).length * z.length ≤ lim * z.length := Nat.mul_le_mul_right _ h1
  omega
theorem repl1_len (x y z : Str) : (repl1 x y z).length ≤ x.length + z.length := by
  unfold repl1
  split
  · exact Nat.le_add_right _ _
  · have := gl_len x y z 1
    omega
open Builtin.Str in
theorem gl_asc {x z : Str} (hx : Asc x) (hz : Asc z) (cuts : List Nat) (n : Nat) : Asc (glued z (partsBetween x cuts n)) := by
  have hp : ∀ p ∈ partsBetween x cuts n, ∀ c ∈ p.cps.toList, c < 128 := fun p hp c hc => by
    obtain ⟨q, _, rfl⟩ := List.mem_map.mp hp
    have e : c ∈ (x.cps.extract q.1 q.2).toList := hc
    rw [Array.toList_extract] at e
    exact hx c (List.mem_of_mem_drop (List.mem_of_mem_take (by simpa [List.extract] using e)))
  have fold : ∀ (ps : List Str) (acc : Array Nat), (∀ c ∈ acc.toList, c < 128) → (∀ p ∈ ps, ∀ c ∈ p.cps.toList, c < 128) → ∀ c ∈ (ps.foldl (fun acc p => acc ++ z.cps ++ p.cps) acc).toList, c < 128 := by
    intro ps
    induction ps with
    | nil => exact fun acc h _ c hc => h c hc
    | cons p r ih =>
      intro acc h h2 c hc
      refine ih (acc ++ z.cps ++ p.cps) (fun c hc => ?_) (fun q hq => h2 q (List.mem_cons_of_mem _ hq)) c hc
      simp only [Array.toList_append, List.mem_append] at hc
      rcases hc with (hc | hc) | hc
      · exact h c hc
      · exact hz c hc
      · exact h2 p List.mem_cons_self c hc
  intro c hc
  refine fold ((partsBetween x cuts n).drop 1) ((partsBetween x cuts n).headD Str.empty).cps (fun c hc => ?_) (fun p h => hp p (List.mem_of_mem_drop h)) c hc
  cases e : partsBetween x cuts n with
  | nil =>
    rw [e] at hc
    cases hc
  | cons p r =>
    rw [e] at hc
    exact hp p (by rw [e]; exact List.mem_cons_self) c hc
theorem repl1_asc {x y z : Str} (hx : Asc x) (hz : Asc z) : Asc (repl1 x y z) := by
  unfold repl1
  split
  · exact hx
  · exact gl_asc hx hz _ _
theorem repl_asc {x y z : Str} (hx : Asc x) (hz : Asc z) : Asc (Txt.replace x y z) := by
  unfold Txt.replace
  split
  · exact hx
  · exact gl_asc hx hz _ _
open Builtin Builtin.Str in
theorem gives_repl1 (x y z : Str) (t u v m : Tok) (h0 : (u == 0 || v == 0) = false) (huv : (u == v) = false) (hyz : (y == z) = false) (hl : x.length + z.length ≤ 16777216) :
    Gives («str.replace» ⟨[.str x t, .str y u, .str z v, .int 1 m], []⟩) (if ((occurrences x y 0 x.length 1).isEmpty || (y.length == 0 && z.length == 0)) = true then .val (.str x t) else .str (glued z (partsBetween x (occurrences x y 0 x.length 1) y.length))) := by
  have e : («str.replace» ⟨[.str x t, .str y u, .str z v, .int 1 m], []⟩ : Sem Fin) = (if ((occurrences x y 0 x.length 1).isEmpty || (y.length == 0 && z.length == 0)) = true then (do rule "str.replace.nothing"; ret (.str x t)) else
          (do let eqs ← isSame (.str y u) (.str z v)
              if eqs = true then (do rule "str.replace.old-is-new"; ret (.str x t)) else
              if tooLong (x.length + (occurrences x y 0 x.length 1).length * z.length) = true then unsupported "str.replace:memory" else
              retStr (glued z (partsBetween x (occurrences x y 0 x.length 1) y.length)))) := by
    show (do let limit ← countLimit "str.replace" (some (.int 1 m)) (x.length + 1); _) = _
    rw [countLimit_int "str.replace" 1 m (x.length + 1) (by decide)]
    rfl
  rw [e]
  cases hc : ((occurrences x y 0 x.length 1).isEmpty || (y.length == 0 && z.length == 0))
  · have tl : tooLong (x.length + (occurrences x y 0 x.length 1).length * z.length) = false := by
      have h1 := StrLaws.occ_length_le x y 0 x.length 1
      have h2 : (occurrences x y 0 x.length 1).length * z.length ≤ 1 * z.length := Nat.mul_le_mul_right _ h1
      exact decide_eq_false (by rw [sizeLine_eq]; omega)
    rw [isSame_str_other y z u v h0 huv hyz, tl]
    exact .of_eq rfl
  · exact .rule (.of_eq rfl)
end K08

set_option Elab.async false
set_option linter.all false
namespace K08
open PySem PySem.Spec PyProof.Rows L2 CwR
/-! ### rules behind which a token is out -/
def tRepl1 (to : TE) (y z : Str) : TE := fun σ H Q => to σ H fun v H1 => ∃ x, v = .str x ∧ x.length + z.length ≤ 16777216 ∧ Q (.str (repl1 x y z)) H1
section
variable {X : Cx} {o e f : Expr} {te tf : TE} {to : TE} {y z x : Str} {i j k l : Nat} {c0 c1 c2 apos pos p p' : Pos}
theorem call3 {prog : Program} {w : World} {A : Around} {E : Value → Shared → Prop} {s : Shared} {env : Env} {o a b d : Expr} {name : Str} {apos pos : Pos} {Q : Value → Shared → Prop} (hbase : attributeBase o name env (eval o env) = eval o env)
    (hs : starEach [a, b, d] env = [(false, eval a env), (false, eval b env), (false, eval d env)]) (hline : (apos.endLine == pos.line) = true)
    (h : wpAny (model prog w) A (eval o env) (fun ov s1 => MethodOnS prog w A E name ov pos [(false, eval a env), (false, eval b env), (false, eval d env)] Q s1) E s) :
    wpAny (model prog w) A (eval (.Call (.Attribute o name apos) [a, b, d] [] pos) env) Q E s := by
  (refine wpAny_Call_method_lateS hbase (by rw [hs]; rfl) hline ?_)
  rw [hs]
  exact h
theorem pet_repl1 (ho : PET X o to) (hyz : (y == z) = false := by decide)
    (hst : starEach [.Constant (.str y) j c0, .Constant (.str z) k c1, .Constant (.int 1) l c2] X.env = [(false, eval (.Constant (.str y) j c0) X.env), (false, eval (.Constant (.str z) k c1) X.env), (false, eval (.Constant (.int 1) l c2) X.env)] := by rfl)
    (hbase : attributeBase o "replace" X.env (eval o X.env) = eval o X.env := by rfl) (hline : (apos.endLine == pos.line) = true := by (rfl)) :
    PET X (.Call (.Attribute o "replace" apos) [.Constant (.str y) j c0, .Constant (.str z) k c1, .Constant (.int 1) l c2] [] pos) (tRepl1 to y z) := by
  intro pins s σ H Q h0 I h
  refine call3 hbase hst hline ?_
  refine wpAny_mono (PySem.wpAny_toks (ho pins s σ H _ h0 I h)) (fun v s1 q => ?_) fun _ _ z => z.2
  obtain ⟨hk, v', H1, I1, r1, xx, e1, hb, q⟩ := q
  subst e1
  obtain ⟨tx, e2⟩ := r1
  subst e2
  (refine ⟨"str", _, PySem.F.plainAttrs_str, PySem.F.slot_str_replace, PySem.F.type_str_replace, typeIs_str _ _ _, (fun _ e => nomatch e), Calls.callWith_builtin rfl (Calls.evalArgs_plain (Calls.spliced_cons ?_))⟩)
  refine Calls.Constant_str (Calls.spliced_cons ?_)
  refine Calls.Constant_str (Calls.spliced_cons ?_)
  refine wpAny_Constant_int (Calls.spliced_nil ?_)
  have n0 : (s1.toks == 0 || s1.toks + 1 == 0) = false := by
    have a : (s1.toks == 0) = false := beq_eq_false_iff_ne.mpr (by omega)
    have b : (s1.toks + 1 == 0) = false := beq_eq_false_iff_ne.mpr (by omega)
    rw [a, b]
    rfl
  have n1 : (s1.toks == s1.toks + 1) = false := beq_eq_false_iff_ne.mpr (by omega)
  refine call_gives PySem.F.slot_str_replace (typeIs_str _ _ _) PySem.F.entry_str_replace (PySem.F.args_str_replace_4 _ _ _ _) (gives_repl1 xx y z tx _ _ _ n0 n1 hyz hb) ?_
  have ln := repl1_len xx y z
  unfold repl1 at q ln
  split
  · rename_i c
    rw [if_pos c] at q
    exact ⟨V.str xx, H1, I1.tok _, ⟨tx, rfl⟩, q⟩
  · rename_i c
    rw [if_neg c] at q ln
    exact ⟨by show _ ≤ sizeLine; rw [sizeLine_eq]; omega, V.str _, H1, I1.tok _, ⟨_, rfl⟩, q⟩
/-- a name set to a list that begins with a written text -/
theorem pss_lits {rest : List Stmt} {u : TS} {c : Str} {es : List Expr} {ta : TA} {cp lp pos' : Pos} (hN : X.N.Nodup) (hi : X.N[i]? = some x) (hx : Loc X.env.scope x) (ha : PA X es ta) (h2 : PSsT X rest u)
    (hst : starEach (.Constant (.str c) j cp :: es) X.env = (false, eval (.Constant (.str c) j cp) X.env) :: starEach es X.env := by rfl)
    (hs : swapsWith (.List (.Constant (.str c) j cp :: es) lp) (some (.Name x pos')) pos.line X.env = pure false := by rfl) (hf : X.fn x = true ∨ X.env.scope.names.lookup x = some .local := by first | exact .inl rfl | exact .inr rfl | assumption) :
    PSs X (.Assign [.Name x pos'] (.List (.Constant (.str c) j cp :: es) lp) pos :: rest) (tSeq (tAsg (tLst (tCons (tC (.str c)) ta)) (gName i)) u) := by
  (refine ⟨fun pins s σ H D I h => ?_⟩)
  refine wpAny_execs_cons (wpAny_Assign_Name (wpAny_List_spliced ?_) hs)
  rw [hst]
  show wpAny _ _ (spliced ((false, eval (.Constant (.str c) j cp) X.env) :: backTo lp (starEach es X.env))) _ _ s
  (refine Calls.spliced_cons (Calls.Constant_str ?_))
  refine wpAny_mono (PySem.wpAny_toks (ha.run lp pins { s with toks := s.toks + 1 } σ H _ (I.tok _) h)) (fun us s1 q => ?_) fun _ _ z => z.2
  obtain ⟨hk, xs, H1, I1, r, zz, q⟩ := q
  have hk' : s.toks + 1 ≤ s1.toks := hk
  have rr : Vals (V.str c :: xs) (Value.str c s.toks :: us) := .cons ⟨s.toks, rfl⟩ r
  refine ⟨by rw [← rr.length]; exact zz, ?_⟩
  have I2 : Inv X pins σ (upd H1 s1.heap.objs.size (.lst (V.str c :: xs))) { s1 with heap := s1.heap.push { cls := .type "list", data := .seq (Value.str c s.toks :: us).toArray } } :=
    I1.laid (t' := s1.toks) (fun b u e => Heap.get?_push_of_some _ e) (Nat.le_refl _) ⟨zz, _, 0, rr, Heap.get?_push_size _ rfl⟩
  refine wpAny_mono (PySem.wpAny_toks (store_ok (v := V.ref s1.heap.objs.size) (u := Value.ref s1.heap.objs.size) (Q := fun _ s2 => Inv X pins (σ.set i (some (V.ref s1.heap.objs.size))) (upd H1 s1.heap.objs.size (.lst (V.str c :: xs))) s2) I2 hN hi hx rfl (fun _ I3 => I3) hf)) (fun _ s2 q2 => ?_) fun _ _ z => z.2
  have hk2 : s1.toks ≤ s2.toks := q2.1
  exact h2 pins s2 _ _ D (by omega) q2.2 (q _ (I1.hok.fresh (Nat.le_refl _)))
theorem pst_set {pos' : Pos} (hN : X.N.Nodup) (hi : X.N[i]? = some x) (hx : Loc X.env.scope x) (he : PET X e te) (hs : swapsWith e (some (.Name x pos')) pos.line X.env = pure false := by rfl) (hf : X.fn x = true ∨ X.env.scope.names.lookup x = some .local := by first | exact .inl rfl | exact .inr rfl | assumption) :
    PST X (.Assign [.Name x pos'] e pos) (tAsg te (gName i)) := by
  intro pins s σ H D h0 I h
  exact wpAny_Assign_Name (thn (he pins s σ H _ h0 I h) fun v s1 ⟨y, H1, I1, r1, q1⟩ => store_ok I1 hN hi hx r1 (fun s2 I2 => ⟨_, H1, I2, q1⟩) hf) hs
theorem pet_has {nm : Str} {k : Nat} {ps : List Str} {sp : Sp} {e : Expr} {es : List Expr} {t : TA} {p pos : Pos} (h : Has X.prog X.w X.K X.mg X.base nm k ps sp) (hr : Room k X.A) (ha : PAT X (e :: es) t) (hg : Gl X nm := by rfl)
    (hdb : (nm == ("__debug__" : Str)) = false := by decide) (he : starEach (e :: es) X.env = (false, eval e X.env) :: starEach es X.env := by rfl) (hpl : (backTo pos (starEach es X.env)).any (·.1) = false := by rfl) :
    PET X (.Call (.Name nm p) (e :: es) [] pos) (tCall sp [] E0 t) := by
  obtain ⟨f, fd, F, hm, hk, hb⟩ := h
  intro pins s σ H Q h0 I h
  (refine wpAny_Call_Name_kw (ld_glob I hg hm ?_ hdb))
  refine PySem.W.callWith_K (h₀ := X.base) I.ok.mod.kin hk (thn (ha pos pins s σ H _ h0 I h) fun us s1 ⟨vs, H1, I1, r, q⟩ => ⟨I1.kIn, ?_⟩) he hpl
  exact run_fn F hr hb .nil pass0 I1 r q
end
end K08

set_option Elab.async false
set_option linter.all false
namespace K08
open PySem PySem.Spec PyProof.Rows L2 CwR
abbrev sLine : Stmt := top 24
/-! ### a line otherwise -/
def Good (z : Str) : Prop := z.length ≤ 400 ∧ Asc z
def goodB (z : Str) : Bool := decide (z.length ≤ 30) && z.cps.toList.all fun c => decide (c < 128)
theorem good_of {z : Str} (h : goodB z = true) : z.length ≤ 30 ∧ Asc z := by
  unfold goodB at h
  rw [Bool.and_eq_true] at h
  exact ⟨of_decide_eq_true h.1, fun c hc => of_decide_eq_true (List.all_eq_true.mp h.2 c hc)⟩
theorem asc_cat {a b : Str} (ha : Asc a) (hb : Asc b) : Asc (a ++ b) := fun c hc => by
  have e : c ∈ TL.tl (a ++ b) := hc
  rw [TL.tl_append, List.mem_append] at e
  rcases e with e | e
  · exact ha c e
  · exact hb c e
theorem asc_cut {a : Str} (ha : Asc a) (lo hi : Option Int) : Asc (cutS a lo hi) := fun c hc => by
  have e : c ∈ TL.tl (cutS a lo hi) := hc
  unfold cutS at e
  rw [TL.tl_mk] at e
  exact ha c (List.mem_of_mem_drop (List.mem_of_mem_take e))
theorem asc_up {a : Str} (ha : Asc a) : Asc (Txt.upper a) ∧ (Txt.upper a).length = a.length := by
  rw [upper_ascii ha]
  refine ⟨fun c hc => ?_, ?_⟩
  · have e : c ∈ (a.cps.map up1).toList := hc
    rw [Array.toList_map] at e
    obtain ⟨d, hd, rfl⟩ := List.mem_map.mp e
    have := ha d hd
    unfold up1
    split <;> omega
  · show (a.cps.map up1).size = a.cps.size
    simp
def AllGood (xs : List V) : Prop := ∀ v ∈ xs, ∃ z : Str, v = .str z ∧ Good z
theorem allgood_cat {xs ys : List V} (h : AllGood xs) (k : AllGood ys) : AllGood (xs ++ ys) := fun v hv => by
  rcases List.mem_append.mp hv with hv | hv
  · exact h v hv
  · exact k v hv
theorem allgood_cons {z : Str} {xs : List V} (h : Good z) (k : AllGood xs) : AllGood (.str z :: xs) := fun v hv => by
  (rcases List.mem_cons.mp hv with rfl | hv)
  · exact ⟨z, rfl, h⟩
  · exact k v hv
theorem allgood_nil : AllGood [] := fun v hv => nomatch hv
theorem allgood_lit {l : List Str} (h : l.all goodB = true) : AllGood (l.map V.str) := fun v hv => by
  obtain ⟨z, hz, rfl⟩ := List.mem_map.mp hv
  have g := good_of (List.all_eq_true.mp h z hz)
  exact ⟨z, rfl, Nat.le_trans g.1 (by decide), g.2⟩
/-- the jar at j, and all else as in H0 -/
def JK (H0 H : Hp) (j : Addr) (n : Nat) : Prop := Jar H j n ∧ Keep j H0 H
theorem JK.new {H0 H : Hp} {j p : Addr} {n : Nat} {o : HO} (h : JK H0 H j n) (hn : H p = none) : JK H0 (upd H p o) j n := ⟨h.1.upd (h.1.ne hn), h.2.upd_new (h.2.free hn (h.1.ne hn))⟩
theorem get_new {H : Hp} {p q : Addr} {o u : HO} (h : H q = some u) (hn : H p = none) : upd H p o q = some u := by
  rw [upd_ne (ne_of_none h hn)]
  exact h
section
variable {base : Heap} {P : Program} {w : World} {K : PySem.W.Frag} {mg : Str → Option Value}
def spLine : Sp := fun vs H Q _ => ∃ (j p : Addr) (n : Nat) (ls : List Str), vs = [.ref j, .ref p] ∧ Jar H j n ∧ n ≤ 8000 ∧ p ≠ j ∧ H p = some (.lst (ls.map V.str)) ∧ 1 ≤ ls.length ∧ ls.length ≤ 100 ∧ (∀ l ∈ ls, l.length ≤ 50 ∧ Asc l) ∧
  ∀ (z : Str) (H' : Hp), Good z → Jar H' j (n + 2) → Keep j H H' → Q (.str z) H'
abbrev nLine : List Str := ["_law_jar_here", "_law_lines", "_law_line_here", "_law_some", "_law_near"]
theorem scLine : FnScope nLine ["_law_jar_here", "_law_lines"] (defScope sLine) := ⟨rfl, rfl, rfl, by decide +kernel, rfl, by decide +kernel, by decide +kernel⟩
theorem ok_line {f : Addr} {fd : FuncData} (F : Fun K "_law_line" "_law_line" sLine f fd) (GO : jarOf P w K mg base) : FnOk P w K mg base CX0 3 f fd ["_law_jar_here", "_law_lines"] spLine := by
  refine F.ok scLine (fun vs H Q E h => ?_) (fun cdv A outer s H vs Q E hr h => ?_)
  · obtain ⟨j, p, n, ls, rfl, _⟩ := h
    rfl
  · obtain ⟨j, p, n, ls, rfl, hj, hn, npj, hp, l1, l2, hok, k⟩ := h
    refine ⟨_, pss_cons (ps_set (i := 2) scLine.nd rfl (.inl rfl) (pe_has GO hr (pa_cons (pv 0) (pa_cons (pv 1) pa_nil))))
      (pss_lits (i := 3) scLine.nd rfl (.inl rfl) (pa_cons pe_str (pa_cons pe_str (pa_cons pe_str (pa_cons pe_str (pa_cons pe_str (pa_cons pe_str (pa_cons pe_str (pa_cons pe_str pa_nil))))))))
      (psst_cons (PST.of (ps_set (i := 3) scLine.nd rfl (.inl rfl) (pe_op op_cat (pv 3) (pe_lst (pa_cons pe_str (pa_cons pe_str (pa_cons pe_str (pa_cons pe_str pa_nil))))))))
      (psst_cons (pst_set (i := 4) scLine.nd rfl (.inl rfl) (pet_lst (pat_cons (PET.of (pe_op op_add_str (pv 2) pe_str)) (pat_cons (PET.of (pe_op op_add_str pe_str (pv 2))) (pat_cons (pet_repl1 (PET.of (pv 2)))
          (pat_cons (PET.of (pe_upper (pv 2))) (pat_cons (PET.of (pe_op op_add_str (pv 2) pe_str)) (pat_cons (PET.of (pe_slice sl_str (pv 2) po_none (po_some (pe_un un_neg pe_int)))) (pat_cons (PET.of (pe_op op_add_str (pv 2) pe_str)) pat_nil)))))))))
      (psst_cons (pst_set (i := 4) scLine.nd rfl (.inl rfl) (pet_op op_cat (PET.of (pv 4)) (pet_lst (pat_cons (pet_replC (pv 2)) (pat_cons (PET.of (pe_op op_add_str (pv 2) pe_str)) (pat_cons (pet_replC (pv 2)) pat_nil))))))
      (psst_one (pst_ret (pet_has GO hr (pat_cons (PET.of (pv 0)) (pat_cons (pet_op op_cat (PET.of (pe_op op_cat (pv 3) (pv 4))) (pet_lst (pat_cons (pet_replC (pv 2)) pat_nil))) pat_nil))))))))), ?_⟩
    refine ⟨.ref j, rfl, .ref p, rfl, j, n, .ref p, rfl, hj, by omega, .inl ⟨p, _, rfl, npj, SqL.of hp, by rw [List.length_map]; exact l1, by rw [List.length_map]; omega, fun y H1 hy hj1 kp1 => ?_⟩⟩
    obtain ⟨z, hz, rfl⟩ := List.mem_map.mp hy
    obtain ⟨zl, za⟩ := hok z hz
    have sl : (sizeLine : Nat) = 16777216 := sizeLine_eq
    have c1 : (" " : Str).length = 1 := by decide +kernel
    have c2 : (" takes" : Str).length = 6 := by decide +kernel
    have c3 : ("s" : Str).length = 1 := by decide +kernel
    have c4 : (" take" : Str).length = 5 := by decide +kernel
    have c5 : ("  " : Str).length = 2 := by decide +kernel
    have c6 : ("" : Str).length = 0 := by decide +kernel
    have c7 : ("key" : Str).length = 3 := by decide +kernel
    have c8 : ("handed" : Str).length = 6 := by decide +kernel
    refine ⟨(by show 9 ≤ sizeLine; decide), fun q1 n1 => ?_⟩
    have k0 : JK H H1 j (n + 1) := ⟨hj1, kp1⟩
    refine ⟨.ref q1, rfl, (by show 4 ≤ sizeLine; decide), fun q2 n2 => ⟨q1, q2, _, _, rfl, rfl, get_new upd_same n2, upd_same, (by show 9 + 4 ≤ sizeLine; decide), fun q3 n3 => ?_⟩⟩
    have a3 : AllGood (([.str "", .str " ", .str "part", .str "part a", .str "part once", .str "part a once", .str "part zz fresh takes", .str "part a soon", .str "Part a once"] : List V) ++ ([.str "part A once", .str "part abcdefghi once", .str "part abcdefgh once", .str "part takes kept takes"] : List V)) :=
      allgood_lit (l := ["", " ", "part", "part a", "part once", "part a once", "part zz fresh takes", "part a soon", "Part a once", "part A once", "part abcdefghi once", "part abcdefgh once", "part takes kept takes"]) (by decide +kernel)
    have r1 := repl1_len z " " "  "
    have u1 := asc_up za
    have w1 := cutS_length z none (some (-1))
    have rt := TK.replace_len z " takes" ""
    have rp := TK.replace_len z "part" "key"
    have ro := TK.replace_len z "once" "handed"
    rw [c6, Nat.mul_zero] at rt
    rw [c7] at rp
    rw [c8] at ro
    rw [c5] at r1
    refine ⟨.str z, rfl, _, _, rfl, rfl, by omega, .str z, rfl, _, _, rfl, rfl, by omega, .str z, rfl, z, rfl, by rw [c5]; omega, .str z, rfl, ⟨z, rfl⟩, z, rfl, rfl, by omega, .str z, rfl, _, _, rfl, rfl, by omega, ?_⟩
    refine ⟨.str z, rfl, 1, rfl, -1, rfl, z, rfl, by omega, .str z, rfl, _, _, rfl, rfl, by omega, (by show 7 ≤ sizeLine; decide), fun q4 n4 => ?_⟩
    refine ⟨.ref q4, rfl, .str z, rfl, z, rfl, by rw [c6]; omega, .str z, rfl, _, _, rfl, rfl, by omega, .str z, rfl, z, rfl, by rw [c7]; omega, (by show 3 ≤ sizeLine; decide), fun q5 n5 => ⟨q4, q5, _, _, rfl, rfl, get_new upd_same n5, upd_same, (by show 7 + 3 ≤ sizeLine; decide), fun q6 n6 => ?_⟩⟩
    refine ⟨.ref j, rfl, .ref q3, rfl, .ref q6, rfl, q3, q6, _, _, rfl, rfl, get_new (get_new (get_new upd_same n4) n5) n6, upd_same, (by show 13 + 10 ≤ sizeLine; decide), fun q7 n7 => ?_⟩
    refine ⟨.str z, rfl, z, rfl, by rw [c8]; omega, (by show 1 ≤ sizeLine; decide), fun q8 n8 => ⟨q7, q8, _, _, rfl, rfl, get_new upd_same n8, upd_same, (by show 23 + 1 ≤ sizeLine; decide), fun q9 n9 => ?_⟩⟩
    refine ⟨j, n + 1, .ref q9, rfl, (JK.new (JK.new (JK.new (JK.new (JK.new (JK.new (JK.new (JK.new (JK.new k0 n1) n2) n3) n4) n5) n6) n7) n8) n9).1, by omega, .inl ⟨q9, _, rfl, ?_, SqL.of upd_same, (by show 1 ≤ 24; decide), (by show 24 ≤ 1000; decide), fun y H9 hy9 hj9 kp9 => ?_⟩⟩
    · exact (JK.new (JK.new (JK.new (JK.new (JK.new (JK.new (JK.new (JK.new k0 n1) n2) n3) n4) n5) n6) n7) n8).1.ne n9
    have kp := (JK.new (JK.new (JK.new (JK.new (JK.new (JK.new (JK.new (JK.new (JK.new k0 n1) n2) n3) n4) n5) n6) n7) n8) n9).2.trans kp9
    have gz : ∀ {u : Str}, u.length ≤ 400 → Asc u → Good u := fun a b => ⟨a, b⟩
    have ab : ∀ {u : Str}, goodB u = true → Asc u := fun h => (good_of h).2
    have all9 := allgood_cat (allgood_cat a3 (allgood_cat
      (allgood_cons (z := z ++ " ") (gz (by rw [Str.length_append]; omega) (asc_cat za (ab (by decide +kernel))))
      (allgood_cons (z := " " ++ z) (gz (by rw [Str.length_append]; omega) (asc_cat (ab (by decide +kernel)) za))
      (allgood_cons (z := repl1 z " " "  ") (gz (by omega) (repl1_asc za (ab (by decide +kernel))))
      (allgood_cons (z := Txt.upper z) (gz (by omega) u1.1)
      (allgood_cons (z := z ++ " takes") (gz (by rw [Str.length_append]; omega) (asc_cat za (ab (by decide +kernel))))
      (allgood_cons (z := cutS z none (some (-1))) (gz (by omega) (asc_cut za _ _))
      (allgood_cons (z := z ++ "s") (gz (by rw [Str.length_append]; omega) (asc_cat za (ab (by decide +kernel)))) allgood_nil)))))))
      (allgood_cons (z := Txt.replace z " takes" "") (gz (by omega) (repl_asc za (ab (by decide +kernel))))
      (allgood_cons (z := z ++ " take") (gz (by rw [Str.length_append]; omega) (asc_cat za (ab (by decide +kernel))))
      (allgood_cons (z := Txt.replace z "part" "key") (gz (by omega) (repl_asc za (ab (by decide +kernel)))) allgood_nil)))))
      (allgood_cons (z := Txt.replace z "once" "handed") (gz (by omega) (repl_asc za (ab (by decide +kernel)))) allgood_nil)
    obtain ⟨u, rfl, gu⟩ := all9 y hy9
    exact k u H9 gu hj9 kp
end
end K08

set_option Elab.async false
set_option linter.all false
namespace K08
open L2 PySem PySem.Spec PyProof.Rows
abbrev sOther : Stmt := top 25
theorem allgood_strs : ∀ {vs : List V}, AllGood vs → ∃ xs : List Str, vs = xs.map V.str ∧ ∀ x ∈ xs, Good x
  | [], _ => ⟨[], rfl, fun _ h => nomatch h⟩
  | v :: vs, h => by
    obtain ⟨z, rfl, g⟩ := h v List.mem_cons_self
    obtain ⟨xs, rfl, k⟩ := allgood_strs (vs := vs) fun u hu => h u (List.mem_cons_of_mem _ hu)
    exact ⟨z :: xs, rfl, fun x hx => by
      (rcases List.mem_cons.mp hx with rfl | hx)
      · exact g
      · exact k x hx⟩
theorem allgood_cut {xs : List V} (h : AllGood xs) (lo hi : Option Int) : AllGood (cutV xs lo hi) := fun v hv => h v (List.mem_of_mem_drop (List.mem_of_mem_take hv))
theorem cutV_len (xs : List V) (lo hi : Option Int) : (cutV xs lo hi).length ≤ xs.length := by
  unfold cutV
  simp only [List.length_take, List.length_drop]
  omega
section
variable {base : Heap} {P : Program} {w : World} {K : PySem.W.Frag} {mg : Str → Option Value}
def spOther : Sp := fun vs H Q _ => ∃ (j p : Addr) (n : Nat) (ls : List Str), vs = [.ref j, .ref p] ∧ Jar H j n ∧ n ≤ 7000 ∧ p ≠ j ∧ H p = some (.lst (ls.map V.str)) ∧ 1 ≤ ls.length ∧ ls.length ≤ 4 ∧ (∀ l ∈ ls, l.length ≤ 50 ∧ Asc l) ∧
  ∀ (q : Addr) (H' : Hp) (xs : List Str), xs.length ≤ 10 → (∀ x ∈ xs, Good x) → Jar H' j (n + 6) → Keep j H H' → H' q = some (.lst (xs.map V.str)) → Q (.ref q) H'
abbrev nOther : List Str := ["_law_jar_here", "_law_lines", "_law_at", "_law_way"]
theorem scOther : FnScope nOther ["_law_jar_here", "_law_lines"] (defScope sOther) := ⟨rfl, rfl, rfl, by decide +kernel, rfl, by decide +kernel, by decide +kernel⟩
theorem ok_other {f : Addr} {fd : FuncData} (F : Fun K "_law_otherwise" "_law_otherwise" sOther f fd) (T : Txt0 mg) (G : jarTake P w K mg base) (GL : Has P w K mg base "_law_line" 3 ["_law_jar_here", "_law_lines"] spLine) : FnOk P w K mg base CX0 4 f fd ["_law_jar_here", "_law_lines"] spOther := by
  refine F.ok scOther (fun vs H Q E h => ?_) (fun cdv A outer s H vs Q E hr h => ?_)
  · obtain ⟨j, p, n, ls, rfl, _⟩ := h
    rfl
  · obtain ⟨j, p, n, ls, rfl, hj, hn, npj, hp, l1, l2, hok, k⟩ := h
    have hr1 : Room 1 _ := (hr.mono (by decide))
    refine ⟨_, pss_cons (ps_par (i := 2) (j := 3) rfl scOther.nd rfl rfl (by decide) rfl rfl (pa_cons (pe_has G hr1 (pa_cons (pv 0) (pa_cons (pe_callB call_len_seq (by rfl) T.len PySem.boot_len (pa_cons (pv 1) pa_nil)) pa_nil))) (pa_cons (pe_has G hr1 (pa_cons (pv 0) (pa_cons pe_int pa_nil))) pa_nil)) rfl)
      (pss_cons (ps_if (pt_cmpR op_eq (pv 3) pe_int (nomark _)) (pss_one (ps_ret (pe_op op_cat (pe_slice sl_list (pv 1) po_none (po_some (pv 2))) (pe_slice sl_list (pv 1) (po_some (pe_op op_add (pv 2) pe_int)) po_none)))) pss_nil)
      (pss_cons (ps_if (pt_cmpR op_eq (pv 3) pe_int (nomark _)) (pss_one (ps_ret (pe_op op_cat (pe_op op_cat (pe_slice sl_list (pv 1) po_none (po_some (pv 2))) (pe_lst (pa_cons (pe_ix ix_list (pv 1) (pv 2) (fun _ _ => rfl)) pa_nil))) (pe_slice sl_list (pv 1) (po_some (pv 2)) po_none)))) pss_nil)
      (pss_cons (ps_if (pt_cmpR op_eq (pv 3) pe_int (nomark _)) (pss_one (ps_ret (pe_op op_cat (pe_op op_cat (pe_slice sl_list (pv 1) po_none (po_some (pv 2))) (pe_slice sl_list (pv 1) (po_some (pe_op op_add (pv 2) pe_int)) po_none)) (pe_lst (pa_cons (pe_ix ix_list (pv 1) (pv 2) (fun _ _ => rfl)) pa_nil))))) pss_nil)
      (pss_cons (ps_if (pt_cmpR op_eq (pv 3) pe_int (nomark _)) (pss_one (ps_ret (pe_op op_cat (pe_op op_cat (pe_slice sl_list (pv 1) po_none (po_some (pv 2))) (pe_lst (pa_cons (pe_has GL hr (pa_cons (pv 0) (pa_cons (pv 1) pa_nil))) pa_nil))) (pe_slice sl_list (pv 1) (po_some (pv 2)) po_none)))) pss_nil)
      (pss_one (ps_ret (pe_op op_cat (pe_op op_cat (pe_op op_cat (pe_slice sl_list (pv 1) po_none (po_some (pv 2))) (pe_lst (pa_cons (pe_has GL hr (pa_cons (pv 0) (pa_cons (pv 1) pa_nil))) pa_nil))) (pe_slice sl_list (pv 1) (po_some (pe_op op_add (pv 2) pe_int)) po_none))
        (pe_op op_rep (pe_lst (pa_cons pe_str pa_nil)) (pe_callTy call_int1 (by rfl) T.int (by decide +kernel) (pa_cons (pe_cmpR op_eq (pe_has G hr1 (pa_cons (pv 0) (pa_cons pe_int pa_nil))) pe_int (nomark _)) pa_nil)))))))))), ?_⟩
    have ag : AllGood (ls.map V.str) := fun v hv => by
      obtain ⟨z, hz, rfl⟩ := List.mem_map.mp hv
      exact ⟨z, rfl, Nat.le_trans (hok z hz).1 (by decide), (hok z hz).2⟩
    refine ⟨.ref j, rfl, .ref p, rfl, _, _, rfl, .inl (SqL.of hp), ?_⟩
    refine ⟨j, _, n, rfl, hj, by omega, by rw [List.length_map]; omega, by rw [List.length_map]; omega, fun d H1 d0 d1 hj1 kp1 => ?_⟩
    refine ⟨.ref j, rfl, j, 6, n + 1, rfl, hj1, by omega, by decide, by decide, fun e H2 e0 e1 hj2 kp2 => ?_⟩
    have k2 : JK H H2 j (n + 2) := ⟨hj2, kp1.trans kp2⟩
    have hp2 : H2 p = some (.lst (ls.map V.str)) := k2.2 _ _ npj hp
    rw [List.length_map] at d1
    have l4 : (ls.map V.str).length ≤ 4 := by
      rw [List.length_map]
      exact l2
    obtain ⟨x0, hx0, mx0⟩ := atI_in (xs := ls.map V.str) d0 (by rw [List.length_map]; exact d1)
    have ag0 : AllGood [x0] := fun v hv => by
      rw [List.mem_singleton.mp hv]
      exact ag x0 mx0
    have sl : (sizeLine : Nat) = 16777216 := sizeLine_eq
    have cl := cutV_len (ls.map V.str)
    have fin : ∀ (q : Addr) (H3 : Hp) (vs : List V) (m : Nat), m ≤ n + 6 → vs.length ≤ 10 → AllGood vs → JK H H3 j m → H3 q = some (.lst vs) → Q (.ref q) H3 := fun q H3 vs m hm hl hv hk hq => by
      obtain ⟨xs, rfl, gx⟩ := allgood_strs hv
      exact k q H3 xs (by rw [List.length_map] at hl; exact hl) gx (hk.1.mono hm) hk.2 hq
    refine ⟨_, _, rfl, ?_⟩
    refine ⟨.int e, rfl, rfl, _, rfl, ?_⟩
    (refine ite2 (fun _ => ?_) (fun _ => ?_))
    · refine ⟨.ref p, rfl, .int d, rfl, d, rfl, p, _, rfl, SqL.of hp2, fun q1 n1 => ?_⟩
      refine ⟨.ref p, rfl, .int d, rfl, _, _, rfl, rfl, _, rfl, p, _, rfl, SqL.of (get_new hp2 n1), fun q2 n2 => ?_⟩
      refine ⟨q1, q2, _, _, rfl, rfl, get_new upd_same n2, upd_same, ?_, fun q3 n3 => ?_⟩
      · have a := cl none (some d)
        have b := cl (some (d + 1)) none
        omega
      · refine fin q3 _ _ (n + 2) (by omega) ?_ (allgood_cat (allgood_cut ag _ _) (allgood_cut ag _ _)) (JK.new (JK.new (JK.new k2 n1) n2) n3) upd_same
        have a := cl none (some d)
        have b := cl (some (d + 1)) none
        rw [List.length_append]
        omega
    refine ⟨.int e, rfl, rfl, _, rfl, ?_⟩
    (refine ite2 (fun _ => ?_) (fun _ => ?_))
    · have a := cl none (some d)
      have b := cl (some d) none
      refine ⟨.ref p, rfl, .int d, rfl, d, rfl, p, _, rfl, SqL.of hp2, fun q1 n1 => ?_⟩
      have hp3 := fun o : HO => get_new (u := HO.lst (ls.map V.str)) (o := o) hp2 n1
      refine ⟨.ref p, rfl, .int d, rfl, p, _, _, x0, rfl, rfl, SqL.of (hp3 _), hx0, (by show 1 ≤ sizeLine; decide), fun q2 n2 => ?_⟩
      refine ⟨q1, q2, _, _, rfl, rfl, get_new upd_same n2, upd_same, (by show _ + 1 ≤ sizeLine; omega), fun q3 n3 => ?_⟩
      refine ⟨.ref p, rfl, .int d, rfl, d, rfl, p, _, rfl, SqL.of (get_new (get_new (hp3 _) n2) n3), fun q4 n4 => ?_⟩
      refine ⟨q3, q4, _, _, rfl, rfl, get_new upd_same n4, upd_same, ?_, fun q5 n5 => ?_⟩
      · rw [List.length_append]
        show _ + 1 + _ ≤ sizeLine
        omega
      · refine fin q5 _ _ (n + 2) (by omega) ?_ (allgood_cat (allgood_cat (allgood_cut ag _ _) ag0) (allgood_cut ag _ _)) (JK.new (JK.new (JK.new (JK.new (JK.new k2 n1) n2) n3) n4) n5) upd_same
        rw [List.length_append, List.length_append]
        show _ + 1 + _ ≤ 10
        omega
    refine ⟨.int e, rfl, rfl, _, rfl, ?_⟩
    (refine ite2 (fun _ => ?_) (fun _ => ?_))
    · have a := cl none (some d)
      have b := cl (some (d + 1)) none
      refine ⟨.ref p, rfl, .int d, rfl, d, rfl, p, _, rfl, SqL.of hp2, fun q1 n1 => ?_⟩
      have hp3 := fun o : HO => get_new (u := HO.lst (ls.map V.str)) (o := o) hp2 n1
      refine ⟨.ref p, rfl, .int d, rfl, _, _, rfl, rfl, _, rfl, p, _, rfl, SqL.of (hp3 _), fun q2 n2 => ?_⟩
      refine ⟨q1, q2, _, _, rfl, rfl, get_new upd_same n2, upd_same, by omega, fun q3 n3 => ?_⟩
      refine ⟨.ref p, rfl, .int d, rfl, p, _, _, x0, rfl, rfl, SqL.of (get_new (get_new (hp3 _) n2) n3), hx0, (by show 1 ≤ sizeLine; decide), fun q4 n4 => ?_⟩
      refine ⟨q3, q4, _, _, rfl, rfl, get_new upd_same n4, upd_same, ?_, fun q5 n5 => ?_⟩
      · rw [List.length_append]
        show _ + _ + 1 ≤ sizeLine
        omega
      · refine fin q5 _ _ (n + 2) (by omega) ?_ (allgood_cat (allgood_cat (allgood_cut ag _ _) (allgood_cut ag _ _)) ag0) (JK.new (JK.new (JK.new (JK.new (JK.new k2 n1) n2) n3) n4) n5) upd_same
        rw [List.length_append, List.length_append]
        show _ + _ + 1 ≤ 10
        omega
    refine ⟨.int e, rfl, rfl, _, rfl, ?_⟩
    (refine ite2 (fun _ => ?_) (fun _ => ?_))
    · have a := cl none (some d)
      have b := cl (some d) none
      refine ⟨.ref p, rfl, .int d, rfl, d, rfl, p, _, rfl, SqL.of hp2, fun q1 n1 => ?_⟩
      have nq1 := k2.1.ne n1
      refine ⟨.ref j, rfl, .ref p, rfl, j, p, n + 2, ls, rfl, (JK.new k2 n1).1, by omega, npj, get_new hp2 n1, l1, by omega, hok, fun z H3 gz hj3 kp3 => ?_⟩
      have k3 : JK H H3 j (n + 4) := ⟨hj3, (JK.new k2 n1).2.trans kp3⟩
      have hp3 : H3 p = some (.lst (ls.map V.str)) := kp3 _ _ npj (get_new hp2 n1)
      have hq1 : H3 q1 = some _ := kp3 _ _ nq1 upd_same
      refine ⟨(by show 1 ≤ sizeLine; decide), fun q2 n2 => ?_⟩
      refine ⟨q1, q2, _, _, rfl, rfl, get_new hq1 n2, upd_same, (by show _ + 1 ≤ sizeLine; omega), fun q3 n3 => ?_⟩
      refine ⟨.ref p, rfl, .int d, rfl, d, rfl, p, _, rfl, SqL.of (get_new (get_new hp3 n2) n3), fun q4 n4 => ?_⟩
      refine ⟨q3, q4, _, _, rfl, rfl, get_new upd_same n4, upd_same, ?_, fun q5 n5 => ?_⟩
      · rw [List.length_append]
        show _ + 1 + _ ≤ sizeLine
        omega
      · refine fin q5 _ _ (n + 4) (by omega) ?_ (allgood_cat (allgood_cat (allgood_cut ag _ _) (allgood_cons gz allgood_nil)) (allgood_cut ag _ _)) (JK.new (JK.new (JK.new (JK.new k3 n2) n3) n4) n5) upd_same
        rw [List.length_append, List.length_append]
        show _ + 1 + _ ≤ 10
        omega
    · have a := cl none (some d)
      have b := cl (some (d + 1)) none
      refine ⟨.ref p, rfl, .int d, rfl, d, rfl, p, _, rfl, SqL.of hp2, fun q1 n1 => ?_⟩
      have nq1 := k2.1.ne n1
      refine ⟨.ref j, rfl, .ref p, rfl, j, p, n + 2, ls, rfl, (JK.new k2 n1).1, by omega, npj, get_new hp2 n1, l1, by omega, hok, fun z H3 gz hj3 kp3 => ?_⟩
      have k3 : JK H H3 j (n + 4) := ⟨hj3, (JK.new k2 n1).2.trans kp3⟩
      have hp3 : H3 p = some (.lst (ls.map V.str)) := kp3 _ _ npj (get_new hp2 n1)
      have hq1 : H3 q1 = some _ := kp3 _ _ nq1 upd_same
      refine ⟨(by show 1 ≤ sizeLine; decide), fun q2 n2 => ?_⟩
      refine ⟨q1, q2, _, _, rfl, rfl, get_new hq1 n2, upd_same, (by show _ + 1 ≤ sizeLine; omega), fun q3 n3 => ?_⟩
      refine ⟨.ref p, rfl, .int d, rfl, _, _, rfl, rfl, _, rfl, p, _, rfl, SqL.of (get_new (get_new hp3 n2) n3), fun q4 n4 => ?_⟩
      refine ⟨q3, q4, _, _, rfl, rfl, get_new upd_same n4, upd_same, ?_, fun q5 n5 => ?_⟩
      · rw [List.length_append]
        show _ + 1 + _ ≤ sizeLine
        omega
      refine ⟨(by show 1 ≤ sizeLine; decide), fun q6 n6 => ?_⟩
      have j5 := (JK.new (JK.new (JK.new k3 n2) n3) n4).1.ne n5
      have j6 := (JK.new (JK.new (JK.new (JK.new k3 n2) n3) n4) n5).1.ne n6
      refine ⟨.ref j, rfl, j, 9, n + 4, rfl, (JK.new (JK.new (JK.new (JK.new (JK.new k3 n2) n3) n4) n5) n6).1, by omega, by decide, by decide, fun t H7 t0 t1 hj7 kp7 => ?_⟩
      have k7 := (JK.new (JK.new (JK.new (JK.new (JK.new k3 n2) n3) n4) n5) n6).2.trans kp7
      have rl : ∀ c : Bool, (List.replicate (Int.toNat (if c = true then 1 else 0)) ([.str ""] : List V)).flatten.length ≤ 1 ∧ AllGood (List.replicate (Int.toNat (if c = true then 1 else 0)) ([.str ""] : List V)).flatten := fun c => by
        cases c
        · exact ⟨by decide, allgood_nil⟩
        · exact ⟨by decide, allgood_lit (l := [""]) (by decide +kernel)⟩
      refine ⟨rfl, .inr ⟨_, rfl, q6, _, _, rfl, rfl, kp7 _ _ j6 upd_same, ?_, ?_, ?_, fun q7 n7 => ?_⟩⟩
      · split <;> decide
      · split <;> decide
      · show 1 * _ ≤ sizeLine
        split
        · rw [sl]
          decide
        · rw [sl]
          decide
      refine ⟨q5, q7, _, _, rfl, rfl, get_new (kp7 _ _ j5 (get_new upd_same n6)) n7, upd_same, ?_, fun q8 n8 => ?_⟩
      · have c1 := (rl (decide (V.int t = V.int 0))).1
        rw [List.length_append, List.length_append]
        show _ + 1 + _ + _ ≤ sizeLine
        omega
      · refine fin q8 _ _ (n + 5) (by omega) ?_ (allgood_cat (allgood_cat (allgood_cat (allgood_cut ag _ _) (allgood_cons gz allgood_nil)) (allgood_cut ag _ _)) (rl (decide (V.int t = V.int 0))).2) (JK.new (JK.new ⟨hj7, k7⟩ n7) n8) upd_same
        have c1 := (rl (decide (V.int t = V.int 0))).1
        rw [List.length_append, List.length_append, List.length_append]
        show _ + 1 + _ + _ ≤ 10
        omega
end
end K08

set_option Elab.async false
set_option linter.all false
namespace K08
open PySem L2
/-! ### what the drawn lines tell -/
theorem wayB_of {y : Str} (h : y ∈ ways4) : wayB y = true := by
  have all : ∀ z ∈ ways4, wayB z = true := by decide +kernel
  exact all y h
def lineWords (w y : Str) (b : Bool) : List Str := if b = true then [wPart, w, y, wTakes] else [wPart, w, y]
theorem way_tx {y : Str} (h : y ∈ ways4) : ∀ c ∈ TL.tl y, Low c := by
  have all : ∀ z ∈ ways4, (TL.tl z).all (fun c => decide (97 ≤ c ∧ c ≤ 122)) = true := by decide +kernel
  exact fun c hc => show 97 ≤ c ∧ c ≤ 122 from of_decide_eq_true (List.all_eq_true.mp (all y h) c hc)
theorem lit_low {z : Str} (h : (TL.tl z).all (fun c => decide (97 ≤ c ∧ c ≤ 122)) = true) : ∀ c ∈ TL.tl z, Low c := fun c hc => show 97 ≤ c ∧ c ≤ 122 from of_decide_eq_true (List.all_eq_true.mp h c hc)
theorem words_low {w y : Str} {b : Bool} (hw : IsNm w) (hy : y ∈ ways4) : ∀ p ∈ lineWords w y b, ∀ c ∈ TL.tl p, Low c := by
  intro p hp
  have l1 : ∀ c ∈ TL.tl wPart, Low c := lit_low (by decide +kernel)
  have l2 : ∀ c ∈ TL.tl wTakes, Low c := lit_low (by decide +kernel)
  unfold lineWords at hp
  split at hp
  · simp only [List.mem_cons, List.not_mem_nil, or_false] at hp
    rcases hp with rfl | rfl | rfl | rfl
    · exact l1
    · exact hw.low
    · exact way_tx hy
    · exact l2
  · simp only [List.mem_cons, List.not_mem_nil, or_false] at hp
    rcases hp with rfl | rfl | rfl
    · exact l1
    · exact hw.low
    · exact way_tx hy
theorem line_join (w y : Str) (b : Bool) : lineOf w y b = Txt.join blank (lineWords w y b) := by
  refine TL.ext_tl ?_
  rw [TL.join_eq, TL.tl_join]
  have e1 : TL.tl ("part " : Str) = TL.tl wPart ++ TL.tl blank := by decide +kernel
  have e2 : TL.tl (" takes" : Str) = TL.tl blank ++ TL.tl wTakes := by decide +kernel
  have e3 : TL.tl (" " : Str) = TL.tl blank := by decide +kernel
  unfold lineOf lineWords
  cases b
  · rw [if_neg Bool.false_ne_true, if_neg Bool.false_ne_true]
    rw [TL.tl_append, TL.tl_append, TL.tl_append, TL.tl_append, e1, e3]
    show _ ++ [] = TL.tl wPart ++ (TL.tl blank ++ (TL.tl w ++ (TL.tl blank ++ TL.tl y)))
    simp only [List.append_assoc, List.append_nil]
  · rw [if_pos rfl, if_pos rfl]
    rw [TL.tl_append, TL.tl_append, TL.tl_append, TL.tl_append, e1, e2, e3]
    show _ = TL.tl wPart ++ (TL.tl blank ++ (TL.tl w ++ (TL.tl blank ++ (TL.tl y ++ (TL.tl blank ++ TL.tl wTakes)))))
    simp only [List.append_assoc]
theorem line_words {w y : Str} {b : Bool} (hw : IsNm w) (hy : y ∈ ways4) : wordsOf (lineOf w y b) = lineWords w y b := by
  unfold wordsOf
  rw [line_join]
  refine TL.split_join (s := 32) (S := []) (by decide +kernel) (by decide +kernel) (by unfold lineWords; split <;> simp) fun p hp hc => ?_
  have := words_low hw hy p hp 32 hc
  exact absurd this.1 (by decide)
theorem line_part {w y : Str} {b : Bool} (hw : IsNm w) (hy : y ∈ ways4) : partOf (wordsOf (lineOf w y b)) = some (w, y, b) := by
  rw [line_words hw hy]
  have n := nameB_of hw
  have v := wayB_of hy
  unfold lineWords
  cases b
  · rw [if_neg Bool.false_ne_true]
    have e : partOf [wPart, w, y] = some (w, y, decide (([] : List Str) = [wTakes])) := if_pos ⟨rfl, n, v, .inl rfl⟩
    rw [e]
    simp
  · rw [if_pos rfl]
    have e : partOf [wPart, w, y, wTakes] = some (w, y, decide ([wTakes] = [wTakes])) := if_pos ⟨rfl, n, v, .inr rfl⟩
    rw [e]
    simp
def rowsOf : List Str → List Str → List Bool → List Row
  | w :: ws, y :: ys, b :: bs => (w, y, b) :: rowsOf ws ys bs
  | _, _, _ => []
theorem rows_read : ∀ (ws ys : List Str) (bs : List Bool) (k : Nat) (acc : List Row), ys.length = ws.length → bs.length = ws.length → k + ws.length ≤ 4 → (∀ x ∈ ws, IsNm x) → (∀ y ∈ ys, y ∈ ways4) → ws.Nodup → (∀ x ∈ ws, x ∉ acc.map (fun r : Row => r.1)) →
    readR k acc (drawn ws ys bs) = .inr (acc ++ rowsOf ws ys bs)
  | [], _, _, _, acc, _, _, _, _, _, _, _ => by
    show Sum.inr acc = Sum.inr (acc ++ [])
    rw [List.append_nil]
  | w :: ws, y :: ys, b :: bs, k, acc, h1, h2, h3, h4, h5, h6, h7 => by
    have e := line_part (b := b) (h4 w List.mem_cons_self) (h5 y List.mem_cons_self)
    have l3 : k + (ws.length + 1) ≤ 4 := h3
    show (match partOf (wordsOf (lineOf w y b)) with | none => Sum.inl k | some p => if k = 4 ∨ p.1 ∈ acc.map (·.1) then Sum.inl k else readR (k + 1) (acc ++ [p]) (drawn ws ys bs) : Sum Nat (List Row)) = _
    rw [e]
    show (if k = 4 ∨ w ∈ acc.map (fun r : Row => r.1) then Sum.inl k else readR (k + 1) (acc ++ [(w, y, b)]) (drawn ws ys bs) : Sum Nat (List Row)) = _
    rw [if_neg (fun z => by
      rcases z with z | z
      · omega
      · exact h7 w List.mem_cons_self z)]
    have nd := List.nodup_cons.mp h6
    rw [rows_read ws ys bs (k + 1) (acc ++ [(w, y, b)]) (Nat.succ.inj h1) (Nat.succ.inj h2) (by omega) (fun x hx => h4 x (List.mem_cons_of_mem _ hx)) (fun x hx => h5 x (List.mem_cons_of_mem _ hx)) nd.2 (fun x hx z => ?_)]
    · show Sum.inr (acc ++ [(w, y, b)] ++ rowsOf ws ys bs) = Sum.inr (acc ++ (w, y, b) :: rowsOf ws ys bs)
      rw [List.append_assoc]
      rfl
    · rw [List.map_append, List.mem_append] at z
      rcases z with z | z
      · exact h7 x (List.mem_cons_of_mem _ hx) z
      · have z' : x = w := List.mem_singleton.mp z
        exact nd.1 (by rw [← z']; exact hx)
  | _ :: _, [], _, _, _, h, _, _, _, _, _, _ => nomatch h
  | _ :: _, _ :: _, [], _, _, _, h, _, _, _, _, _ => nomatch h
theorem rows_cols : ∀ (ws ys : List Str) (bs : List Bool), ys.length = ws.length → bs.length = ws.length → (rowsOf ws ys bs).map (fun r => V.str r.1) = ws.map V.str ∧ (rowsOf ws ys bs).map (fun r => V.str r.2.1) = ys.map V.str ∧ (rowsOf ws ys bs).map (fun r => V.bl r.2.2) = bs.map V.bl
  | [], [], [], _, _ => ⟨rfl, rfl, rfl⟩
  | w :: ws, y :: ys, b :: bs, h1, h2 => by
    obtain ⟨a1, a2, a3⟩ := rows_cols ws ys bs (Nat.succ.inj h1) (Nat.succ.inj h2)
    exact ⟨congrArg (V.str w :: ·) a1, congrArg (V.str y :: ·) a2, congrArg (V.bl b :: ·) a3⟩
  | _ :: _, [], _, h, _ => nomatch h
  | _ :: _, _ :: _, [], _, h => nomatch h
  | [], _ :: _, _, h, _ => nomatch h
  | [], [], _ :: _, _, h => nomatch h
/-! ### the drawn text -/
theorem drawn_mem : ∀ {ws ys : List Str} {bs : List Bool} {l : Str}, l ∈ drawn ws ys bs → ∃ w y b, w ∈ ws ∧ y ∈ ys ∧ l = lineOf w y b
  | w :: ws, y :: ys, b :: bs, l, h => by
    (rcases List.mem_cons.mp h with rfl | h)
    · exact ⟨w, y, b, List.mem_cons_self, List.mem_cons_self, rfl⟩
    · obtain ⟨w', y', b', h1, h2, e⟩ := drawn_mem h
      exact ⟨w', y', b', List.mem_cons_of_mem _ h1, List.mem_cons_of_mem _ h2, e⟩
  | [], _, _, _, h => nomatch h
  | _ :: _, [], _, _, h => nomatch h
  | _ :: _, _ :: _, [], _, h => nomatch h
theorem line_ok {w y : Str} {b : Bool} (hw : IsNm w) (hy : y ∈ ways4) : (lineOf w y b).length ≤ 50 ∧ Asc (lineOf w y b) ∧ 10 ∉ TL.tl (lineOf w y b) := by
  have ly : y.length ≤ 6 := by
    have all : ∀ z ∈ ways4, z.length ≤ 6 := by decide +kernel
    exact all y hy
  have lw := hw.len
  have l5 : ("part " : Str).length = 5 := by decide +kernel
  have l1 : (" " : Str).length = 1 := by decide +kernel
  have l6 : (" takes" : Str).length = 6 := by decide +kernel
  have lb : (if b = true then (" takes" : Str) else ⟨#[]⟩).length ≤ 6 := by
    cases b
    · exact Nat.zero_le _
    · exact Nat.le_of_eq l6
  have al : Asc (lineOf w y b) ∧ 10 ∉ TL.tl (lineOf w y b) := by
    have ch : ∀ c ∈ TL.tl (lineOf w y b), Low c ∨ c = 32 := by
      intro c hc
      rw [line_join, TL.join_eq, TL.tl_join] at hc
      have key : ∀ ps : List (List Nat), (∀ p ∈ ps, ∀ c ∈ p, Low c) → ∀ c ∈ TL.joinL (TL.tl blank) ps, Low c ∨ c = 32 := by
        intro ps
        induction ps with
        | nil => exact fun _ c hc => nomatch hc
        | cons p r ih =>
          intro h c hc
          cases r with
          | nil => exact .inl (h p List.mem_cons_self c hc)
          | cons q t =>
            have hc' : c ∈ p ++ (TL.tl blank ++ TL.joinL (TL.tl blank) (q :: t)) := hc
            rcases List.mem_append.mp hc' with hc' | hc'
            · exact .inl (h p List.mem_cons_self c hc')
            · rcases List.mem_append.mp hc' with hc' | hc'
              · have e : TL.tl blank = [32] := by decide +kernel
                rw [e] at hc'
                exact .inr (List.mem_singleton.mp hc')
              · exact ih (fun u hu => h u (List.mem_cons_of_mem _ hu)) c hc'
      refine key _ (fun p hp => ?_) c hc
      (obtain ⟨q, hq, rfl⟩ := List.mem_map.mp hp)
      exact words_low hw hy q hq
    refine ⟨fun c hc => ?_, fun hc => ?_⟩
    · rcases ch c hc with h | h
      · have := h.2
        omega
      · omega
    · rcases ch 10 hc with h | h
      · exact absurd h.1 (by decide)
      · exact absurd h (by decide)
  refine ⟨?_, al⟩
  unfold lineOf
  rw [Str.length_append, Str.length_append, Str.length_append, Str.length_append]
  omega
/-- texts joined by line feeds -/
def joined (ls : List Str) : Str := Txt.join nl ls
theorem joined_asc {ls : List Str} (h : ∀ l ∈ ls, Asc l) : Asc (joined ls) := by
  intro c hc
  have hc' : c ∈ TL.tl (Txt.join nl ls) := hc
  rw [TL.join_eq, TL.tl_join] at hc'
  have key : ∀ ps : List (List Nat), (∀ p ∈ ps, ∀ c ∈ p, c < 128) → ∀ c ∈ TL.joinL (TL.tl nl) ps, c < 128 := by
    intro ps
    induction ps with
    | nil => exact fun _ c hc => nomatch hc
    | cons p r ih =>
      intro h c hc
      cases r with
      | nil => exact h p List.mem_cons_self c hc
      | cons q t =>
        have hc' : c ∈ p ++ (TL.tl nl ++ TL.joinL (TL.tl nl) (q :: t)) := hc
        rcases List.mem_append.mp hc' with hc' | hc'
        · exact h p List.mem_cons_self c hc'
        · rcases List.mem_append.mp hc' with hc' | hc'
          · have e : TL.tl nl = [10] := by decide +kernel
            rw [e] at hc'
            rw [List.mem_singleton.mp hc']
            decide
          · exact ih (fun u hu => h u (List.mem_cons_of_mem _ hu)) c hc'
  refine key _ (fun p hp => ?_) c hc'
  (obtain ⟨q, hq, rfl⟩ := List.mem_map.mp hp)
  exact h q hq
theorem joined_len {ls : List Str} {m n : Nat} (hl : ls.length ≤ n) (h : ∀ l ∈ ls, l.length ≤ m) : (joined ls).length ≤ n * (m + 1) := by
  have e : (joined ls).length = (TL.joinL (TL.tl nl) (ls.map TL.tl)).length := by
    rw [← TL.tl_join, ← TL.join_eq]
    show (Txt.join nl ls).cps.size = (Txt.join nl ls).cps.toList.length
    simp
  have key : ∀ ps : List (List Nat), (∀ p ∈ ps, p.length ≤ m) → (TL.joinL (TL.tl nl) ps).length ≤ ps.length * (m + 1) := by
    intro ps
    induction ps with
    | nil => exact fun _ => Nat.zero_le _
    | cons p r ih =>
      intro h
      cases r with
      | nil =>
        have := h p List.mem_cons_self
        show p.length ≤ 1 * (m + 1)
        omega
      | cons q t =>
        have a := h p List.mem_cons_self
        have b := ih fun u hu => h u (List.mem_cons_of_mem _ hu)
        have en : (TL.tl nl).length = 1 := by decide +kernel
        show (p ++ (TL.tl nl ++ TL.joinL (TL.tl nl) (q :: t))).length ≤ ((q :: t).length + 1) * (m + 1)
        rw [List.length_append, List.length_append, en, Nat.add_mul]
        omega
  rw [e]
  refine Nat.le_trans (key _ fun p hp => ?_) ?_
  · obtain ⟨q, hq, rfl⟩ := List.mem_map.mp hp
    have := h q hq
    have e2 : (TL.tl q).length = q.length := by
      show q.cps.toList.length = q.cps.size
      simp
    omega
  · rw [List.length_map]
    exact Nat.mul_le_mul_right _ hl
theorem drawn_lines {ws ys : List Str} {bs : List Bool} (t : Three ws ys bs) : linesOf (joined (drawn ws ys bs)) = drawn ws ys bs := by
  unfold linesOf joined
  refine TL.split_join (s := 10) (S := []) (by decide +kernel) (by decide +kernel) (fun e => ?_) fun p hp => ?_
  · have l := drawn_len t.ly t.lb
    rw [e] at l
    have := t.one
    rw [← l] at this
    exact absurd this (by decide)
  · obtain ⟨w, y, b, h1, h2, rfl⟩ := drawn_mem hp
    exact (line_ok (t.nm w h1) (t.wy y h2)).2.2
theorem drawn_read {ws ys : List Str} {bs : List Bool} (t : Three ws ys bs) : readR 0 [] (linesOf (joined (drawn ws ys bs))) = .inr (rowsOf ws ys bs) := by
  rw [drawn_lines t, rows_read ws ys bs 0 [] t.ly t.lb (by have := t.four; omega) t.nm t.wy t.nd (fun _ _ h => nomatch h)]
  rfl
theorem drawn_text {ws ys : List Str} {bs : List Bool} (t : Three ws ys bs) : (joined (drawn ws ys bs)).length ≤ 204 ∧ Asc (joined (drawn ws ys bs)) := by
  have ok : ∀ l ∈ drawn ws ys bs, l.length ≤ 50 ∧ Asc l := fun l hl => by
    obtain ⟨w, y, b, h1, h2, rfl⟩ := drawn_mem hl
    have := line_ok (b := b) (t.nm w h1) (t.wy y h2)
    exact ⟨this.1, this.2.1⟩
  refine ⟨?_, joined_asc fun l hl => (ok l hl).2⟩
  exact joined_len (n := 4) (m := 50) (by rw [drawn_len t.ly t.lb]; exact t.four) fun l hl => (ok l hl).1
end K08

set_option Elab.async false
set_option linter.all false
namespace K08
open PySem L2
/-! ### data that is shown -/
def Rp (d : PyData) : Prop := d.showable = true ∧ d.hasDict = false ∧ d.depth ≤ 50 ∧ d.shown.length ≤ sizeLine
theorem rp_of {d : PyData} (h1 : d.canLay0 = true) (h2 : d.depth ≤ 50) (h3 : d.weight ≤ 2 ^ 20) (h4 : d.intsShort 13 = true) (h5 : d.showable = true) : Rp d := by
  have lay : d.layable0 = true := by
    unfold PyData.layable0
    rw [h1, decide_eq_true (show d.depth ≤ 64 by omega), decide_eq_true h3]
    rfl
  have s := PyProof.Rows.shown_le13 lay h4
  have e : (sizeLine : Nat) = 16777216 := by decide
  exact ⟨h5, PyData.hasDict_of_canLay d h1, h2, by omega⟩
theorem strs_all : ∀ {l : List Str} {m : Nat}, (∀ z ∈ l, Asc z ∧ z.length ≤ m) → PyData.weightAll (l.map PyData.str) ≤ l.length * (m + 1) ∧ PyData.intsShortAll 13 (l.map PyData.str) = true ∧ PyData.showableAll (l.map PyData.str) = true
  | [], _, _ => ⟨Nat.zero_le _, rfl, rfl⟩
  | z :: l, m, h => by
    obtain ⟨a, b, c⟩ := strs_all (l := l) (m := m) fun u hu => h u (List.mem_cons_of_mem _ hu)
    have hz := (h z List.mem_cons_self).2
    refine ⟨?_, ?_, ?_⟩
    · show z.cps.size + 1 + PyData.weightAll (l.map PyData.str) ≤ (l.length + 1) * (m + 1)
      have hz' : z.cps.size ≤ m := hz
      rw [Nat.add_mul]
      omega
    · show (true && PyData.intsShortAll 13 (l.map PyData.str)) = true
      rw [b]
      rfl
    · show (true && PyData.showableAll (l.map PyData.str)) = true
      rw [c]
      rfl
theorem bools_all : ∀ l : List Bool, PyData.weightAll (l.map PyData.bool) ≤ l.length ∧ PyData.intsShortAll 13 (l.map PyData.bool) = true ∧ PyData.showableAll (l.map PyData.bool) = true ∧ PyData.canLayAll0 (l.map PyData.bool) = true ∧ PyData.depthAll (l.map PyData.bool) = 0
  | [] => ⟨Nat.zero_le _, rfl, rfl, rfl, rfl⟩
  | z :: l => by
    obtain ⟨a, b, c, d, e⟩ := bools_all l
    refine ⟨?_, ?_, ?_, ?_, ?_⟩
    · show 0 + 1 + PyData.weightAll (l.map PyData.bool) ≤ l.length + 1
      omega
    · show (true && PyData.intsShortAll 13 (l.map PyData.bool)) = true
      rw [b]
      rfl
    · show (true && PyData.showableAll (l.map PyData.bool)) = true
      rw [c]
      rfl
    · show (true && PyData.canLayAll0 (l.map PyData.bool)) = true
      rw [d]
      rfl
    · show max 0 (PyData.depthAll (l.map PyData.bool)) = 0
      rw [e]
      rfl
theorem bools_dp {K : PySem.W.Frag} {H : Hp} : ∀ l : List Bool, DpAll K H (l.map V.bl) (l.map PyData.bool)
  | [] => .nil
  | a :: l => .cons (.bl a) (bools_dp l)
/-- (text, (names..)) -/
theorem rp_names {z : Str} {ws : List Str} (hz : Asc z) (lz : z.length ≤ 1000) (hw : ∀ x ∈ ws, Asc x ∧ x.length ≤ 100) (lw : ws.length ≤ 100) : Rp (.tuple [.str z, .tuple (ws.map PyData.str)]) := by
  obtain ⟨a, b, c⟩ := strs_all hw
  have d := texts_lay fun x hx => (hw x hx).1
  have e := texts_depth ws
  have la : ws.length * (100 + 1) ≤ 100 * 101 := Nat.mul_le_mul_right _ lw
  refine rp_of ?_ ?_ ?_ ?_ ?_
  · have ez := asc_ok hz
    simp only [PyData.canLay0, PyData.canLayAll0, d, Bool.and_true] at ez ⊢
    exact ez
  · simp only [PyData.depth, PyData.depthAll, e]
    decide
  · simp only [PyData.weight, PyData.weightAll]
    have lz' : z.cps.size ≤ 1000 := lz
    have e20 : (2 : Nat) ^ 20 = 1048576 := by decide
    omega
  · simp only [PyData.intsShort, PyData.intsShortAll, b]
    rfl
  · simp only [PyData.showable, PyData.showableAll, c]
    rfl
/-- ((ways..), (takes..)) -/
theorem rp_ways {ys : List Str} {bs : List Bool} (hy : ∀ x ∈ ys, Asc x ∧ x.length ≤ 100) (ly : ys.length ≤ 100) (lb : bs.length ≤ 100) : Rp (.tuple [.tuple (ys.map PyData.str), .tuple (bs.map PyData.bool)]) := by
  obtain ⟨a, b, c⟩ := strs_all hy
  have d := texts_lay fun x hx => (hy x hx).1
  have e := texts_depth ys
  obtain ⟨a2, b2, c2, d2, e2⟩ := bools_all bs
  have la : ys.length * (100 + 1) ≤ 100 * 101 := Nat.mul_le_mul_right _ ly
  refine rp_of ?_ ?_ ?_ ?_ ?_
  · simp only [PyData.canLay0, PyData.canLayAll0, d, d2]
    rfl
  · simp only [PyData.depth, PyData.depthAll, e, e2]
    decide
  · simp only [PyData.weight, PyData.weightAll]
    have e20 : (2 : Nat) ^ 20 = 1048576 := by decide
    omega
  · simp only [PyData.intsShort, PyData.intsShortAll, b, b2]
    rfl
  · simp only [PyData.showable, PyData.showableAll, c, c2]
    rfl
def heardD (o : Option Nat) : PyData := match o with
  | some n => .tuple [.str "text", .int (n : Int)]
  | none => .tuple [.str "told", .none]
theorem rp_heard {o : Option Nat} (h : ∀ n, o = some n → n ≤ 20) : Rp (heardD o) := by
  cases o with
  | none => exact rp_of (by decide +kernel) (by decide +kernel) (by decide +kernel) (by decide +kernel) (by decide +kernel)
  | some n =>
    have hn := h n rfl
    have all : ∀ k : Nat, k < 21 → ((heardD (some k)).canLay0 && decide ((heardD (some k)).depth ≤ 50) && decide ((heardD (some k)).weight ≤ 2 ^ 20) && (heardD (some k)).intsShort 13 && (heardD (some k)).showable) = true := by decide +kernel
    have q := all n (by omega)
    (simp only [Bool.and_eq_true, decide_eq_true_eq] at q)
    exact rp_of q.1.1.1.1 q.1.1.1.2 q.1.1.2 q.1.2 q.2
end K08

set_option Elab.async false
set_option linter.all false
namespace K08
open PySem L2
abbrev sRight : Stmt := top 27
theorem readR_le : ∀ (ls : List Str) (k : Nat) (acc : List Row) (n : Nat), k ≤ 4 → readR k acc ls = .inl n → n ≤ 4
  | [], k, acc, n, _, h => nomatch h
  | l :: r, k, acc, n, hk, h => by
    have h' : (match partOf (wordsOf l) with | none => Sum.inl k | some p => if k = 4 ∨ p.1 ∈ acc.map (fun r : Row => r.1) then Sum.inl k else readR (k + 1) (acc ++ [p]) r : Sum Nat (List Row)) = .inl n := h
    cases e : partOf (wordsOf l) with
    | none =>
      rw [e] at h'
      cases h'
      exact hk
    | some p =>
      rw [e] at h'
      by_cases c : k = 4 ∨ p.1 ∈ acc.map (fun r : Row => r.1)
      · have h2 : (if k = 4 ∨ p.1 ∈ acc.map (fun r : Row => r.1) then Sum.inl k else readR (k + 1) (acc ++ [p]) r : Sum Nat (List Row)) = .inl n := h'
        rw [if_pos c] at h2
        cases h2
        exact hk
      · have h2 : (if k = 4 ∨ p.1 ∈ acc.map (fun r : Row => r.1) then Sum.inl k else readR (k + 1) (acc ++ [p]) r : Sum Nat (List Row)) = .inl n := h'
        rw [if_neg c] at h2
        exact readR_le r (k + 1) (acc ++ [p]) n (by have : k ≠ 4 := fun z => c (.inl z); omega) h2
theorem wrongN_le {z : Str} {n : Nat} (h : wrongN z = some n) : n ≤ 4 := by
  unfold wrongN at h
  cases e : readR 0 [] (linesOf z) with
  | inl m =>
    rw [e] at h
    cases h
    exact readR_le _ 0 [] _ (by decide) e
  | inr rows =>
    rw [e] at h
    cases h
/-- what the comparisons of plans know of the class -/
structure OddK (P : Program) (w : World) (K : PySem.W.Frag) (mg : Str → Option Value) (base : Heap) (C : Addr) : Prop where
  cs : PySem.W.kitOne K (.ref C) (.type "str") = some false
  sC : PySem.W.kitOne K (.type "str") (.ref C) = some false
  tC : PySem.W.kitOne K (.type "tuple") (.ref C) = some false
  nC : PySem.W.kitOne K (.type "NoneType") (.ref C) = some false
  cC : PySem.W.kitOne K (.ref C) (.ref C) = some true
  fs : PySem.W.notFirst K C (.type "str") = true
  ft : PySem.W.notFirst K C (.type "tuple") = true
  fn : PySem.W.notFirst K C (.type "NoneType") = true
  fC : PySem.W.notFirst K C (.ref C) = true
  ti : ∀ {H : Hp} {a dx : Addr} {fs : List (Str × V)}, H a = some (.ins C dx fs) → TyX K H (.ref a) (.ref C)
  eq : ∃ (g : Addr) (fd : FuncData), PySem.W.findIn K (.ref C) "__eq__" = some (some (.ref g)) ∧ PySem.W.isFn K (.ref g) = true ∧ FnOk P w K mg base CX0 1 g fd ["self", "other"] (spPEq K C) ∧ Binds K fd ["self", "other"] []
  p1 : HasP P w K mg base C "text" "_text"
  p2 : HasP P w K mg base C "parts" "_parts"
  p3 : HasP P w K mg base C "ways" "_ways"
  p4 : HasP P w K mg base C "takes" "_takes"
structure Txt6 (K : PySem.W.Frag) (mg : Str → Option Value) : Prop extends Txt5 K mg where
  repr : mg "repr" = none
  tuple : mg "tuple" = none
section
variable {base : Heap} {P : Program} {w : World} {K : PySem.W.Frag} {mg : Str → Option Value}
/-- a Plan that tells z and the rows -/
def MadeAt (H : Hp) (C m : Addr) (z : Str) (rows : List Row) : Prop := ∃ dx a b c : Addr, H m = some (.ins C dx (pf z a b c)) ∧ H a = some (.tup (rows.map fun r => V.str r.1)) ∧ H b = some (.tup (rows.map fun r => V.str r.2.1)) ∧ H c = some (.tup (rows.map fun r => V.bl r.2.2))
theorem MadeAt.same {H H' : Hp} {C m : Addr} {z : Str} {rows : List Row} (h : MadeAt H C m z rows) (s : Same H H') : MadeAt H' C m z rows := by
  obtain ⟨dx, a, b, c, e0, e1, e2, e3⟩ := h
  exact ⟨dx, a, b, c, s _ _ e0, s _ _ e1, s _ _ e2, s _ _ e3⟩
theorem not_jar {H : Hp} {j x : Addr} {n : Nat} {o : HO} (hj : Jar H j n) (h : H x = some o) (no : ∀ xs, o ≠ .lst xs) : x ≠ j := fun e => by
  obtain ⟨a, b, c, q, _⟩ := hj
  rw [e, q] at h
  exact no _ (Option.some.inj h).symm
theorem MadeAt.keep {H H' : Hp} {C m j : Addr} {n : Nat} {z : Str} {rows : List Row} (h : MadeAt H C m z rows) (hj : Jar H j n) (k : Keep j H H') : MadeAt H' C m z rows := by
  obtain ⟨dx, a, b, c, e0, e1, e2, e3⟩ := h
  exact ⟨dx, a, b, c, k _ _ (not_jar hj e0 (fun _ q => nomatch q)) e0, k _ _ (not_jar hj e1 (fun _ q => nomatch q)) e1, k _ _ (not_jar hj e2 (fun _ q => nomatch q)) e2, k _ _ (not_jar hj e3 (fun _ q => nomatch q)) e3⟩
theorem mk_same {H H1 : Hp} {xp dx C : Addr} (nx : H xp = none) (ndx : H dx = none) (nex : dx ≠ xp) (k : Keep xp (upd (upd H dx (.own xp)) xp (.ins C dx [])) H1) : Same H H1 := fun b o q =>
  k b o (ne_of_none q nx) ((same_upd ndx).trans (same_upd (by rw [upd_ne nex.symm]; exact nx)) _ _ q)
theorem inr_ne {z : Str} {rows : List Row} {n : Nat} {p : Prop} (h : readR 0 [] (linesOf z) = .inr rows) (e : readR 0 [] (linesOf z) = .inl n) : p := by
  rw [h] at e
  cases e
theorem sum_le : ∀ {ls : List Str} {m : Nat}, (∀ l ∈ ls, l.length ≤ m) → (ls.map (·.length)).sum ≤ ls.length * m
  | [], _, _ => Nat.zero_le _
  | l :: ls, m, h => by
    have a := h l List.mem_cons_self
    have b := sum_le (ls := ls) (m := m) fun x hx => h x (List.mem_cons_of_mem _ hx)
    rw [List.map_cons, List.sum_cons, List.length_cons, Nat.add_mul]
    omega
theorem Jar.same {H H' : Hp} {j : Addr} {n : Nat} (h : Jar H j n) (s : Same H H') : Jar H' j n := by
  obtain ⟨a, b, c, e, r⟩ := h
  exact ⟨a, b, c, s _ _ e, r⟩
/-- what stands while a drawn plan is looked at -/
structure WW (H H' : Hp) (j d L m C : Addr) (n : Nat) (ws ys : List Str) (bs : List Bool) (tx : Str) : Prop where
  jar : Jar H' j n
  keep : Keep j H H'
  pa : PlanAt H' j d ws ys bs
  md : MadeAt H' C m tx (rowsOf ws ys bs)
  hL : H' L = some (.lst ((drawn ws ys bs).map V.str))
  nL : L ≠ j
theorem WW.same {H H' H'' : Hp} {j d L m C : Addr} {n : Nat} {ws ys : List Str} {bs : List Bool} {tx : Str} (h : WW H H' j d L m C n ws ys bs tx) (s : Same H' H'') : WW H H'' j d L m C n ws ys bs tx :=
  ⟨h.jar.same s, h.keep.trans (K08.Same.keep s), h.pa.keep (K08.Same.keep s), h.md.same s, s _ _ h.hL, h.nL⟩
theorem WW.new {H H' : Hp} {j d L m C p : Addr} {n : Nat} {ws ys : List Str} {bs : List Bool} {tx : Str} {o : HO} (h : WW H H' j d L m C n ws ys bs tx) (hn : H' p = none) : WW H (upd H' p o) j d L m C n ws ys bs tx := h.same (same_upd hn)
theorem WW.move {H H' H'' : Hp} {j d L m C : Addr} {n n' : Nat} {ws ys : List Str} {bs : List Bool} {tx : Str} (h : WW H H' j d L m C n ws ys bs tx) (k : Keep j H' H'') (hj : Jar H'' j n') : WW H H'' j d L m C n' ws ys bs tx :=
  ⟨hj, h.keep.trans k, h.pa.keep k, h.md.keep h.jar k, k _ _ h.nL h.hL, h.nL⟩
def oddL (q1 q2 q3 q4 q5 q6 q7 L m : Addr) : List V := [.non, .bl true, .int 0, .int (-1), .ref q1, .ref q2, .ref q3, .ref q4, .ref q5, .ref q6, .ref q7, .ref L, .ref m]
theorem odd_ns {H : Hp} {C q1 q2 q3 q4 q5 q6 q7 L m dm : Addr} {x4 x5 x7 x8 : List V} {k3 k6 : List (Key × V)} {fs : List (Str × V)} (O : OddK P w K mg base C) (e1 : H q1 = some (.tup [])) (e2 : H q2 = some (.lst [])) (e3 : H q3 = some (.dK k3)) (e4 : H q4 = some (.tup x4))
    (e5 : H q5 = some (.lst x5)) (e6 : H q6 = some (.dK k6)) (e7 : H q7 = some (.tup x7)) (e8 : H L = some (.lst x8)) (e9 : H m = some (.ins C dm fs)) : ∀ x ∈ oddL q1 q2 q3 q4 q5 q6 q7 L m, NotStr K H x := fun x hx => by
  have kt : ∀ T : String, kitB T "str" = some false → PySem.W.kitOne K (.type T) (.type "str") = some false := fun T h => kit_ty h
  unfold oddL at hx
  (simp only [List.mem_cons, List.not_mem_nil, or_false] at hx)
  rcases hx with rfl | rfl | rfl | rfl | rfl | rfl | rfl | rfl | rfl | rfl | rfl | rfl | rfl
  · exact ⟨.type "NoneType", .base .non, kt _ (by decide +kernel)⟩
  · exact ⟨.type "bool", .base (.bl true), kt _ (by decide +kernel)⟩
  · exact ⟨.type "int", .base (.int 0), kt _ (by decide +kernel)⟩
  · exact ⟨.type "int", .base (.int (-1)), kt _ (by decide +kernel)⟩
  · exact ⟨.type "tuple", .base (.tup e1), kt _ (by decide +kernel)⟩
  · exact ⟨.type "list", .base (.lst e2), kt _ (by decide +kernel)⟩
  · exact ⟨.type "dict", .base (.dK e3), kt _ (by decide +kernel)⟩
  · exact ⟨.type "tuple", .base (.tup e4), kt _ (by decide +kernel)⟩
  · exact ⟨.type "list", .base (.lst e5), kt _ (by decide +kernel)⟩
  · exact ⟨.type "dict", .base (.dK e6), kt _ (by decide +kernel)⟩
  · exact ⟨.type "tuple", .base (.tup e7), kt _ (by decide +kernel)⟩
  · exact ⟨.type "list", .base (.lst e8), kt _ (by decide +kernel)⟩
  · exact ⟨.ref C, O.ti e9, O.cs⟩
theorem odd_all {K : PySem.W.Frag} {σ : L2.St} {H : Hp} {Q : VK} {te : TE} {q : Addr} {xs : List V} (h8 : σ[8]? = some (some (.ref q))) (hq : H q = some (.lst xs)) (ns : ∀ x ∈ xs, NotStr K H x) (hl : xs.length ≤ 100) (hw : ∀ x : V, wipe ((wipe σ [9]).set 9 (some x)) [9] = wipe σ [9])
    (he : ∀ (x : V) (H1 : Hp) (R : VK), NotStr K H1 x → (∀ H2, Same H1 H2 → R (.bl true) H2) → te ((wipe σ [9]).set 9 (some x)) H1 R)
    (k : ∀ D H', Same H H' → H' D = some (.lst (List.replicate xs.length (V.bl true))) → Q (.ref D) H') : tLc (iList K (tVar 8)) (gName 9) tYes te [9] σ H Q := by
  refine ⟨_, h8, q, rfl, ⟨xs, SqL.of hq⟩, fun D nD => ?_⟩
  have nDq : D ≠ q := fun e => by
    rw [e, hq] at nD
    cases nD
  refine lc_list (xs := xs) (fun i H' => Same H H' ∧ H' D = some (.lst (List.replicate i (V.bl true))) ∧ i ≤ 100) ⟨same_upd nD, upd_same, by decide⟩ (fun i H' _ z => SqL.of (z.1 _ _ hq)) ?_ ?_
  · rintro i x H' hx ⟨s1, hD, hi⟩
    have ilt : i < xs.length := (List.getElem?_eq_some_iff.mp hx).1
    refine ⟨hw x, ?_⟩
    show te _ H' _
    refine he x H' _ (notStr_same s1 (ns x (List.mem_of_getElem? hx))) fun H2 s2 => ?_
    refine ⟨_, s2 _ _ hD, by rw [List.length_replicate]; exact small1000 (by omega), same_new (s1.trans s2) nD, ?_, by omega⟩
    rw [upd_same, List.replicate_succ']
  · rintro H' ⟨s1, hD, _⟩
    exact k D H' s1 hD
def spRight : Sp := fun vs H Q _ => ∃ (j : Addr) (n : Nat), vs = [.ref j] ∧ Jar H j n ∧ n ≤ 5000 ∧ ∀ H', Jar H' j (n + 200) → Keep j H H' → Q (.bl true) H'
abbrev nRight : List Str := ["_law_jar_here", "_law_plan_here", "_law_lines", "_law_text", "_law_made", "_law_turn", "_law_other", "_law_wrong_here", "_law_odd", "_law_thing"]
theorem scRight : FnScope nRight ["_law_jar_here"] (defScope sRight) := ⟨rfl, rfl, rfl, by decide +kernel, rfl, by decide +kernel, by decide +kernel⟩
theorem ok_right {f C CB : Addr} {fd : FuncData} (F : Fun K "_law_right" "_law_right" sRight f fd) (T : Txt6 K mg) (TP : PlanC P w K mg base C CB) (O : OddK P w K mg base C)
    (GP : Has P w K mg base "_law_plan" 4 ["_law_jar_here", "_law_most"] spPlan) (GL : Has P w K mg base "_law_plan_lines" 1 ["_law_plan_here"] spPLines) (GO : Has P w K mg base "_law_otherwise" 4 ["_law_jar_here", "_law_lines"] spOther)
    (GW : Has P w K mg base "_law_wrong" 2 ["_law_text"] spWrong) (GH : Has P w K mg base "_law_heard" 6 ["_law_thing"] (spHeard K)) : FnG P w K mg base 7 f fd ["_law_jar_here"] spRight := by
  refine K08.Fun.okG F scRight (fun vs H Q E h => ?_) (fun cdv A outer s H vs Q E hgu hr h => ?_)
  · obtain ⟨j, n, rfl, _⟩ := h
    rfl
  · obtain ⟨j, n, rfl, hj, hn, k⟩ := h
    obtain ⟨fI, fdI, M, FI, bI⟩ := TP.init
    obtain ⟨gE, fdE, hs, hf, FE, bE⟩ := O.eq
    have r5 : Room 5 _ := hr.mono (by decide)
    have r4 : Room 4 _ := hr.mono (by decide)
    have r2 : Room 2 _ := hr.mono (by decide)
    have r1 : Room 1 _ := hr.mono (by decide)
    have u64 := fun {k : Nat} {A : Around} (h : Room k A) => (show A.units + 64 < cLine by have := units65 h; omega)
    refine ⟨_, pss_cons (ps_set (i := 1) scRight.nd rfl (.inl rfl) (pe_has GP r4 (pa_cons (pv 0) (pa_cons pe_int pa_nil))))
      (pss_cons (ps_set (i := 2) scRight.nd rfl (.inl rfl) (pe_has GL r1 (pa_cons (pv 1) pa_nil)))
      (pss_cons (ps_set (i := 3) scRight.nd rfl (.inl rfl) (pe_join pe_str (pv 2)))
      (pss_cons (ps_set (i := 4) scRight.nd rfl (.inl rfl) (pe_makeS M FI r5 rfl TP.gP bI (fun σ => passAt takes0 σ) (pa_cons (pv 3) pa_nil)))
      (pss_cons (ps_if (pt_cmpR op_ne (pe_callB (call_reprD hgu (u64 hr)) (by rfl) T.repr (by decide +kernel) (pa_cons (pe_tup (pa_cons (pe_get O.p1 TP.cl r2 (pv 4)) (pa_cons (pe_get O.p2 TP.cl r2 (pv 4)) pa_nil))) pa_nil))
          (pe_callB (call_reprD hgu (u64 hr)) (by rfl) T.repr (by decide +kernel) (pa_cons (pe_tup (pa_cons (pv 3) (pa_cons (pe_callTy call_tuple_of (by rfl) T.tuple (by decide +kernel) (pa_cons (pe_dget (units1 hr) (pv 1) pe_str (fun _ _ => rfl)) pa_nil)) pa_nil))) pa_nil)) (nomark _)) (pss_one (ps_ret pe_bl)) pss_nil)
      (pss_cons (ps_if (pt_cmpR op_ne (pe_callB (call_reprD hgu (u64 hr)) (by rfl) T.repr (by decide +kernel) (pa_cons (pe_tup (pa_cons (pe_get O.p3 TP.cl r2 (pv 4)) (pa_cons (pe_get O.p4 TP.cl r2 (pv 4)) pa_nil))) pa_nil))
          (pe_callB (call_reprD hgu (u64 hr)) (by rfl) T.repr (by decide +kernel) (pa_cons (pe_tup (pa_cons (pe_callTy call_tuple_of (by rfl) T.tuple (by decide +kernel) (pa_cons (pe_dget (units1 hr) (pv 1) pe_str (fun _ _ => rfl)) pa_nil)) (pa_cons (pe_callTy call_tuple_of (by rfl) T.tuple (by decide +kernel) (pa_cons (pe_dget (units1 hr) (pv 1) pe_str (fun _ _ => rfl)) pa_nil)) pa_nil))) pa_nil)) (nomark _)) (pss_one (ps_ret pe_bl)) pss_nil)
      (pss_cons (ps_if (PW.pt (pw_or (pt_not (pt_cmpR (op_ownEq hs hf FE bE r1) (pv 4) (pe_makeS M FI r5 rfl TP.gP bI (fun σ => passAt takes0 σ) (pa_cons (pv 3) pa_nil)) (nomark _)))
          (pw_or (pt_cmpR (op_ownEq hs hf FE bE r1) (pv 4) (pv 3) (nomark _)) (pw_or (pt_cmpR (op_ownEq hs hf FE bE r1) (pv 4) (pe_get O.p2 TP.cl r2 (pv 4)) (nomark _)) (pw_or1 (pt_cmpR (op_ownEq hs hf FE bE r1) (pv 4) pe_non (nomark _))))))) (pss_one (ps_ret pe_bl)) pss_nil)
      (pss_cons (ps_for PassesOwn.never rfl (pi_range1 (by rfl) T.range (pa_cons pe_int pa_nil)) (pg_name (i := 5) scRight.nd rfl (.inl rfl))
        (pss_cons (ps_set (i := 6) scRight.nd rfl (.inl rfl) (pe_join pe_str (pe_has GO r4 (pa_cons (pv 0) (pa_cons (pv 2) pa_nil)))))
        (pss_cons (ps_set (i := 7) scRight.nd rfl (.inl rfl) (pe_has GW r2 (pa_cons (pv 6) pa_nil)))
        (pss_cons (ps_if (pt_cmpR op_ne (pe_callB (call_reprD hgu (u64 hr)) (by rfl) T.repr (by decide +kernel) (pa_cons (pe_has GH hr (pa_cons (pv 6) pa_nil)) pa_nil))
            (pe_callB (call_reprD hgu (u64 hr)) (by rfl) T.repr (by decide +kernel) (pa_cons (pe_ifExp (pt_cmpR op_isN (pv 7) pe_non (nomark _)) (pe_tup (pa_cons pe_str (pa_cons pe_non pa_nil))) (pe_tup (pa_cons pe_str (pa_cons (pv 7) pa_nil)))) pa_nil)) (nomark _)) (pss_one (ps_ret pe_bl)) pss_nil)
        (pss_one (ps_if (PW.pt (pw_and (pt_cmpR op_isN (pv 7) pe_non (nomark _)) (pw_and1 (pt_cmpR op_ne (pe_cmpR (op_ownEq hs hf FE bE r1) (pv 4) (pe_makeS M FI r5 rfl TP.gP bI (fun σ => passAt takes0 σ) (pa_cons (pv 6) pa_nil)) (nomark _)) (pe_cmpR op_eq (pv 6) (pv 3) (nomark _)) (nomark _))))) (pss_one (ps_ret pe_bl)) pss_nil))))))
      (pss_cons (ps_set (i := 8) scRight.nd rfl (.inl rfl) (pe_lst (pa_cons pe_non (pa_cons pe_bl (pa_cons pe_int (pa_cons (pe_un un_neg pe_int) (pa_cons (pe_tup pa_nil) (pa_cons (pe_lst pa_nil) (pa_cons pe_dnewK (pa_cons (pe_tup (pa_cons (pv 3) pa_nil)) (pa_cons (pe_lst (pa_cons (pv 3) pa_nil))
          (pa_cons (pe_disp (pps_cons pe_str (pv 3) pps_nil) rfl rfl (by simp) (by decide)) (pa_cons (pe_callTy call_tuple_of (by rfl) T.tuple (by decide +kernel) (pa_cons (pv 2) pa_nil)) (pa_cons (pv 2) (pa_cons (pv 4) pa_nil)))))))))))))))
      (pss_one (ps_ret (pe_callB (cr_all rfl) (by rfl) T.all (by decide +kernel) (pa_cons (pe_lc (own := [("_law_thing", 9)]) (g := gName 9) (tt := tYes) rfl scRight.nd (pi_list (pv 8))
          (blkOk_by (N := nRight) (sc := defScope sRight) (by decide +kernel)) (fun _ _ _ _ _ => pg_name (i := 9) scRight.nd rfl (Or.inl rfl)) (fun _ _ _ _ _ => pts_nil)
          (fun _ _ _ _ _ => pe_cmpR (r := rEqD K) (op_eqD (u64 hr)) (pe_has GH hr (pa_cons (pv 9) pa_nil)) (pe_tup (pa_cons pe_str (pa_cons (pe_un un_neg pe_int) pa_nil))) (nomark _))) pa_nil)))))))))))), ?_⟩
    refine ⟨.ref j, rfl, j, n, 4, rfl, hj, by omega, by decide, by decide, fun d H1 ws ys bs th hj1 kp1 pa => ?_⟩
    refine ⟨.ref d, rfl, j, d, ws, ys, bs, rfl, pa, th, fun H2 L s2 nL hL => ?_⟩
    have dok : ∀ l ∈ drawn ws ys bs, l.length ≤ 50 ∧ Asc l := fun l hl => by
      obtain ⟨w1, y1, b1, h1, h2, rfl⟩ := drawn_mem hl
      have := line_ok (b := b1) (th.nm w1 h1) (th.wy y1 h2)
      exact ⟨this.1, this.2.1⟩
    have dl := drawn_len th.ly th.lb
    have t1 := th.one
    have t4 := th.four
    have nl1 : nl.length = 1 := by decide +kernel
    obtain ⟨tl, ta⟩ := drawn_text th
    have rd := drawn_read th
    refine ⟨⟨_, rfl⟩, .ref L, rfl, _, L, drawn ws ys bs, rfl, rfl, .inl (SqL.of hL), ?_, ?_⟩
    · have := sum_le (ls := drawn ws ys bs) (m := 50) fun l hl => (dok l hl).1
      show _ + _ * nl.length ≤ 16777216
      rw [nl1]
      omega
    refine ⟨_, rfl, fun m dm nm ndm nem => ⟨m, dm, _, rfl, upd_same, .inr ⟨joined (drawn ws ys bs), rfl, by omega, ta, fun n e => inr_ne rd e, fun rows e H3 a b c k3 e1 e2 e3 e4 => ⟨rfl, ?_⟩⟩⟩⟩
    have s3 := mk_same nm ndm nem k3
    obtain rfl : rows = rowsOf ws ys bs := by
      rw [rd] at e
      cases e
      rfl
    have hm : MadeAt H3 C m (joined (drawn ws ys bs)) (rowsOf ws ys bs) := ⟨dm, a, b, c, e1, e2, e3, e4⟩
    have w3 : WW H H3 j d L m C (n + 30) ws ys bs (joined (drawn ws ys bs)) :=
      ⟨(hj1.same s2).same s3, (kp1.trans (K08.Same.keep s2)).trans (K08.Same.keep s3), (pa.keep (K08.Same.keep s2)).keep (K08.Same.keep s3), hm, s3 _ _ hL, hj1.ne nL⟩
    obtain ⟨cw, cy, cb⟩ := rows_cols ws ys bs th.ly th.lb
    rw [cw] at e2
    rw [cy] at e3
    rw [cb] at e4
    obtain ⟨p1, p2, p3, n0, n1, n2, n3, f0, f1, f2, f3⟩ := w3.pa.ex
    have wa : ∀ x ∈ ws, Asc x ∧ x.length ≤ 100 := fun x hx => ⟨fun c hc => by have := ((th.nm x hx).low c hc).2; omega, Nat.le_trans (th.nm x hx).len (by decide)⟩
    have ya : ∀ x ∈ ys, Asc x ∧ x.length ≤ 100 := fun x hx => by
      have all : ∀ z ∈ ways4, z.length ≤ 6 := by decide +kernel
      exact ⟨fun c hc => by have := (way_tx (th.wy x hx) c hc).2; omega, Nat.le_trans (all x (th.wy x hx)) (by decide)⟩
    obtain ⟨r1a, r1b, r1c, r1d⟩ := rp_names ta (by omega) wa (by omega)
    obtain ⟨r2a, r2b, r2c, r2d⟩ := rp_ways (bs := bs) ya (by have := th.ly; omega) (by have := th.lb; omega)
    -- the first two looks
    refine ⟨.ref m, rfl, m, dm, _, rfl, e1, ⟨m, dm, _, .str (joined (drawn ws ys bs)), rfl, e1, rfl, .ref m, rfl, m, dm, _, rfl, e1, m, dm, _, .ref a, rfl, e1, rfl, (by show 2 ≤ sizeLine; decide), fun q1 y1 => ?_⟩⟩
    refine ⟨q1, _, rfl, .tup (SqT.of upd_same) (.cons (.str _) (.cons (.tup (SqT.of (get_new e2 y1)) (texts_dp ws)) .nil)), r1a, r1b, r1c, r1d, ?_⟩
    refine ⟨_, rfl, .ref d, rfl, d, _, rfl, .inl ⟨_, .inr "names", .inl (get_new f0 y1), rfl, rfl⟩, p1, _, rfl, .inl ⟨SqL.of (get_new f1 y1), fun q2 y2 => ?_⟩⟩
    refine ⟨(by show 2 ≤ sizeLine; decide), fun q3 y3 => ?_⟩
    refine ⟨q3, _, rfl, .tup (SqT.of upd_same) (.cons (.str (joined (drawn ws ys bs))) (.cons (.tup (SqT.of (get_new upd_same y3)) (texts_dp ws)) .nil)), r1a, r1b, r1c, r1d, ?_⟩
    refine ⟨rfl, _, rfl, ?_⟩
    refine ite2 (fun z => absurd z (by simp)) (fun _ => ?_)
    have g3 := fun {x : Addr} {o o3 : HO} (h : H3 x = some o) => get_new (o := o3) (get_new (get_new h y1) y2) y3
    refine ⟨.ref m, rfl, m, dm, _, rfl, g3 e1, ⟨m, dm, _, .ref b, rfl, g3 e1, rfl, .ref m, rfl, m, dm, _, rfl, g3 e1, m, dm, _, .ref c, rfl, g3 e1, rfl, (by show 2 ≤ sizeLine; decide), fun q4 y4 => ?_⟩⟩
    refine ⟨q4, _, rfl, .tup (SqT.of upd_same) (.cons (.tup (SqT.of (get_new (g3 e3) y4)) (texts_dp ys)) (.cons (.tup (SqT.of (get_new (g3 e4) y4)) (bools_dp bs)) .nil)), r2a, r2b, r2c, r2d, ?_⟩
    refine ⟨.ref d, rfl, d, _, rfl, .inl ⟨_, .inr "ways", .inl (get_new (g3 f0) y4), rfl, rfl⟩, p2, _, rfl, .inl ⟨SqL.of (get_new (g3 f2) y4), fun q5 y5 => ?_⟩⟩
    refine ⟨.ref d, rfl, d, _, rfl, .inl ⟨_, .inr "takes", .inl (get_new (get_new (g3 f0) y4) y5), rfl, rfl⟩, p3, _, rfl, .inl ⟨SqL.of (get_new (get_new (g3 f3) y4) y5), fun q6 y6 => ?_⟩⟩
    refine ⟨(by show 2 ≤ sizeLine; decide), fun q7 y7 => ?_⟩
    refine ⟨q7, _, rfl, .tup (SqT.of upd_same) (.cons (.tup (SqT.of (get_new (get_new upd_same y6) y7)) (texts_dp ys)) (.cons (.tup (SqT.of (get_new upd_same y7)) (bools_dp bs)) .nil)), r2a, r2b, r2c, r2d, ?_⟩
    refine ⟨rfl, _, rfl, ?_⟩
    refine ite2 (fun z => absurd z (by simp)) (fun _ => ?_)
    -- the third look
    refine ⟨.ref m, rfl, _, rfl, fun m2 dm2 nm2 ndm2 nem2 => ⟨m2, dm2, _, rfl, upd_same, .inr ⟨joined (drawn ws ys bs), rfl, by omega, ta, fun n e => inr_ne rd e, fun rows e H5 a5 b5 c5 k5 g51 g52 g53 g54 => ⟨rfl, ?_⟩⟩⟩⟩
    have s5 := mk_same nm2 ndm2 nem2 k5
    have w5 := (((((((w3.new y1).new y2).new y3).new y4).new y5).new y6).new y7).same s5
    have em := s5 _ _ (get_new (get_new (get_new (get_new (g3 e1) y4) y5) y6) y7)
    refine ⟨m, dm, _, .ref C, rfl, em, ?_, O.fC, ⟨m, dm, _, joined (drawn ws ys bs), .ref m2, rfl, em, rfl, .inr ⟨m2, dm2, _, joined (drawn ws ys bs), .ref C, rfl, g51, rfl, ?_, O.cC, fun H6 s6 => ?_⟩⟩⟩
    · exact O.ti g51
    · exact O.ti g51
    refine ⟨_, rfl, ?_⟩
    refine ite2 (fun z => absurd z (by simp)) (fun _ => ?_)
    have em6 := s6 _ _ em
    refine ⟨.ref m, rfl, .str (joined (drawn ws ys bs)), rfl, m, dm, _, .type "str", rfl, em6, .base (.str _), O.fs, ⟨m, dm, _, joined (drawn ws ys bs), .str (joined (drawn ws ys bs)), rfl, em6, rfl, .inl ⟨.type "str", .base (.str _), O.sC, fun H7 s7 => ?_⟩⟩⟩
    refine ⟨_, rfl, ?_⟩
    refine ite2 (fun z => Bool.noConfusion z) (fun _ => ?_)
    have em7 := s7 _ _ em6
    have ea7 : H7 a = some (.tup (ws.map V.str)) := s7 _ _ (s6 _ _ (s5 _ _ (get_new (get_new (get_new (get_new (g3 e2) y4) y5) y6) y7)))
    refine ⟨.ref m, rfl, .ref m, rfl, m, dm, _, rfl, em7, m, dm, _, .ref a, rfl, em7, rfl, ?_⟩
    refine ⟨m, dm, _, .type "tuple", rfl, em7, .base (.tup ea7), O.ft, ⟨m, dm, _, joined (drawn ws ys bs), .ref a, rfl, em7, rfl, .inl ⟨.type "tuple", .base (.tup ea7), O.tC, fun H8 s8 => ?_⟩⟩⟩
    refine ⟨_, rfl, ?_⟩
    refine ite2 (fun z => Bool.noConfusion z) (fun _ => ?_)
    have em8 := s8 _ _ em7
    refine ⟨.ref m, rfl, m, dm, _, .type "NoneType", rfl, em8, .base .non, O.fn, ⟨m, dm, _, joined (drawn ws ys bs), .non, rfl, em8, rfl, .inl ⟨.type "NoneType", .base .non, O.nC, fun H9 s9 => ?_⟩⟩⟩
    refine ⟨_, rfl, ?_⟩
    refine ite2 (fun z => Bool.noConfusion z) (fun _ => ?_)
    have w9 := (((w5.same s6).same s7).same s8).same s9
    have em9 := s9 _ _ em8
    clear w5 w3 hm e2 e3 e4 e1 em em6 em7 em8 ea7 r1a r1b r1c r1d r2a r2b r2c r2d
    refine ⟨_, rfl, by decide, by decide, for_range (lo := 0) (n := 10) (fun i σ H' => ∃ v5 v6 v7 : Option V, σ = [some (.ref j), some (.ref d), some (.ref L), some (.str (joined (drawn ws ys bs))), some (.ref m), v5, v6, v7, none, none] ∧ WW H H' j d L m C (n + 30 + 6 * i) ws ys bs (joined (drawn ws ys bs))) ⟨_, _, _, rfl, w9⟩ ?_ ?_⟩
    · rintro i σ H4 hi ⟨v5, v6, v7, rfl, w4⟩
      refine ⟨⟨_, rfl⟩, .ref j, rfl, .ref L, rfl, j, L, n + 30 + 6 * i, drawn ws ys bs, rfl, w4.jar, by omega, w4.nL, w4.hL, by omega, by omega, dok, fun q H5 xs lx gx hj5 kp5 hq => ?_⟩
      refine ⟨_, q, xs, rfl, rfl, .inl (SqL.of hq), ?_, ?_⟩
      · have := sum_le (ls := xs) (m := 400) fun l hl => (gx l hl).1
        show _ + _ * nl.length ≤ 16777216
        rw [nl1]
        omega
      have ol : (joined xs).length ≤ 10 * (400 + 1) := joined_len lx fun l hl => (gx l hl).1
      have oa : Asc (joined xs) := joined_asc fun l hl => (gx l hl).2
      have w5 := w4.move kp5 hj5
      refine ⟨_, rfl, joined xs, rfl, by omega, oa, fun H6 s6 => ?_⟩
      have w6 := w5.same s6
      have wl : ∀ w1, wrongN (joined xs) = some w1 → w1 ≤ 20 := fun w1 h => Nat.le_trans (wrongN_le h) (by decide)
      obtain ⟨ra, rb, rc, rdd⟩ := rp_heard wl
      refine ⟨_, rfl, .str (joined xs), rfl, .inr ⟨joined xs, rfl, by omega, oa, fun H7 p s7 np hp => ?_⟩⟩
      have w7 := w6.same s7
      cases hw : wrongN (joined xs) with
      | some w1 =>
        rw [hw] at hp ra rb rc rdd
        refine ⟨p, _, rfl, .tup (SqT.of hp) (.cons (.str _) (.cons (.int _) .nil)), ra, rb, rc, rdd, ?_⟩
        (refine ⟨_, rfl, rfl, _, rfl, ?_⟩)
        refine ite2 (fun z => by cases of_decide_eq_true z) (fun _ => ?_)
        refine ⟨_, rfl, (by show 2 ≤ sizeLine; decide), fun p2 np2 => ?_⟩
        refine ⟨p2, _, rfl, .tup (SqT.of upd_same) (.cons (.str "text") (.cons (.int _) .nil)), ra, rb, rc, rdd, ?_⟩
        refine ⟨rfl, _, rfl, ?_⟩
        refine ite2 (fun z => absurd z (by simp)) (fun _ => ?_)
        (refine ⟨_, rfl, rfl, _, rfl, ?_⟩)
        refine ite2 (fun z => by cases of_decide_eq_true z) (fun _ => ?_)
        refine ite2 (fun z => Bool.noConfusion z) (fun _ => ?_)
        exact ⟨_, _, _, rfl, w7.new np2⟩
      | none =>
        rw [hw] at hp ra rb rc rdd
        refine ⟨p, _, rfl, .tup (SqT.of hp) (.cons (.str _) (.cons .non .nil)), ra, rb, rc, rdd, ?_⟩
        (refine ⟨_, rfl, rfl, _, rfl, ?_⟩)
        refine ite2 (fun _ => ?_) (fun z => absurd (decide_eq_true rfl) z)
        refine ⟨(by show 2 ≤ sizeLine; decide), fun p2 np2 => ?_⟩
        refine ⟨p2, _, rfl, .tup (SqT.of upd_same) (.cons (.str "told") (.cons .non .nil)), ra, rb, rc, rdd, ?_⟩
        refine ⟨rfl, _, rfl, ?_⟩
        refine ite2 (fun z => absurd z (by simp)) (fun _ => ?_)
        (refine ⟨_, rfl, rfl, _, rfl, ?_⟩)
        refine ite2 (fun _ => ?_) (fun z => absurd (decide_eq_true rfl) z)
        have w8 : WW H _ j d L m C _ ws ys bs (joined (drawn ws ys bs)) := w7.new (o := HO.tup [V.str "told", V.non]) np2
        obtain ⟨rows, hrows⟩ : ∃ rows, readR 0 [] (linesOf (joined xs)) = .inr rows := by
          unfold wrongN at hw
          cases e : readR 0 [] (linesOf (joined xs)) with
          | inl w1 =>
            rw [e] at hw
            cases hw
          | inr rows => exact ⟨rows, rfl⟩
        refine ⟨.ref m, rfl, _, rfl, fun m2 dm2 nm2 ndm2 nem2 => ⟨m2, dm2, _, rfl, upd_same, .inr ⟨joined xs, rfl, by omega, oa, fun n1 e => inr_ne hrows e, fun rows2 e H9 a5 b5 c5 k5 g51 g52 g53 g54 => ⟨rfl, ?_⟩⟩⟩⟩
        have w9 := w8.same (mk_same nm2 ndm2 nem2 k5)
        obtain ⟨dm9, a9, b9, c9, em9, _⟩ := w9.md
        refine ⟨m, dm9, _, .ref C, rfl, em9, O.ti g51, O.fC, ⟨m, dm9, _, joined (drawn ws ys bs), .ref m2, rfl, em9, rfl, .inr ⟨m2, dm2, _, joined xs, .ref C, rfl, g51, rfl, O.ti g51, O.cC, fun H10 s10 => ?_⟩⟩⟩
        refine ⟨_, rfl, _, rfl, rfl, rfl, _, rfl, ?_⟩
        refine ite2 (fun z => ?_) (fun _ => ?_)
        · have z' : (!decide (V.bl (decide (joined (drawn ws ys bs) = joined xs)) = V.bl (decide (V.str (joined xs) = V.str (joined (drawn ws ys bs)))))) = true := z
          have ee : decide (joined (drawn ws ys bs) = joined xs) = decide (V.str (joined xs) = V.str (joined (drawn ws ys bs))) := decide_eq_decide.mpr ⟨fun q => congrArg V.str q.symm, fun q => (V.str.inj q).symm⟩
          rw [ee, decide_eq_true rfl] at z'
          exact absurd z' (by decide)
        · exact ⟨_, _, _, rfl, w9.same s10⟩
    · rintro σ H4 ⟨v5, v6, v7, rfl, w4⟩
      refine ⟨1, rfl, (by show 0 ≤ sizeLine; decide), fun q1 y1 => ⟨(by show 0 ≤ sizeLine; decide), fun q2 y2 => fun q3 y3 => ⟨.str (joined (drawn ws ys bs)), rfl, (by show 1 ≤ sizeLine; decide), fun q4 y4 => ⟨.str (joined (drawn ws ys bs)), rfl, (by show 1 ≤ sizeLine; decide), fun q5 y5 => fun q6 y6 => ?_⟩⟩⟩⟩
      refine ⟨.str (joined (drawn ws ys bs)), rfl, upd_same, [(.inr "text", .str (joined (drawn ws ys bs)))], rfl, (by show 1 ≤ 15; decide), ?_⟩
      rw [upd_upd]
      refine ⟨.ref L, rfl, L, _, rfl, .inl ⟨SqL.of ((((((w4.new y1).new y2).new y3).new y4).new y5).new y6).hL, fun q7 y7 => ?_⟩⟩
      refine ⟨.ref L, rfl, .ref m, rfl, (by show 13 ≤ sizeLine; decide), fun q8 y8 => ?_⟩
      obtain ⟨dm4, a4, b4, c4, em4, _⟩ := w4.md
      dsimp only [gName, tRet, tCB, tCons, List.map]
      refine odd_all (K := K) (q := q8) (xs := oddL q1 q2 q3 q4 q5 q6 q7 L m) ?_ upd_same (odd_ns O (get_new (get_new (get_new (get_new (get_new (get_new (get_new (upd_same) y2) y3) y4) y5) y6) y7) y8) (get_new (get_new (get_new (get_new (get_new (get_new (upd_same) y3) y4) y5) y6) y7) y8) (get_new (get_new (get_new (get_new (get_new (upd_same) y4) y5) y6) y7) y8) (get_new (get_new (get_new (get_new (upd_same) y5) y6) y7) y8) (get_new (get_new (get_new (upd_same) y6) y7) y8) (get_new (get_new (upd_same) y7) y8) (get_new (upd_same) y8) (get_new (get_new (get_new (get_new (get_new (get_new (get_new (get_new (w4.hL) y1) y2) y3) y4) y5) y6) y7) y8) (get_new (get_new (get_new (get_new (get_new (get_new (get_new (get_new (em4) y1) y2) y3) y4) y5) y6) y7) y8)) (by show 13 ≤ 100; decide) ?_ ?_ ?_
      · rfl
      · exact fun _ => rfl
      · intro x H5 R ns kk
        refine ⟨_, rfl, x, rfl, .inl ⟨ns, fun H6 p s6 np hp => ?_⟩⟩
        refine ⟨1, rfl, (by show 2 ≤ sizeLine; decide), fun p2 np2 => ?_⟩
        refine ⟨.tuple [.str "text", .int (-1)], .tuple [.str "text", .int (-1)], .tup (SqT.of (get_new hp np2)) (.cons (.str _) (.cons (.int _) .nil)), .tup (SqT.of upd_same) (.cons (.str _) (.cons (.int _) .nil)), by decide +kernel, by decide +kernel, ?_⟩
        have ev : PyData.eqv (.tuple [.str "text", .int (-1)]) (.tuple [.str "text", .int (-1)]) = true := by decide +kernel
        rw [ev]
        exact kk _ (s6.trans (same_upd np2))
      · intro D H5 s5 hD
        refine ⟨D, List.replicate 13 true, rfl, SqL.of hD, ?_⟩
        have w8 := ((((((((w4.new y1).new y2).new y3).new y4).new y5).new y6).new y7).new y8).same s5
        exact k H5 (w8.jar.mono (by omega)) w8.keep
end
end K08

set_option Elab.async false
set_option linter.all false
namespace K08
open PySem L2
abbrev sLaw : Stmt := top 28
structure Txt7 (K : PySem.W.Frag) (mg : Str → Option Value) : Prop extends Txt6 K mg where
  max : mg "max" = none
  min : mg "min" = none
theorem seq_over {K : PySem.W.Frag} {H H5 H6 : Hp} {p a : Addr} {xs : List V} (s : Same H H5) (hp : H p = none) (k : Keep p H5 H6) (q : SqL K H a xs) : SqL K H6 a xs := by
  rcases q with (q | ⟨o, q⟩) | q
  · exact .inl (.inl (k _ _ (ne_of_none q hp) (s _ _ q)))
  · exact .inl (.inr ⟨o, k _ _ (ne_of_none q hp) (s _ _ q)⟩)
  · exact .inr q
section
variable {base : Heap} {P : Program} {w : World} {K : PySem.W.Frag} {mg : Str → Option Value}
def spLaw (K : PySem.W.Frag) : Sp := (fun vs H Q _ => ∃ (a : Addr) (ns : List Int), vs = [.ref a] ∧ SqL K H a (ns.map V.int) ∧ ns.length ≤ 63 ∧ ∀ H', Q (.bl true) H')
abbrev nLaw : List Str := ["_law_script", "_law_k", "_law_jar_here", "_law_turn"]
theorem scLaw : FnScope nLaw ["_law_script"] (defScope sLaw) := ⟨rfl, rfl, rfl, by decide +kernel, rfl, by decide +kernel, by decide +kernel⟩
theorem ok_law {f : Addr} {fd : FuncData} (F : Fun K "law" "law" sLaw f fd) (T : Txt7 K mg) (GJ : Has P w K mg base "_law_jar" 1 ["_law_script", "_law_k"] (spJar K)) (GR : HasG P w K mg base "_law_right" 7 ["_law_jar_here"] spRight) : FnG P w K mg base 8 f fd ["_law_script"] (spLaw K) := by
  refine K08.Fun.okG F scLaw (fun vs H Q E h => ?_) (fun cdv A outer s H vs Q E hgu hr h => ?_)
  · obtain ⟨a, ns, rfl, _⟩ := h
    rfl
  · obtain ⟨a, ns, rfl, hS, hn, k⟩ := h
    have r1 : Room 1 _ := hr.mono (by decide)
    refine ⟨_, pss_cons (ps_for PassesOwn.never rfl (pi_range1 (by rfl) T.range (pa_cons (pe_callB (call_max2 rfl) (by rfl) T.max (by decide +kernel) (pa_cons pe_int (pa_cons (pe_callB (call_min2 rfl) (by rfl) T.min (by decide +kernel)
          (pa_cons pe_int (pa_cons (pe_callB call_len_seq (by rfl) T.len PySem.boot_len (pa_cons (pv 0) pa_nil)) pa_nil))) pa_nil))) pa_nil)) (pg_name (i := 1) scLaw.nd rfl (.inl rfl))
        (pss_cons (ps_set (i := 2) scLaw.nd rfl (.inr rfl) (pe_has GJ r1 (pa_cons (pv 0) (pa_cons (pv 1) pa_nil))))
        (pss_one (ps_if (pt_not (pt_val (pe_callB (cr_all rfl) (by rfl) T.all (by decide +kernel) (pa_cons (pe_lc (own := [("_law_turn", 3)]) (g := gName 3) (tt := tYes) rfl scLaw.nd (pi_range1 (by rfl) T.range (pa_cons pe_int pa_nil))
          (blkOk_by (N := nLaw) (sc := defScope sLaw) (by decide +kernel)) (fun _ _ _ _ _ => pg_name (i := 3) scLaw.nd rfl (Or.inl rfl)) (fun _ _ _ _ _ => pts_nil)
          (fun _ _ _ _ _ => pe_hasG GR hgu hr (pa_cons (pv 2) pa_nil))) pa_nil)))) (pss_one (ps_ret pe_bl)) pss_nil))))
      (pss_one (ps_ret pe_bl)), ?_⟩
    refine ⟨.ref a, rfl, a, _, rfl, .inl hS, ?_⟩
    refine ⟨3, _, rfl, 1, _, rfl, ?_⟩
    rw [List.length_map]
    obtain ⟨N, hN, N3⟩ : ∃ N : Nat, (if (if (ns.length : Int) < 3 then (ns.length : Int) else 3) > 1 then (if (ns.length : Int) < 3 then (ns.length : Int) else 3) else 1) = (N : Int) ∧ N ≤ 3 := by
      by_cases c : (ns.length : Int) < 3
      · rw [if_pos c]
        by_cases c2 : (ns.length : Int) > 1
        · rw [if_pos c2]
          exact ⟨ns.length, rfl, by omega⟩
        · rw [if_neg c2]
          exact ⟨1, rfl, by decide⟩
      · rw [if_neg c, if_pos (by decide)]
        exact ⟨3, rfl, by decide⟩
    rw [hN]
    refine ⟨_, rfl, by omega, by omega, for_range (lo := 0) (n := ((N : Nat) : Int).toNat) (fun i σ H' => ∃ v1 v2 v3 : Option V, σ = [some (.ref a), v1, v2, v3] ∧ SqL K H' a (ns.map V.int)) ⟨_, _, _, rfl, hS⟩ ?_ ?_⟩
    · rintro i σ H4 hi ⟨v1, v2, v3, rfl, h4⟩
      refine ⟨.ref a, rfl, .int (0 + (i : Int)), rfl, a, ns, 0 + (i : Int), rfl, h4, by omega, by omega, fun p H5 np s5 hj5 => ?_⟩
      refine ⟨_, rfl, by decide, by decide, fun D nD => ?_⟩
      have nDp := hj5.ne nD
      refine lc_range (lo := 0) (n := 5) (fun t H6 => Jar H6 p (200 * t) ∧ Keep p H5 H6 ∧ H6 D = some (.lst (List.replicate t (V.bl true)))) ⟨hj5.upd nDp, Keep.new nD, upd_same⟩ ?_ ?_
      · rintro t H6 ht ⟨hj6, kp6, hD⟩
        refine ⟨rfl, .ref p, rfl, p, 200 * t, rfl, hj6, by omega, fun H7 hj7 kp7 => ?_⟩
        refine ⟨_, kp7 _ _ nDp hD, by rw [List.length_replicate]; exact small1000 (by omega), (hj7.upd nDp).mono (by omega), (kp6.trans kp7).upd_new nD, ?_⟩
        rw [upd_same, List.replicate_succ']
      · rintro H6 ⟨hj6, kp6, hD⟩
        refine ⟨D, List.replicate 5 true, rfl, SqL.of hD, _, rfl, ?_⟩
        refine ite2 (fun z => absurd z (by decide)) (fun _ => ?_)
        exact ⟨_, _, _, rfl, seq_over s5 np kp6 h4⟩
    · rintro σ H4 ⟨v1, v2, v3, rfl, h4⟩
      exact k H4
end
end K08

set_option Elab.async false
set_option linter.all false
namespace K08
open L2 PySem PySem.W PyProof.Rows
theorem all_mk {P : Program} {w : World} {K : PySem.W.Frag} {h : Heap} {mg : Str → Option Value} {fa : Addr} (X : K.In h) (G : h.Ns mainGlobals mg) (hfa : mg "law" = some (.ref fa))
    {f6 : Addr} {od6 an6 : Option Addr} {sl6 : Array (Option Value)} {oc6 kV6 dc6 pm6 cd6 ct6 : Value}
    {f7 : Addr} {od7 an7 : Option Addr} {sl7 : Array (Option Value)} {oc7 kV7 dc7 pm7 cd7 ct7 : Value}
    {f8 : Addr} {od8 an8 : Option Addr} {sl8 : Array (Option Value)} {oc8 kV8 dc8 pm8 cd8 ct8 : Value}
    {f13 : Addr} {od13 an13 : Option Addr} {sl13 : Array (Option Value)} {oc13 kV13 dc13 pm13 cd13 ct13 : Value}
    {f14 : Addr} {od14 an14 : Option Addr} {sl14 : Array (Option Value)} {oc14 kV14 dc14 pm14 cd14 ct14 : Value}
    {f16 : Addr} {od16 an16 : Option Addr} {sl16 : Array (Option Value)} {oc16 kV16 dc16 pm16 cd16 ct16 : Value}
    {f17 : Addr} {od17 an17 : Option Addr} {sl17 : Array (Option Value)} {oc17 kV17 dc17 pm17 cd17 ct17 : Value}
    {f18 : Addr} {od18 an18 : Option Addr} {sl18 : Array (Option Value)} {oc18 kV18 dc18 pm18 cd18 ct18 : Value}
    {f19 : Addr} {od19 an19 : Option Addr} {sl19 : Array (Option Value)} {oc19 kV19 dc19 pm19 cd19 ct19 : Value}
    {f20 : Addr} {od20 an20 : Option Addr} {sl20 : Array (Option Value)} {oc20 kV20 dc20 pm20 cd20 ct20 : Value}
    {f21 : Addr} {od21 an21 : Option Addr} {sl21 : Array (Option Value)} {oc21 kV21 dc21 pm21 cd21 ct21 : Value}
    {f22 : Addr} {od22 an22 : Option Addr} {sl22 : Array (Option Value)} {oc22 kV22 dc22 pm22 cd22 ct22 : Value}
    {f23 : Addr} {od23 an23 : Option Addr} {sl23 : Array (Option Value)} {oc23 kV23 dc23 pm23 cd23 ct23 : Value}
    {f24 : Addr} {od24 an24 : Option Addr} {sl24 : Array (Option Value)} {oc24 kV24 dc24 pm24 cd24 ct24 : Value}
    {f25 : Addr} {od25 an25 : Option Addr} {sl25 : Array (Option Value)} {oc25 kV25 dc25 pm25 cd25 ct25 : Value}
    {f26 : Addr} {od26 an26 : Option Addr} {sl26 : Array (Option Value)} {oc26 kV26 dc26 pm26 cd26 ct26 : Value}
    {f27 : Addr} {od27 an27 : Option Addr} {sl27 : Array (Option Value)} {oc27 kV27 dc27 pm27 cd27 ct27 : Value}
    {f28 : Addr} {od28 an28 : Option Addr} {sl28 : Array (Option Value)} {oc28 kV28 dc28 pm28 cd28 ct28 : Value}
    {CS CB C pW pp1 pp2 pp3 pp4 : Addr} {tL t8 t4 : Tok}
    {rr1 rr2 rr3 rr4 : List Value}
    {fE : Addr} {odE anE : Option Addr} {slE : Array (Option Value)} {ocE kVE dcE pmE cdE ctE : Value}
    {fP : Addr} {odP anP : Option Addr} {slP : Array (Option Value)} {ocP kVP dcP pmP cdP ctP : Value}
    {fG1 : Addr} {odG1 anG1 : Option Addr} {slG1 : Array (Option Value)} {ocG1 kVG1 dcG1 pmG1 cdG1 ctG1 : Value}
    {fG2 : Addr} {odG2 anG2 : Option Addr} {slG2 : Array (Option Value)} {ocG2 kVG2 dcG2 pmG2 cdG2 ctG2 : Value}
    {fG3 : Addr} {odG3 anG3 : Option Addr} {slG3 : Array (Option Value)} {ocG3 kVG3 dcG3 pmG3 cdG3 ctG3 : Value}
    {fG4 : Addr} {odG4 anG4 : Option Addr} {slG4 : Array (Option Value)} {ocG4 kVG4 dcG4 pmG4 cdG4 ctG4 : Value}
    {fQ : Addr} {odQ anQ : Option Addr} {slQ : Array (Option Value)} {ocQ kVQ dcQ pmQ cdQ ctQ : Value}
    {w1 w2 w3 w4 : Tok} {odW : Option Addr} {nW : Nat} {slW : Array (Option Value)}
    (a6 : PySem.W.nsIn K mainGlobals "lines_of" = some (some (.ref f6)))
    (l6 : K.lookup f6 = some ⟨oc6, od6, .func (PySem.W.fnOf "lines_of" "lines_of" (defArgs (top 6)) (defBody (top 6)) (defScope (top 6)) .none kV6 dc6 pm6 an6 cd6 ct6), sl6⟩)
    (c6 : PySem.W.codeIn K cd6 "lines_of" = true)
    (k6 : PySem.W.keepIn K (.ref f6) = true)
    (a7 : PySem.W.nsIn K mainGlobals "words_of" = some (some (.ref f7)))
    (l7 : K.lookup f7 = some ⟨oc7, od7, .func (PySem.W.fnOf "words_of" "words_of" (defArgs (top 7)) (defBody (top 7)) (defScope (top 7)) .none kV7 dc7 pm7 an7 cd7 ct7), sl7⟩)
    (c7 : PySem.W.codeIn K cd7 "words_of" = true)
    (k7 : PySem.W.keepIn K (.ref f7) = true)
    (a8 : PySem.W.nsIn K mainGlobals "is_name" = some (some (.ref f8)))
    (l8 : K.lookup f8 = some ⟨oc8, od8, .func (PySem.W.fnOf "is_name" "is_name" (defArgs (top 8)) (defBody (top 8)) (defScope (top 8)) .none kV8 dc8 pm8 an8 cd8 ct8), sl8⟩)
    (c8 : PySem.W.codeIn K cd8 "is_name" = true)
    (k8 : PySem.W.keepIn K (.ref f8) = true)
    (a13 : PySem.W.nsIn K mainGlobals "part_of" = some (some (.ref f13)))
    (l13 : K.lookup f13 = some ⟨oc13, od13, .func (PySem.W.fnOf "part_of" "part_of" (defArgs (top 13)) (defBody (top 13)) (defScope (top 13)) .none kV13 dc13 pm13 an13 cd13 ct13), sl13⟩)
    (c13 : PySem.W.codeIn K cd13 "part_of" = true)
    (k13 : PySem.W.keepIn K (.ref f13) = true)
    (a14 : PySem.W.nsIn K mainGlobals "read_parts" = some (some (.ref f14)))
    (l14 : K.lookup f14 = some ⟨oc14, od14, .func (PySem.W.fnOf "read_parts" "read_parts" (defArgs (top 14)) (defBody (top 14)) (defScope (top 14)) .none kV14 dc14 pm14 an14 cd14 ct14), sl14⟩)
    (c14 : PySem.W.codeIn K cd14 "read_parts" = true)
    (k14 : PySem.W.keepIn K (.ref f14) = true)
    (a16 : PySem.W.nsIn K mainGlobals "_law_jar" = some (some (.ref f16)))
    (l16 : K.lookup f16 = some ⟨oc16, od16, .func (PySem.W.fnOf "_law_jar" "_law_jar" (defArgs (top 16)) (defBody (top 16)) (defScope (top 16)) .none kV16 dc16 pm16 an16 cd16 ct16), sl16⟩)
    (c16 : PySem.W.codeIn K cd16 "_law_jar" = true)
    (k16 : PySem.W.keepIn K (.ref f16) = true)
    (a17 : PySem.W.nsIn K mainGlobals "_law_take" = some (some (.ref f17)))
    (l17 : K.lookup f17 = some ⟨oc17, od17, .func (PySem.W.fnOf "_law_take" "_law_take" (defArgs (top 17)) (defBody (top 17)) (defScope (top 17)) .none kV17 dc17 pm17 an17 cd17 ct17), sl17⟩)
    (c17 : PySem.W.codeIn K cd17 "_law_take" = true)
    (k17 : PySem.W.keepIn K (.ref f17) = true)
    (a18 : PySem.W.nsIn K mainGlobals "_law_of" = some (some (.ref f18)))
    (l18 : K.lookup f18 = some ⟨oc18, od18, .func (PySem.W.fnOf "_law_of" "_law_of" (defArgs (top 18)) (defBody (top 18)) (defScope (top 18)) .none kV18 dc18 pm18 an18 cd18 ct18), sl18⟩)
    (c18 : PySem.W.codeIn K cd18 "_law_of" = true)
    (k18 : PySem.W.keepIn K (.ref f18) = true)
    (a19 : PySem.W.nsIn K mainGlobals "_law_names" = some (some (.ref f19)))
    (l19 : K.lookup f19 = some ⟨oc19, od19, .func (PySem.W.fnOf "_law_names" "_law_names" (defArgs (top 19)) (defBody (top 19)) (defScope (top 19)) .none kV19 dc19 pm19 an19 cd19 ct19), sl19⟩)
    (c19 : PySem.W.codeIn K cd19 "_law_names" = true)
    (k19 : PySem.W.keepIn K (.ref f19) = true)
    (a20 : PySem.W.nsIn K mainGlobals "_law_plan" = some (some (.ref f20)))
    (l20 : K.lookup f20 = some ⟨oc20, od20, .func (PySem.W.fnOf "_law_plan" "_law_plan" (defArgs (top 20)) (defBody (top 20)) (defScope (top 20)) .none kV20 dc20 pm20 an20 cd20 ct20), sl20⟩)
    (c20 : PySem.W.codeIn K cd20 "_law_plan" = true)
    (k20 : PySem.W.keepIn K (.ref f20) = true)
    (a21 : PySem.W.nsIn K mainGlobals "_law_plan_lines" = some (some (.ref f21)))
    (l21 : K.lookup f21 = some ⟨oc21, od21, .func (PySem.W.fnOf "_law_plan_lines" "_law_plan_lines" (defArgs (top 21)) (defBody (top 21)) (defScope (top 21)) .none kV21 dc21 pm21 an21 cd21 ct21), sl21⟩)
    (c21 : PySem.W.codeIn K cd21 "_law_plan_lines" = true)
    (k21 : PySem.W.keepIn K (.ref f21) = true)
    (a22 : PySem.W.nsIn K mainGlobals "_law_is_name" = some (some (.ref f22)))
    (l22 : K.lookup f22 = some ⟨oc22, od22, .func (PySem.W.fnOf "_law_is_name" "_law_is_name" (defArgs (top 22)) (defBody (top 22)) (defScope (top 22)) .none kV22 dc22 pm22 an22 cd22 ct22), sl22⟩)
    (c22 : PySem.W.codeIn K cd22 "_law_is_name" = true)
    (k22 : PySem.W.keepIn K (.ref f22) = true)
    (a23 : PySem.W.nsIn K mainGlobals "_law_wrong" = some (some (.ref f23)))
    (l23 : K.lookup f23 = some ⟨oc23, od23, .func (PySem.W.fnOf "_law_wrong" "_law_wrong" (defArgs (top 23)) (defBody (top 23)) (defScope (top 23)) .none kV23 dc23 pm23 an23 cd23 ct23), sl23⟩)
    (c23 : PySem.W.codeIn K cd23 "_law_wrong" = true)
    (k23 : PySem.W.keepIn K (.ref f23) = true)
    (a24 : PySem.W.nsIn K mainGlobals "_law_line" = some (some (.ref f24)))
    (l24 : K.lookup f24 = some ⟨oc24, od24, .func (PySem.W.fnOf "_law_line" "_law_line" (defArgs (top 24)) (defBody (top 24)) (defScope (top 24)) .none kV24 dc24 pm24 an24 cd24 ct24), sl24⟩)
    (c24 : PySem.W.codeIn K cd24 "_law_line" = true)
    (k24 : PySem.W.keepIn K (.ref f24) = true)
    (a25 : PySem.W.nsIn K mainGlobals "_law_otherwise" = some (some (.ref f25)))
    (l25 : K.lookup f25 = some ⟨oc25, od25, .func (PySem.W.fnOf "_law_otherwise" "_law_otherwise" (defArgs (top 25)) (defBody (top 25)) (defScope (top 25)) .none kV25 dc25 pm25 an25 cd25 ct25), sl25⟩)
    (c25 : PySem.W.codeIn K cd25 "_law_otherwise" = true)
    (k25 : PySem.W.keepIn K (.ref f25) = true)
    (a26 : PySem.W.nsIn K mainGlobals "_law_heard" = some (some (.ref f26)))
    (l26 : K.lookup f26 = some ⟨oc26, od26, .func (PySem.W.fnOf "_law_heard" "_law_heard" (defArgs (top 26)) (defBody (top 26)) (defScope (top 26)) .none kV26 dc26 pm26 an26 cd26 ct26), sl26⟩)
    (c26 : PySem.W.codeIn K cd26 "_law_heard" = true)
    (k26 : PySem.W.keepIn K (.ref f26) = true)
    (a27 : PySem.W.nsIn K mainGlobals "_law_right" = some (some (.ref f27)))
    (l27 : K.lookup f27 = some ⟨oc27, od27, .func (PySem.W.fnOf "_law_right" "_law_right" (defArgs (top 27)) (defBody (top 27)) (defScope (top 27)) .none kV27 dc27 pm27 an27 cd27 ct27), sl27⟩)
    (c27 : PySem.W.codeIn K cd27 "_law_right" = true)
    (k27 : PySem.W.keepIn K (.ref f27) = true)
    (a28 : PySem.W.nsIn K mainGlobals "law" = some (some (.ref f28)))
    (l28 : K.lookup f28 = some ⟨oc28, od28, .func (PySem.W.fnOf "law" "law" (defArgs (top 28)) (defBody (top 28)) (defScope (top 28)) .none kV28 dc28 pm28 an28 cd28 ct28), sl28⟩)
    (c28 : PySem.W.codeIn K cd28 "law" = true)
    (k28 : PySem.W.keepIn K (.ref f28) = true)
    (nCS : PySem.W.nsIn K mainGlobals "SettledError" = some (some (.ref CS)))
    (nCB : PySem.W.nsIn K mainGlobals "BadText" = some (some (.ref CB)))
    (nC : PySem.W.nsIn K mainGlobals "Plan" = some (some (.ref C)))
    (eE : PySem.W.findIn K (.ref CB) "__init__" = some (some (.ref fE)))
    (tE : PySem.W.typeIn K (.ref fE) = some (.type "function"))
    (eP : PySem.W.findIn K (.ref C) "__init__" = some (some (.ref fP)))
    (iP : PySem.W.isFn K (.ref fP) = true)
    (eQ : PySem.W.findIn K (.ref C) "__eq__" = some (some (.ref fQ)))
    (iQ : PySem.W.isFn K (.ref fQ) = true)
    (pa1 : PySem.W.findIn K (.ref C) "text" = some (some (.ref pp1)))
    (pg1 : PySem.W.specialIn K (.ref pp1) "__get__" = some (some (.builtin "property.__get__")))
    (pt1 : PySem.W.takesIn K (.ref pp1) = some true)
    (pr1 : PySem.W.recIn K pp1 "property" = some (.ref fG1 :: rr1))
    (pa2 : PySem.W.findIn K (.ref C) "parts" = some (some (.ref pp2)))
    (pg2 : PySem.W.specialIn K (.ref pp2) "__get__" = some (some (.builtin "property.__get__")))
    (pt2 : PySem.W.takesIn K (.ref pp2) = some true)
    (pr2 : PySem.W.recIn K pp2 "property" = some (.ref fG2 :: rr2))
    (pa3 : PySem.W.findIn K (.ref C) "ways" = some (some (.ref pp3)))
    (pg3 : PySem.W.specialIn K (.ref pp3) "__get__" = some (some (.builtin "property.__get__")))
    (pt3 : PySem.W.takesIn K (.ref pp3) = some true)
    (pr3 : PySem.W.recIn K pp3 "property" = some (.ref fG3 :: rr3))
    (pa4 : PySem.W.findIn K (.ref C) "takes" = some (some (.ref pp4)))
    (pg4 : PySem.W.specialIn K (.ref pp4) "__get__" = some (some (.builtin "property.__get__")))
    (pt4 : PySem.W.takesIn K (.ref pp4) = some true)
    (pr4 : PySem.W.recIn K pp4 "property" = some (.ref fG4 :: rr4))
    (lE : K.lookup fE = some ⟨ocE, odE, .func (PySem.W.fnOf "__init__" "SettledError.__init__" (defArgs (inClass (top 1) 0)) (defBody (inClass (top 1) 0)) (defScope (inClass (top 1) 0)) .none kVE dcE pmE anE cdE ctE), slE⟩)
    (cE : PySem.W.codeIn K cdE "SettledError.__init__" = true)
    (kE : PySem.W.keepIn K (.ref fE) = true)
    (lP : K.lookup fP = some ⟨ocP, odP, .func (PySem.W.fnOf "__init__" "Plan.__init__" (defArgs (inClass (top 12) 0)) (defBody (inClass (top 12) 0)) (defScope (inClass (top 12) 0)) .none kVP dcP pmP anP cdP ctP), slP⟩)
    (cP : PySem.W.codeIn K cdP "Plan.__init__" = true)
    (kP : PySem.W.keepIn K (.ref fP) = true)
    (lG1 : K.lookup fG1 = some ⟨ocG1, odG1, .func (PySem.W.fnOf "text" "Plan.text" (defArgs (inClass (top 12) 1)) (defBody (inClass (top 12) 1)) (defScope (inClass (top 12) 1)) .none kVG1 dcG1 pmG1 anG1 cdG1 ctG1), slG1⟩)
    (cG1 : PySem.W.codeIn K cdG1 "Plan.text" = true)
    (kG1 : PySem.W.keepIn K (.ref fG1) = true)
    (lG2 : K.lookup fG2 = some ⟨ocG2, odG2, .func (PySem.W.fnOf "parts" "Plan.parts" (defArgs (inClass (top 12) 2)) (defBody (inClass (top 12) 2)) (defScope (inClass (top 12) 2)) .none kVG2 dcG2 pmG2 anG2 cdG2 ctG2), slG2⟩)
    (cG2 : PySem.W.codeIn K cdG2 "Plan.parts" = true)
    (kG2 : PySem.W.keepIn K (.ref fG2) = true)
    (lG3 : K.lookup fG3 = some ⟨ocG3, odG3, .func (PySem.W.fnOf "ways" "Plan.ways" (defArgs (inClass (top 12) 3)) (defBody (inClass (top 12) 3)) (defScope (inClass (top 12) 3)) .none kVG3 dcG3 pmG3 anG3 cdG3 ctG3), slG3⟩)
    (cG3 : PySem.W.codeIn K cdG3 "Plan.ways" = true)
    (kG3 : PySem.W.keepIn K (.ref fG3) = true)
    (lG4 : K.lookup fG4 = some ⟨ocG4, odG4, .func (PySem.W.fnOf "takes" "Plan.takes" (defArgs (inClass (top 12) 4)) (defBody (inClass (top 12) 4)) (defScope (inClass (top 12) 4)) .none kVG4 dcG4 pmG4 anG4 cdG4 ctG4), slG4⟩)
    (cG4 : PySem.W.codeIn K cdG4 "Plan.takes" = true)
    (kG4 : PySem.W.keepIn K (.ref fG4) = true)
    (lQ : K.lookup fQ = some ⟨ocQ, odQ, .func (PySem.W.fnOf "__eq__" "Plan.__eq__" (defArgs (inClass (top 12) 5)) (defBody (inClass (top 12) 5)) (defScope (inClass (top 12) 5)) .none kVQ dcQ pmQ anQ cdQ ctQ), slQ⟩)
    (cQ : PySem.W.codeIn K cdQ "Plan.__eq__" = true)
    (kQ : PySem.W.keepIn K (.ref fQ) = true)
    (cpg : PySem.W.plainGet K C Str.empty = true)
    (chd : PySem.W.hasDictIn K C = true)
    (cpo : PySem.W.plainOver K C = true)
    (csa : PySem.W.findIn K (.ref C) "__setattr__" = some (some (.builtin "object.__setattr__")))
    (cmk : PySem.W.makesIn K C = true)
    (ckp : PySem.W.keepIn K (.ref C) = true)
    (z1 : PySem.W.findIn K (.ref C) "_text" = some none)
    (z2 : PySem.W.findIn K (.ref C) "_parts" = some none)
    (z3 : PySem.W.findIn K (.ref C) "_ways" = some none)
    (z4 : PySem.W.findIn K (.ref C) "_takes" = some none)
    (cha : PySem.W.findIn K (.ref C) "__class__" = some (some (.builtin "object.__class__")))
    (chn : PySem.W.specialIn K (.builtin "object.__class__") "__get__" = some (some (.builtin "getset_descriptor.__get__")))
    (cht : PySem.W.takesIn K (.builtin "object.__class__") = some true)
    (chm : PySem.W.mroIn K C (.type "object") = some true)
    (o1 : PySem.W.kitOne K (.ref C) (.type "str") = some false)
    (o2 : PySem.W.kitOne K (.type "str") (.ref C) = some false)
    (o3 : PySem.W.kitOne K (.type "tuple") (.ref C) = some false)
    (o4 : PySem.W.kitOne K (.type "NoneType") (.ref C) = some false)
    (o5 : PySem.W.kitOne K (.ref C) (.ref C) = some true)
    (m1 : PySem.W.notFirst K C (.type "str") = true)
    (m2 : PySem.W.notFirst K C (.type "tuple") = true)
    (m3 : PySem.W.notFirst K C (.type "NoneType") = true)
    (m4 : PySem.W.notFirst K C (.ref C) = true)
    (xsa : PySem.W.findIn K (.ref CB) "__setattr__" = some (some (.builtin "object.__setattr__")))
    (xex : PySem.W.subIn K (.ref CB) (.type "BaseException") = some true)
    (xty : PySem.W.typeIn K (.ref CB) = some (.type "type"))
    (xkp : PySem.W.keepIn K (.ref CB) = true)
    (xnv : PySem.W.findIn K (.ref CB) "value" = some none)
    (xte : PySem.W.exmOne K (.ref CB) (.ref CS) = some true)
    (xk1 : PySem.W.kitOne K (.ref CB) (.ref CB) = some true)
    (xk2 : PySem.W.kitOne K (.ref CB) (.type "ValueError") = some true)
    (xga : PySem.W.findIn K (.ref CB) "__getattribute__" = some (some (.builtin "BaseException.__getattribute__")))
    (xgg : PySem.W.findIn K (.ref CB) "__getattr__" = some none)
    (xhd : PySem.W.hasDictIn K CB = true)
    (xha : PySem.W.findIn K (.ref CB) "__class__" = some (some (.builtin "object.__class__")))
    (xhm : PySem.W.mroIn K CB (.type "object") = some true)
    (gL : PySem.W.nsIn K mainGlobals "LETTERS" = some (some (.str (PySem.Str.ofString "abcdefghijklmnopqrstuvwxyz") tL)))
    (g8 : PySem.W.nsIn K mainGlobals "LONGEST_NAME" = some (some (.int 8 t8)))
    (g4 : PySem.W.nsIn K mainGlobals "MOST_PARTS" = some (some (.int 4 t4)))
    (gW : PySem.W.nsIn K mainGlobals "WAYS" = some (some (.ref pW)))
    (b_int : PySem.W.nsIn K mainGlobals "int" = some none)
    (b_abs : PySem.W.nsIn K mainGlobals "abs" = some none)
    (b_len : PySem.W.nsIn K mainGlobals "len" = some none)
    (b_range : PySem.W.nsIn K mainGlobals "range" = some none)
    (b_all : PySem.W.nsIn K mainGlobals "all" = some none)
    (b_isinstance : PySem.W.nsIn K mainGlobals "isinstance" = some none)
    (b_str : PySem.W.nsIn K mainGlobals "str" = some none)
    (b_enumerate : PySem.W.nsIn K mainGlobals "enumerate" = some none)
    (b_list : PySem.W.nsIn K mainGlobals "list" = some none)
    (b_zip : PySem.W.nsIn K mainGlobals "zip" = some none)
    (b_repr : PySem.W.nsIn K mainGlobals "repr" = some none)
    (b_tuple : PySem.W.nsIn K mainGlobals "tuple" = some none)
    (b_max : PySem.W.nsIn K mainGlobals "max" = some none)
    (b_min : PySem.W.nsIn K mainGlobals "min" = some none)
    (b_ValueError : PySem.W.nsIn K mainGlobals "ValueError" = some none)
    (xcl : ∃ nm q N bs bm sn sub ab col dd k0 k1 k2 k3 k5, K.lookup CB = some (excClassObj nm q CB N bs bm true sn sub ab col dd k0 k1 k2 k3 k5 "ValueError.__new__") ∧ PySem.HandSPX.refsVE bm = true)
    (lW : K.lookup pW = some ⟨.type "tuple", odW, .seq #[.str (PySem.Str.ofString "fresh") w1, .str (PySem.Str.ofString "once") w2, .str (PySem.Str.ofString "handed") w3, .str (PySem.Str.ofString "kept") w4] nW, slW⟩)
    : ∃ fd : FuncData, (∀ (s : Shared) (v : Value), BindsTo s fd ⟨[v], []⟩ [("_law_script", v)]) ∧ ∀ base : Heap, K.In base → base.Ns mainGlobals mg → FnG P w K mg base 8 fa fd ["_law_script"] (spLaw K) := by
  have e := hfa.symm.trans (mg_of X G a28)
  cases e
  have wWs : SqT K (fun _ => none) pW ([.str "fresh", .str "once", .str "handed", .str "kept"] : List V) := .inr ⟨_, _, _, lW, rfl, rfl, by show 4 ≤ sizeLine; decide, .cons ⟨w1, rfl⟩ (.cons ⟨w2, rfl⟩ (.cons ⟨w3, rfl⟩ (.cons ⟨w4, rfl⟩ .nil)))⟩
  have T : Txt7 K mg := ⟨⟨⟨⟨⟨⟨⟨⟨mg_none_of X G b_int, mg_none_of X G b_abs, mg_none_of X G b_len⟩, mg_none_of X G b_range⟩, mg_none_of X G b_all, ⟨_, mg_of X G gL⟩, ⟨_, mg_of X G g8⟩, mg_none_of X G b_isinstance, mg_none_of X G b_str⟩, ⟨_, mg_of X G gW, wWs⟩⟩, mg_none_of X G b_enumerate, ⟨_, mg_of X G g4⟩⟩, mg_none_of X G b_list, mg_none_of X G b_zip⟩, mg_none_of X G b_repr, mg_none_of X G b_tuple⟩, mg_none_of X G b_max, mg_none_of X G b_min⟩
  have F28 := fun_mk (st := top 28) l28 c28 k28
  refine ⟨PySem.W.fnOf "law" "law" (defArgs (top 28)) (defBody (top 28)) (defScope (top 28)) .none kV28 dc28 pm28 an28 cd28 ct28, fun s v => .of_eq rfl, fun base _ _ => ?_⟩
  have F6 := fun_mk (st := top 6) l6 c6 k6
  have B6 := F6.binds (ps := ["text"]) fun _ _ _ _ _ _ us hl => match us, hl with | [_], _ => rfl
  have F7 := fun_mk (st := top 7) l7 c7 k7
  have B7 := F7.binds (ps := ["line"]) fun _ _ _ _ _ _ us hl => match us, hl with | [_], _ => rfl
  have F8 := fun_mk (st := top 8) l8 c8 k8
  have B8 := F8.binds (ps := ["word"]) fun _ _ _ _ _ _ us hl => match us, hl with | [_], _ => rfl
  have F13 := fun_mk (st := top 13) l13 c13 k13
  have B13 := F13.binds (ps := ["line"]) fun _ _ _ _ _ _ us hl => match us, hl with | [_], _ => rfl
  have F14 := fun_mk (st := top 14) l14 c14 k14
  have B14 := F14.binds (ps := ["lines"]) fun _ _ _ _ _ _ us hl => match us, hl with | [_], _ => rfl
  have F16 := fun_mk (st := top 16) l16 c16 k16
  have B16 := F16.binds (ps := ["_law_script", "_law_k"]) fun _ _ _ _ _ _ us hl => match us, hl with | [_, _], _ => rfl
  have F17 := fun_mk (st := top 17) l17 c17 k17
  have B17 := F17.binds (ps := ["_law_jar_here", "_law_many"]) fun _ _ _ _ _ _ us hl => match us, hl with | [_, _], _ => rfl
  have F18 := fun_mk (st := top 18) l18 c18 k18
  have B18 := F18.binds (ps := ["_law_jar_here", "_law_some"]) fun _ _ _ _ _ _ us hl => match us, hl with | [_, _], _ => rfl
  have F19 := fun_mk (st := top 19) l19 c19 k19
  have B19 := F19.binds (ps := ["_law_jar_here", "_law_many"]) fun _ _ _ _ _ _ us hl => match us, hl with | [_, _], _ => rfl
  have F20 := fun_mk (st := top 20) l20 c20 k20
  have B20 := F20.binds (ps := ["_law_jar_here", "_law_most"]) fun _ _ _ _ _ _ us hl => match us, hl with | [_, _], _ => rfl
  have F21 := fun_mk (st := top 21) l21 c21 k21
  have B21 := F21.binds (ps := ["_law_plan_here"]) fun _ _ _ _ _ _ us hl => match us, hl with | [_], _ => rfl
  have F22 := fun_mk (st := top 22) l22 c22 k22
  have B22 := F22.binds (ps := ["_law_word"]) fun _ _ _ _ _ _ us hl => match us, hl with | [_], _ => rfl
  have F23 := fun_mk (st := top 23) l23 c23 k23
  have B23 := F23.binds (ps := ["_law_text"]) fun _ _ _ _ _ _ us hl => match us, hl with | [_], _ => rfl
  have F24 := fun_mk (st := top 24) l24 c24 k24
  have B24 := F24.binds (ps := ["_law_jar_here", "_law_lines"]) fun _ _ _ _ _ _ us hl => match us, hl with | [_, _], _ => rfl
  have F25 := fun_mk (st := top 25) l25 c25 k25
  have B25 := F25.binds (ps := ["_law_jar_here", "_law_lines"]) fun _ _ _ _ _ _ us hl => match us, hl with | [_, _], _ => rfl
  have F26 := fun_mk (st := top 26) l26 c26 k26
  have B26 := F26.binds (ps := ["_law_thing"]) fun _ _ _ _ _ _ us hl => match us, hl with | [_], _ => rfl
  have F27 := fun_mk (st := top 27) l27 c27 k27
  have B27 := F27.binds (ps := ["_law_jar_here"]) fun _ _ _ _ _ _ us hl => match us, hl with | [_], _ => rfl
  have FE := fun_mk (st := inClass (top 1) 0) lE cE kE
  have BE := FE.binds (ps := ["self", "value"]) fun _ _ _ _ _ _ us hl => match us, hl with | [_, _], _ => rfl
  have FP := fun_mk (st := inClass (top 12) 0) lP cP kP
  have BP := FP.binds (ps := ["self", "text"]) fun _ _ _ _ _ _ us hl => match us, hl with | [_, _], _ => rfl
  have FG1 := fun_mk (st := inClass (top 12) 1) lG1 cG1 kG1
  have BG1 := FG1.binds (ps := ["self"]) fun _ _ _ _ _ _ us hl => match us, hl with | [_], _ => rfl
  have FG2 := fun_mk (st := inClass (top 12) 2) lG2 cG2 kG2
  have BG2 := FG2.binds (ps := ["self"]) fun _ _ _ _ _ _ us hl => match us, hl with | [_], _ => rfl
  have FG3 := fun_mk (st := inClass (top 12) 3) lG3 cG3 kG3
  have BG3 := FG3.binds (ps := ["self"]) fun _ _ _ _ _ _ us hl => match us, hl with | [_], _ => rfl
  have FG4 := fun_mk (st := inClass (top 12) 4) lG4 cG4 kG4
  have BG4 := FG4.binds (ps := ["self"]) fun _ _ _ _ _ _ us hl => match us, hl with | [_], _ => rfl
  have FQ := fun_mk (st := inClass (top 12) 5) lQ cQ kQ
  have BQ := FQ.binds (ps := ["self", "other"]) fun _ _ _ _ _ _ us hl => match us, hl with | [_, _], _ => rfl
  have TP0 : PlanT K mg C := ⟨⟨cpg, chd, cpo, csa⟩, mg_of X G nC, z1, z2, z3, z4, mg_none_of X G b_tuple, mg_none_of X G b_isinstance⟩
  have B : Err P w K mg base CB := ⟨⟨xcl, xsa, xex, xty, xkp⟩, mg_of X G nCB, xnv, _, _, eE, tE, ok_einit FE, BE⟩
  have Z : Caught K mg CS CB := ⟨mg_of X G nCS, xte, ⟨xga, xgg, xex, xhd, xha, chn, cht, xhm⟩, ⟨xga, xgg, xex, xhd⟩, xk1, xk2, mg_none_of X G b_ValueError⟩
  have HW : Has P w K mg base "words_of" 1 ["line"] spWords := ⟨_, _, ok_words F7, mg_of X G a7, k7, B7⟩
  have HN : Has P w K mg base "is_name" 1 ["word"] spName := ⟨_, _, ok_isName F8 T.toTxt2, mg_of X G a8, k8, B8⟩
  have HP : Has P w K mg base "part_of" 2 ["line"] spPart := ⟨_, _, ok_partOf F13 T.toTxt3 HW HN, mg_of X G a13, k13, B13⟩
  have HL : HasX P w K mg base "lines_of" 3 ["text"] (spLines K CB) := ⟨_, _, ok_lines F6 T.toTxt3 B, mg_of X G a6, k6, B6⟩
  have HR : HasX P w K mg base "read_parts" 3 ["lines"] (spRead K CB) := ⟨_, _, ok_read F14 T.toTxt4 B HP, mg_of X G a14, k14, B14⟩
  have TP : PlanC P w K mg base C CB := ⟨TP0, _, _, ⟨cmk, eP, iP, ckp⟩, ok_pinit FP TP0 HL HR, BP⟩
  have O : OddK P w K mg base C := ⟨o1, o2, o3, o4, o5, m1, m2, m3, m4, fun e => .base (.ins e TP0.cl cha chn cht chm), ⟨_, _, eQ, iQ, ok_peq FQ TP0, BQ⟩,
    ⟨_, _, _, ⟨pa1, pg1, pt1, _, pr1⟩, ok_get FG1 rfl rfl TP0.cl z1, BG1⟩, ⟨_, _, _, ⟨pa2, pg2, pt2, _, pr2⟩, ok_get FG2 rfl rfl TP0.cl z2, BG2⟩, ⟨_, _, _, ⟨pa3, pg3, pt3, _, pr3⟩, ok_get FG3 rfl rfl TP0.cl z3, BG3⟩, ⟨_, _, _, ⟨pa4, pg4, pt4, _, pr4⟩, ok_get FG4 rfl rfl TP0.cl z4, BG4⟩⟩
  have JT : jarTake P w K mg base := ⟨_, _, ok_take F17 T.toTxt0, mg_of X G a17, k17, B17⟩
  have JO : jarOf P w K mg base := ⟨_, _, ok_of F18 T.toTxt0 JT, mg_of X G a18, k18, B18⟩
  have JJ : Has P w K mg base "_law_jar" 1 ["_law_script", "_law_k"] (spJar K) := ⟨_, _, ok_jar F16 T.toTxt0, mg_of X G a16, k16, B16⟩
  have JN : Has P w K mg base "_law_names" 3 ["_law_jar_here", "_law_many"] spNames := ⟨_, _, ok_names F19 T.toTxt1 JT JO, mg_of X G a19, k19, B19⟩
  have JP : Has P w K mg base "_law_plan" 4 ["_law_jar_here", "_law_most"] spPlan := ⟨_, _, ok_plan F20 JN JT JO, mg_of X G a20, k20, B20⟩
  have JL : Has P w K mg base "_law_plan_lines" 1 ["_law_plan_here"] spPLines := ⟨_, _, ok_plines F21 T.toTxt5, mg_of X G a21, k21, B21⟩
  have JI : Has P w K mg base "_law_is_name" 1 ["_law_word"] spName := ⟨_, _, ok_lisName F22 T.toTxt2, mg_of X G a22, k22, B22⟩
  have JW : Has P w K mg base "_law_wrong" 2 ["_law_text"] spWrong := ⟨_, _, ok_wrong F23 T.toTxt4 JI, mg_of X G a23, k23, B23⟩
  have JLi : Has P w K mg base "_law_line" 3 ["_law_jar_here", "_law_lines"] spLine := ⟨_, _, ok_line F24 JO, mg_of X G a24, k24, B24⟩
  have JX : Has P w K mg base "_law_otherwise" 4 ["_law_jar_here", "_law_lines"] spOther := ⟨_, _, ok_other F25 T.toTxt0 JT JLi, mg_of X G a25, k25, B25⟩
  have JH : Has P w K mg base "_law_heard" 6 ["_law_thing"] (spHeard K) := ⟨_, _, ok_heard F26 TP B Z, mg_of X G a26, k26, B26⟩
  have JR : HasG P w K mg base "_law_right" 7 ["_law_jar_here"] spRight := ⟨_, _, ok_right F27 T.toTxt6 TP O JP JL JX JW JH, mg_of X G a27, k27, B27⟩
  exact ok_law F28 T JJ JR
end K08

set_option Elab.async false
set_option linter.all false
namespace K08
open L2 PySem PySem.W PyProof.Rows
/-! ### the law called where no repr runs -/
/-- from a heap that tracks the script at most -/
theorem call_from {P : Program} {w : World} {K : PySem.W.Frag} {mg mb : Str → Option Value} {k : Nat} {fa a : Addr} {fd : FuncData} {x : Str} {s₁ : Shared} {vs : List Value} {ns : List Int} {Ht : Hp}
    (inK : K.In s₁.heap) (gl : s₁.heap.Ns mainGlobals mg) (bt : s₁.heap.Ns builtinsNs mb) (bb : ∀ x : Str, x ≠ "__name__" → mb x = bootBuiltins x) (lim : s₁.heap.NoLimit) (gens : s₁.gens = #[])
    (ha : s₁.heap.get? a = some { cls := .type "list", data := .seq vs.toArray }) (room : Room k callerA)
    (F : ∀ base : Heap, K.In base → base.Ns mainGlobals mg → FnG P w K mg base k fa fd [x] (spLaw K)) (bind : ∀ (s : Shared) (u : Value), BindsTo s fd ⟨[u], []⟩ [(x, u)])
    (only : Only Ht) (seq : SqL K Ht a (ns.map V.int)) (few : ns.length ≤ 63) (hok : HOk P w Ht s₁.heap) (justA : ∀ b, Ht b ≠ none → b = a) (notK : Ht a ≠ none → K.lookup a = none) :
    codeAny (model P w) callerA (.call (.ref fa) ⟨[.ref a], []⟩) (fun rr s' => rr = .ok (.ret (.bool true)) ∧ OldK s₁.heap s'.heap ∧ s'.os = s₁.os ∧ AllBare s'.gens) s₁ := by
  have below : ∀ {b : Addr} {o : Obj}, s₁.heap.get? b = some o → Ht b = none → (hidT s₁.heap Ht).get? b = some o := fun {b o} e z => hidT_get e z
  have free : ∀ {b : Addr}, b ≠ a → Ht b = none := fun {b} n => by
    cases q : Ht b with
    | none => rfl
    | some u => exact absurd (justA b (by rw [q]; exact fun z => nomatch z)) n
  have notDict : ∀ {b : Addr} {o : Obj} {es : Array DictEntry} {ep : Nat}, s₁.heap.get? b = some o → o.data = .dict es ep → b ≠ a := fun {b o es ep} e d z => by
    rw [z, ha] at e
    cases e
    cases d
  have spaces : ∀ {b : Addr} {m : Str → Option Value}, s₁.heap.Ns b m → (hidT s₁.heap Ht).Ns b m := fun {b m} z => by
    obtain ⟨o, es, ep, e, d, r⟩ := z
    exact ⟨o, es, ep, below e (free (notDict e d)), d, r⟩
  have inB : K.In (hidT s₁.heap Ht) := fun b o e => below (inK b o e) (by
    cases q : Ht b with
    | none => rfl
    | some u =>
      have z : b = a := justA b (by rw [q]; exact fun y => nomatch y)
      have y := notK (by rw [← z, q]; exact fun y => nomatch y)
      rw [← z, e] at y
      cases y)
  have md : Mod K mg (hidT s₁.heap Ht) := by
    obtain ⟨mc, l1, l2⟩ := lim
    exact ⟨inB, spaces gl, ⟨mb, spaces bt, bb⟩, ⟨mc, spaces l1, l2⟩⟩
  have env : Env0 P w K mg (hidT s₁.heap Ht) callerA [] s₁ Ht := ⟨rfl, md, fun b o e => of_hidT e, Nat.le_of_eq (hidT_size _ _), trivial, fun b hb => (List.not_mem_nil hb).elim, hok, .of_eq gens⟩
  have run := (F _ inB (spaces gl)).run callerA [] s₁ Ht ⟨[.ref a], []⟩ [.ref a] [.ref a] (fun v _ => v = .bl true) (fun _ _ _ => False) rfl room env (bind s₁ (.ref a)) (.cons rfl .nil) ⟨a, ns, rfl, seq, few, fun _ => rfl⟩
  refine codeAny_mono run fun res s' out => ?_
  cases res with
  | error e => exact False.elim out
  | ok fl =>
    cases fl with
    | ret u =>
      obtain ⟨v, H', os, bare, un, hok', rv, ev⟩ := out
      have ev' : v = .bl true := ev
      subst ev'
      obtain rfl : u = Value.bool true := rv
      (refine ⟨rfl, OldK.of_keep fun b o e => ?_, os, bare⟩)
      cases q : Ht b with
      | none => exact un.keep b o e q (fun z => (List.not_mem_nil (show b ∈ ([] : List Addr) from z)).elim) (by simp)
      | some u =>
        rcases only b with z | ⟨ob, ys, z⟩
        · rw [z] at q
          cases q
        · have old := (hok b _ z).1
          have new := (hok' b _ (un.frzs b ob _ z)).1
          rw [e] at old
          cases old
          exact new
    | next => exact False.elim out
    | brk => exact False.elim out
    | cont => exact False.elim out
theorem law_from {P : Program} {w : World} {K : PySem.W.Frag} {mg mb : Str → Option Value} {k : Nat} {fa a : Addr} {fd : FuncData} {x : Str} {s₁ : Shared} {vs : List Value} {ns : List Int}
    (inK : K.In s₁.heap) (gl : s₁.heap.Ns mainGlobals mg) (bt : s₁.heap.Ns builtinsNs mb) (bb : ∀ x : Str, x ≠ "__name__" → mb x = bootBuiltins x) (lim : s₁.heap.NoLimit) (gens : s₁.gens = #[])
    (ha : s₁.heap.get? a = some { cls := .type "list", data := .seq vs.toArray }) (nums : IntsAre vs ns) (few : ns.length ≤ 63) (room : Room k callerA)
    (F : ∀ base : Heap, K.In base → base.Ns mainGlobals mg → FnG P w K mg base k fa fd [x] (spLaw K)) (bind : ∀ (s : Shared) (u : Value), BindsTo s fd ⟨[u], []⟩ [(x, u)]) :
    codeAny (model P w) callerA (.call (.ref fa) ⟨[.ref a], []⟩) (fun rr s' => rr = .ok (.ret (.bool true)) ∧ OldK s₁.heap s'.heap ∧ s'.os = s₁.os ∧ AllBare s'.gens) s₁ := by
  have vals := vals_ints nums
  have long := nums.length
  have big : ns.length ≤ sizeLine := Nat.le_trans few (by decide)
  cases hk : K.lookup a with
  | some o =>
    have e := inK a o hk
    rw [ha] at e
    cases e
    exact call_from (Ht := fun _ => none) inK gl bt bb lim gens ha room F bind (fun _ => .inl rfl) (.inr ⟨_, vs.toArray, _, hk, rfl, rfl, rfl, by rw [List.size_toArray, long]; exact big, by simpa using vals⟩) few
      (fun b u z => by cases (show (none : Option HO) = some u from z)) (fun b z => (z rfl).elim) (fun z => (z rfl).elim)
  | none =>
    have here : ∀ b, b = a → (fun b : Addr => if b = a then (some (.frz { cls := .type "list", data := .seq vs.toArray } (.lst (ns.map V.int))) : Option HO) else none) b = some (.frz { cls := .type "list", data := .seq vs.toArray } (.lst (ns.map V.int))) := fun b z => if_pos z
    have else_ : ∀ b, b ≠ a → (fun b : Addr => if b = a then (some (.frz { cls := .type "list", data := .seq vs.toArray } (.lst (ns.map V.int))) : Option HO) else none) b = none := fun b z => if_neg z
    refine call_from (Ht := fun b : Addr => if b = a then (some (.frz { cls := .type "list", data := .seq vs.toArray } (.lst (ns.map V.int))) : Option HO) else none) inK gl bt bb lim gens ha room F bind (fun b => ?_) (.inl (.inr ⟨_, here a rfl⟩)) few (fun b u z => ?_) (fun b z => ?_) fun _ => hk
    · by_cases q : b = a
      · exact .inr ⟨_, _, here b q⟩
      · exact .inl (else_ b q)
    · by_cases q : b = a
      · have y := (here b q).symm.trans z
        cases y
        subst q
        exact ⟨ha, by rw [List.length_map]; exact big, vs, _, vals, ha⟩
      · cases (else_ b q).symm.trans z
    · by_cases q : b = a
      · exact q
      · exact (z (else_ b q)).elim
theorem walk_g {l : PySem.W.OpenLaw} {q : Program} {loose : List Str} {XP : (Str → Option Value) → Heap → Prop} {YP : World → Heap → Prop} {d : DefRec} {K : Params → PySem.W.Frag} (most : l.most = some 63) (nodef : d.params.defaults = []) (room : Room 8 callerA)
    (hY : ∀ (w : World) (hp : Heap), YP w hp → (K w.params).In hp)
    (F : ∀ (w : World) (mg : Str → Option Value) (fa : Addr) (hp : Heap), (K w.params).In hp → hp.Ns mainGlobals mg → mg d.name = some (.ref fa) →
      ∃ fd : FuncData, (∀ (s : Shared) (v : Value), BindsTo s fd ⟨[v], []⟩ [("_law_script", v)]) ∧ ∀ base : Heap, (K w.params).In base → base.Ns mainGlobals mg → FnG l.prog w (K w.params) mg base 8 fa fd ["_law_script"] (spLaw (K w.params))) :
    PySem.W.WalkO q loose XP YP l.row.toRowW d [] (fun g us => PySem.call g us) := by
  refine Att.attach_call most nodef fun w s₀ s₁ mg mb fa o pm cd doc a vs ns G Y ho hd hcd at_ obj nums few gens => ?_
  obtain ⟨fd, bind, law⟩ := F w mg fa _ (hY w _ Y) G.T.g at_
  exact law_from (hY w _ Y) G.T.g G.T.b G.T.builtins G.T.nolimit gens obj nums few room law bind
end K08

set_option Elab.async false
set_option linter.all false
open PyProof.Rows PySem PySem.W in
set_option maxRecDepth 100001 in
set_option maxHeartbeats 0 in
theorem PySem.Challenge.cw_settledreads_k08_plans_read_or_refused_holds : PySem.Challenge.rw_settledreads_k08_plans_read_or_refused.Holds := by
  w_on
  o_law
  k_head
  (case hw => w_witness2)
  k_fill
  refine K08.walk_g (l := PySem.Challenge.rw_settledreads_k08_plans_read_or_refused) rfl rfl ⟨by decide, by decide, by decide⟩ (fun w h Y => PySem.W.kIn_of Y) ?F
  case F =>
    intro w mg fa h KX G hmg
    refine' K08.all_mk KX G hmg ?a6 ?l6 ?c6 ?k6 ?a7 ?l7 ?c7 ?k7 ?a8 ?l8 ?c8 ?k8 ?a13 ?l13 ?c13 ?k13 ?a14 ?l14 ?c14 ?k14 ?a16 ?l16 ?c16 ?k16 ?a17 ?l17 ?c17 ?k17 ?a18 ?l18 ?c18 ?k18 ?a19 ?l19 ?c19 ?k19 ?a20 ?l20 ?c20 ?k20 ?a21 ?l21 ?c21 ?k21 ?a22 ?l22 ?c22 ?k22 ?a23 ?l23 ?c23 ?k23 ?a24 ?l24 ?c24 ?k24 ?a25 ?l25 ?c25 ?k25 ?a26 ?l26 ?c26 ?k26 ?a27 ?l27 ?c27 ?k27 ?a28 ?l28 ?c28 ?k28 ?nCS ?nCB ?nC ?eE ?tE ?eP ?iP ?eQ ?iQ ?pa1 ?pg1 ?pt1 ?pr1 ?pa2 ?pg2 ?pt2 ?pr2 ?pa3 ?pg3 ?pt3 ?pr3 ?pa4 ?pg4 ?pt4 ?pr4 ?lE ?cE ?kE ?lP ?cP ?kP ?lG1 ?cG1 ?kG1 ?lG2 ?cG2 ?kG2 ?lG3 ?cG3 ?kG3 ?lG4 ?cG4 ?kG4 ?lQ ?cQ ?kQ ?cpg ?chd ?cpo ?csa ?cmk ?ckp ?z1 ?z2 ?z3 ?z4 ?cha ?chn ?cht ?chm ?o1 ?o2 ?o3 ?o4 ?o5 ?m1 ?m2 ?m3 ?m4 ?xsa ?xex ?xty ?xkp ?xnv ?xte ?xk1 ?xk2 ?xga ?xgg ?xhd ?xha ?xhm ?gL ?g8 ?g4 ?gW ?b_int ?b_abs ?b_len ?b_range ?b_all ?b_isinstance ?b_str ?b_enumerate ?b_list ?b_zip ?b_repr ?b_tuple ?b_max ?b_min ?b_ValueError ?xcl ?lW
    (case a6 => k_is)
    (case l6 => k_is)
    (case c6 => k_is)
    (case k6 => k_is)
    (case a7 => k_is)
    (case l7 => k_is)
    (case c7 => k_is)
    (case k7 => k_is)
    (case a8 => k_is)
    (case l8 => k_is)
    (case c8 => k_is)
    (case k8 => k_is)
    (case a13 => k_is)
    (case l13 => k_is)
    (case c13 => k_is)
    (case k13 => k_is)
    (case a14 => k_is)
    (case l14 => k_is)
    (case c14 => k_is)
    (case k14 => k_is)
    (case a16 => k_is)
    (case l16 => k_is)
    (case c16 => k_is)
    (case k16 => k_is)
    (case a17 => k_is)
    (case l17 => k_is)
    (case c17 => k_is)
    (case k17 => k_is)
    (case a18 => k_is)
    (case l18 => k_is)
    (case c18 => k_is)
    (case k18 => k_is)
    (case a19 => k_is)
    (case l19 => k_is)
    (case c19 => k_is)
    (case k19 => k_is)
    (case a20 => k_is)
    (case l20 => k_is)
    (case c20 => k_is)
    (case k20 => k_is)
    (case a21 => k_is)
    (case l21 => k_is)
    (case c21 => k_is)
    (case k21 => k_is)
    (case a22 => k_is)
    (case l22 => k_is)
    (case c22 => k_is)
    (case k22 => k_is)
    (case a23 => k_is)
    (case l23 => k_is)
    (case c23 => k_is)
    (case k23 => k_is)
    (case a24 => k_is)
    (case l24 => k_is)
    (case c24 => k_is)
    (case k24 => k_is)
    (case a25 => k_is)
    (case l25 => k_is)
    (case c25 => k_is)
    (case k25 => k_is)
    (case a26 => k_is)
    (case l26 => k_is)
    (case c26 => k_is)
    (case k26 => k_is)
    (case a27 => k_is)
    (case l27 => k_is)
    (case c27 => k_is)
    (case k27 => k_is)
    (case a28 => k_is)
    (case l28 => k_is)
    (case c28 => k_is)
    (case k28 => k_is)
    (case nCS => k_is)
    (case nCB => k_is)
    (case nC => k_is)
    (case eE => k_is)
    (case tE => k_is)
    (case eP => k_is)
    (case iP => k_is)
    (case eQ => k_is)
    (case iQ => k_is)
    (case pa1 => k_is)
    (case pg1 => k_is)
    (case pt1 => k_is)
    (case pr1 => k_is)
    (case pa2 => k_is)
    (case pg2 => k_is)
    (case pt2 => k_is)
    (case pr2 => k_is)
    (case pa3 => k_is)
    (case pg3 => k_is)
    (case pt3 => k_is)
    (case pr3 => k_is)
    (case pa4 => k_is)
    (case pg4 => k_is)
    (case pt4 => k_is)
    (case pr4 => k_is)
    (case lE => k_is)
    (case cE => k_is)
    (case kE => k_is)
    (case lP => k_is)
    (case cP => k_is)
    (case kP => k_is)
    (case lG1 => k_is)
    (case cG1 => k_is)
    (case kG1 => k_is)
    (case lG2 => k_is)
    (case cG2 => k_is)
    (case kG2 => k_is)
    (case lG3 => k_is)
    (case cG3 => k_is)
    (case kG3 => k_is)
    (case lG4 => k_is)
    (case cG4 => k_is)
    (case kG4 => k_is)
    (case lQ => k_is)
    (case cQ => k_is)
    (case kQ => k_is)
    (case cpg => k_is)
    (case chd => k_is)
    (case cpo => k_is)
    (case csa => k_is)
    (case cmk => k_is)
    (case ckp => k_is)
    (case z1 => k_is)
    (case z2 => k_is)
    (case z3 => k_is)
    (case z4 => k_is)
    (case cha => k_is)
    (case chn => k_is)
    (case cht => k_is)
    (case chm => k_is)
    (case o1 => kit_is)
    (case o2 => kit_is)
    (case o3 => kit_is)
    (case o4 => kit_is)
    (case o5 => kit_is)
    (case m1 => k_is)
    (case m2 => k_is)
    (case m3 => k_is)
    (case m4 => k_is)
    (case xsa => k_is)
    (case xex => k_is)
    (case xty => k_is)
    (case xkp => k_is)
    (case xnv => k_is)
    (case xte => first | kernel_rfl | rfl | decide +kernel)
    (case xk1 => kit_is)
    (case xk2 => kit_is)
    (case xga => k_is)
    (case xgg => k_is)
    (case xhd => k_is)
    (case xha => k_is)
    (case xhm => k_is)
    (case gL => k_is)
    (case g8 => k_is)
    (case g4 => k_is)
    (case gW => k_is)
    (case b_int => k_is)
    (case b_abs => k_is)
    (case b_len => k_is)
    (case b_range => k_is)
    (case b_all => k_is)
    (case b_isinstance => k_is)
    (case b_str => k_is)
    (case b_enumerate => k_is)
    (case b_list => k_is)
    (case b_zip => k_is)
    (case b_repr => k_is)
    (case b_tuple => k_is)
    (case b_max => k_is)
    (case b_min => k_is)
    (case b_ValueError => k_is)
    (case xcl => exact ⟨_, _, _, _, _, _, _, _, _, _, _, _, _, _, _, by k_is, by decide⟩)
    (case lW => k_is)

