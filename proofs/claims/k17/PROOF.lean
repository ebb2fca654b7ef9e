import PyProof.Rows.All
import Wide.All
import OpenK.AllK
import Wide.FinOn
import HandS.ForMost
import HandS.Wide
import PySem.Challenge.RW_settledreads_k17_plans_alike_by_the_ways
import HandS.ForExc
import HandS.ExcInit
import HandS.IsInst
import HandS.ExcValue
import HandS.ExcField
import HandS.ExcIs
import KE.KExcIs
import PyProof.ReprRoads
import HandS.Walk
import HandS.Deep
import HandS.Strs
import HandS.ReCall
import HandS.Property
import KE.GoesMore
import KE.KDictZip
import KE.KItemsList
import HandS.Zip
import KE.GoesNew
import HandS.Flow
import HandS.Star
import HandS.TupAny
import HandS.NoneIn
import HandS.List
import HandS.TupSets
import HandS.OwnEq
import HandS.SetFor
import PyProof.EqLayable
import KE.SortData
import HandS.Base
import HandS.Call
import KE.KDictKeyed
import KE.KeyNested
import KE.KDictCopyH
import KE.KDictList
import HandS.Comp
import HandS.Dict
import HandS.Small
import HandS.DictComp
import HandS.Conv
import PyProof.DictCompW
import KE.KUnpackStar
import PyProof.MakeMany
import HandS.TryMany
import PyProof.SliceList
import HandS.Defaults
import HandS.Codes
import KE.DataMinMax
import HandS.SortKw
import HandS.Evl
import HandS.Iter
set_option Elab.async false
set_option linter.all false
set_option maxRecDepth 100000
set_option maxHeartbeats 4100000
namespace K17
open PySem L2
/-! ### the text by places -/
def top (i : Nat) : Stmt := PySem.Challenge.pw_settledreads_k17_plans_alike_by_the_ways.main.body.getD i (.Pass ⟨0, 0, 0, 0⟩)
abbrev sJar : Stmt := top 50
abbrev sTake : Stmt := top 51
abbrev sOf : Stmt := top 52
/-! ### heaps -/
/-- a drawing jar stands at j; n bounds how often it was drawn from -/
def Jar (H : Hp) (j : Addr) (n : Nat) : Prop := ∃ a b c : Int, H j = some (.lst [.int a, .int b, .int c]) ∧ 0 ≤ a ∧ a < 2 ^ 1000 ∧ 0 ≤ b ∧ b < 2 ^ 61 ∧ 0 ≤ c ∧ c ≤ n
theorem Jar.mono {H : Hp} {j : Addr} {n m : Nat} (h : Jar H j n) (l : n ≤ m) : Jar H j m := by
  obtain ⟨a, b, c, e, h1, h2, h3, h4, h5, h6⟩ := h
  exact ⟨a, b, c, e, h1, h2, h3, h4, h5, by omega⟩
/-- all but the jar stands as it stood -/
def Keep (j : Addr) (H H' : Hp) : Prop := ∀ x o, x ≠ j → H x = some o → H' x = some o
theorem Keep.refl (j : Addr) (H : Hp) : Keep j H H := fun _ _ _ h => h
theorem Keep.trans {j : Addr} {H H1 H2 : Hp} (a : Keep j H H1) (b : Keep j H1 H2) : Keep j H H2 := fun x o n h => b x o n (a x o n h)
theorem Keep.new {j p : Addr} {H : Hp} {o : HO} (h : H p = none) : Keep j H (upd H p o) := fun x u _ e => by
  rw [upd_ne (ne_of_none e h)]
  exact e
theorem Keep.put {j : Addr} {H : Hp} {o : HO} : Keep j H (upd H j o) := fun x u n e => by
  rw [upd_ne n]
  exact e
theorem Same.keep {j : Addr} {H H' : Hp} (h : Same H H') : Keep j H H' := fun x o _ e => h x o e
theorem same_upd {H : Hp} {p : Addr} {o : HO} (new : H p = none) : Same H (upd H p o) := fun b x e => by
  rw [upd_ne (ne_of_none e new)]
  exact e
structure Txt0 (mg : Str → Option Value) : Prop where
  int : mg "int" = none
  abs : mg "abs" = none
  len : mg "len" = none
section
variable {base : Heap} {P : Program} {w : World} {K : PySem.W.Frag} {mg : Str → Option Value}
/-! ### take -/
theorem log2_small {m : Int} (h : m.natAbs ≤ 10000) : m.natAbs.log2 < 9000 := by
  have h1 : m.natAbs.log2 ≤ m.natAbs := Nat.log2_le_self _
  by_cases z : m.natAbs = 0
  · rw [z]
    decide
  · have h2 := (Nat.log2_lt z (k := 14)).mpr (by omega)
    omega
theorem prime_at {i : Int} (h0 : 0 ≤ i) (h1 : i < 5) : ∃ v : Int, atI ([.int 2147483647, .int 2147483629, .int 2147483587, .int 2147483579, .int 2147483563] : List V) i = some (.int v) ∧ 0 < v ∧ v < 2 ^ 31 := by
  have : i = 0 ∨ i = 1 ∨ i = 2 ∨ i = 3 ∨ i = 4 := by omega
  rcases this with rfl | rfl | rfl | rfl | rfl
  · exact ⟨_, rfl, by decide, by decide⟩
  · exact ⟨_, rfl, by decide, by decide⟩
  · exact ⟨_, rfl, by decide, by decide⟩
  · exact ⟨_, rfl, by decide, by decide⟩
  · exact ⟨_, rfl, by decide, by decide⟩
def spTake : Sp := fun vs H Q _ => ∃ (j : Addr) (m : Int) (n : Nat), vs = [.ref j, .int m] ∧ Jar H j n ∧ n ≤ 10000 ∧ 1 ≤ m ∧ m ≤ 10000 ∧ ∀ (d : Int) (H' : Hp), 0 ≤ d → d < m → Jar H' j (n + 1) → Keep j H H' → Q (.int d) H'
theorem scTake : FnScope ["_law_jar_here", "_law_many", "_law_digit", "_law_prime", "_law_made"] ["_law_jar_here", "_law_many"] (defScope sTake) := ⟨rfl, rfl, rfl, by decide +kernel, rfl, by decide +kernel, by decide +kernel⟩
theorem ok_take {f : Addr} {fd : FuncData} (F : Fun K "_law_take" "_law_take" sTake f fd) (T : Txt0 mg) : FnOk P w K mg base CX0 1 f fd ["_law_jar_here", "_law_many"] spTake := by
  refine F.ok scTake (fun vs H Q E h => ?_) (fun cdv A outer s H vs Q E hr h => ?_)
  · obtain ⟨j, m, n, rfl, _⟩ := h
    rfl
  · obtain ⟨j, m, n, rfl, ⟨a, b, c, hj, ha, ha2, hb, hb2, hc, hc2⟩, hn, hm, hm2, k⟩ := h
    refine ⟨_, pss_cons (ps_if (pt_cmpR op_gt (pe_ix ix_list (pv 0) pe_int (fun _ _ => rfl)) pe_int (nomark _))
        (pss_cons (ps_set (i := 2) scTake.nd rfl (.inl rfl) (pe_op op_mod (pe_callTy call_int1 (by rfl) T.int (by decide +kernel) (pa_cons (pe_ix ix_list (pv 0) pe_int (fun _ _ => rfl)) pa_nil)) (pv 1)))
        (pss_cons (ps_asg (pe_op op_fdivW (pe_ix ix_list (pv 0) pe_int (fun _ _ => rfl)) (pv 1)) (pg_sub (pv 0) pe_int set_list))
        (pss_one (ps_ret (pv 2))))) pss_nil)
      (pss_cons (ps_asg (pe_op op_add (pe_ix ix_list (pv 0) pe_int (fun _ _ => rfl)) pe_int) (pg_sub (pv 0) pe_int set_list))
      (pss_cons (ps_set (i := 3) scTake.nd rfl (.inl rfl) (pe_ix ix_list (pe_lst (pa_cons pe_int (pa_cons pe_int (pa_cons pe_int (pa_cons pe_int (pa_cons pe_int pa_nil))))))
        (pe_op op_mod (pe_callTy call_int1 (by rfl) T.int (by decide +kernel) (pa_cons (pe_ix ix_list (pv 0) pe_int (fun _ _ => rfl)) pa_nil)) pe_int) (fun _ _ => rfl)))
      (pss_cons (ps_set (i := 4) scTake.nd rfl (.inl rfl) (pe_op op_mod (pe_callTy call_int1 (by rfl) T.int (by decide +kernel) (pa_cons
          (pe_op op_pow (pe_op op_add (pe_op op_add (pe_ix ix_list (pv 0) pe_int (fun _ _ => rfl)) (pe_op op_mul (pe_op op_mul pe_int (pe_ix ix_list (pv 0) pe_int (fun _ _ => rfl))) (pe_ix ix_list (pv 0) pe_int (fun _ _ => rfl)))) pe_int) pe_int) pa_nil)) (pv 3)))
      (pss_cons (ps_set (i := 4) scTake.nd rfl (.inl rfl) (pe_op op_mod (pe_callTy call_int1 (by rfl) T.int (by decide +kernel) (pa_cons
          (pe_op op_mul (pv 4) (pe_op op_add (pe_op op_mod (pe_callTy call_int1 (by rfl) T.int (by decide +kernel) (pa_cons (pv 4) pa_nil)) pe_int) (pe_op op_mul pe_int (pe_ix ix_list (pv 0) pe_int (fun _ _ => rfl))))) pa_nil)) pe_int))
      (pss_one (ps_ret (pe_op op_mod (pe_callTy call_int1 (by rfl) T.int (by decide +kernel) (pa_cons (pe_op op_fdiv (pv 4) pe_int) pa_nil)) (pv 1)))))))), ?_⟩
    refine ⟨_, rfl, j, _, _, .int a, rfl, rfl, SqL.of hj, rfl, a, 0, rfl, rfl, _, rfl, ?_⟩
    by_cases h0 : 0 < a
    · refine (show if decide (0 < a) = true then _ else _ from ?_)
      rw [if_pos (decide_eq_true h0)]
      refine ⟨_, rfl, j, _, _, .int a, rfl, rfl, SqL.of hj, rfl, .inl ⟨a, rfl, .int m, rfl, a, m, rfl, rfl, (by omega), ?_⟩⟩
      refine ⟨_, rfl, j, _, _, .int a, rfl, rfl, SqL.of hj, rfl, .int m, rfl, a, m, rfl, rfl, ⟨by omega, ?_⟩, ?_⟩
      · exact log2_small (by omega)
      · refine ⟨.ref j, rfl, j, _, _, _, rfl, rfl, hj, rfl, .int (a % m), rfl, ?_⟩
        have h1 : 0 ≤ a / m := Int.ediv_nonneg ha (by omega)
        have h2 : a / m ≤ a := Int.ediv_le_self _ ha
        exact k _ _ (Int.emod_nonneg _ (by omega)) (Int.emod_lt_of_pos _ (by omega)) ⟨a / m, b, c, upd_same, h1, Int.lt_of_le_of_lt h2 ha2, hb, hb2, hc, by omega⟩ Keep.put
    · refine (show if decide (0 < a) = true then _ else _ from ?_)
      (rw [if_neg (by simpa using h0)])
      refine ⟨_, rfl, j, _, _, .int c, rfl, rfl, SqL.of hj, rfl, c, 1, rfl, rfl, _, rfl, j, _, _, _, rfl, rfl, hj, rfl, ?_⟩
      refine ⟨(by show 5 ≤ sizeLine; decide), fun p hp => ?_⟩
      have npj : p ≠ j := fun e => by
        rw [e, upd_same] at hp
        cases hp
      have hj2 : ∀ o : HO, (upd (upd H j (.lst (([.int a, .int b, .int c] : List V).set 2 (.int (c + 1))))) p o) j = some (.lst [.int a, .int b, .int (c + 1)]) := fun o => by
        rw [upd_ne npj.symm, upd_same]
        rfl
      obtain ⟨v, hv, hv1, hv2⟩ := prime_at (i := (c + 1) % 5) (Int.emod_nonneg _ (by omega)) (Int.emod_lt_of_pos _ (by omega))
      refine ⟨_, rfl, j, _, _, .int (c + 1), rfl, rfl, SqL.of (hj2 _), rfl, .inl ⟨c + 1, rfl, c + 1, 5, rfl, rfl, (show (0 : Int) < 5 by decide), p, _, _, .int v, rfl, rfl, SqL.of upd_same, hv, ?_⟩⟩
      have e1 : (98893 * (c + 1) * (c + 1) : Int) ≤ 98893 * 10001 * 10001 := Int.mul_le_mul (by omega) (by omega) (by omega) (by omega)
      have e0 : (0 : Int) ≤ 98893 * (c + 1) * (c + 1) := Int.mul_nonneg (by omega) (by omega)
      refine ⟨_, rfl, j, _, _, .int b, rfl, rfl, SqL.of (hj2 _), rfl, _, rfl, j, _, _, .int (c + 1), rfl, rfl, SqL.of (hj2 _), rfl, 98893, c + 1, rfl, rfl, .inl ⟨by decide, by decide⟩, _, rfl, j, _, _, .int (c + 1), rfl, rfl, SqL.of (hj2 _), rfl, _, c + 1, rfl, rfl, .inr ⟨by omega, by omega⟩, b, _, rfl, rfl, _, 79, rfl, rfl, _, 3, rfl, rfl, ⟨by decide, by decide, ?_⟩, .inl ⟨_, rfl, _, rfl, _, v, rfl, rfl, (by omega), ?_⟩⟩
      · omega
      have g0 : 0 ≤ (b + 98893 * (c + 1) * (c + 1) + 79) ^ Int.toNat 3 % v := Int.emod_nonneg _ (by omega)
      have g1 : (b + 98893 * (c + 1) * (c + 1) + 79) ^ Int.toNat 3 % v < v := Int.emod_lt_of_pos _ (by omega)
      refine ⟨_, rfl, _, rfl, .inl ⟨_, rfl, _, 10009, rfl, rfl, (show (0 : Int) < 10009 by decide), _, rfl, j, _, _, .int (c + 1), rfl, rfl, SqL.of (hj2 _), rfl, 97, c + 1, rfl, rfl, .inl ⟨by decide, by decide⟩, _, _, rfl, rfl, _, _, rfl, rfl,
        .inl ⟨Int.lt_of_lt_of_le (by decide) g0, Int.lt_trans g1 (Int.lt_trans hv2 (by decide))⟩, .inl ⟨_, rfl, _, 2305843009213693907, rfl, rfl, (show (0 : Int) < 2305843009213693907 by decide), ?_⟩⟩⟩
      refine ⟨_, rfl, _, 89, rfl, rfl, ⟨by decide, by decide⟩, .inl ⟨_, rfl, .int m, rfl, _, m, rfl, rfl, (by omega), ?_⟩⟩
      refine k _ _ (Int.emod_nonneg _ (by omega)) (Int.emod_lt_of_pos _ (by omega)) ⟨a, b, c + 1, hj2 _, ha, ha2, hb, hb2, by omega, by omega⟩ (Keep.put.trans (Keep.new hp))
/-! ### a def as its callers know it -/
def Has (P : Program) (w : World) (K : PySem.W.Frag) (mg : Str → Option Value) (base : Heap) (nm : Str) (k : Nat) (ps : List Str) (sp : Sp) : Prop :=
  ∃ (f : Addr) (fd : FuncData), FnOk P w K mg base CX0 k f fd ps sp ∧ mg nm = some (.ref f) ∧ PySem.W.keepIn K (.ref f) = true ∧ Binds K fd ps []
theorem pe_has {X : Cx} {nm : Str} {k : Nat} {ps : List Str} {sp : Sp} {e : Expr} {es : List Expr} {t : TA} {p pos : Pos} (h : Has X.prog X.w X.K X.mg X.base nm k ps sp) (hr : Room k X.A) (ha : PA X (e :: es) t) (hg : Gl X nm := by rfl)
    (hdb : (nm == ("__debug__" : Str)) = false := by decide) (he : starEach (e :: es) X.env = (false, eval e X.env) :: starEach es X.env := by rfl) (hpl : (backTo pos (starEach es X.env)).any (·.1) = false := by rfl) :
    PE X (.Call (.Name nm p) (e :: es) [] pos) (tCall sp [] E0 t) := by
  obtain ⟨f, fd, F, hm, hk, hb⟩ := h
  exact pe_call F hr hg hm hk hb .nil pass0 ha hdb he hpl
theorem Keep.seq {K : PySem.W.Frag} {j p : Addr} {H H' : Hp} {xs : List V} (h : Keep j H H') (n : p ≠ j) (q : SqL K H p xs) : SqL K H' p xs := by
  rcases q with (q | ⟨o, q⟩) | q
  · exact .inl (.inl (h _ _ n q))
  · exact .inl (.inr ⟨o, h _ _ n q⟩)
  · exact .inr q
theorem atI_in {α : Type} {xs : List α} {i : Int} (h0 : 0 ≤ i) (h1 : i < xs.length) : ∃ v, atI xs i = some v ∧ v ∈ xs := by
  (obtain ⟨n, rfl⟩ := Int.eq_ofNat_of_zero_le h0)
  have hn : n < xs.length := by omega
  exact ⟨xs[n], atI_nat (List.getElem?_eq_getElem hn), List.getElem_mem hn⟩
/-! ### of -/
def spOf (K : PySem.W.Frag) : Sp := fun vs H Q _ => ∃ (j : Addr) (n : Nat) (x : V), vs = [.ref j, x] ∧ Jar H j n ∧ n ≤ 9000 ∧
  ((∃ (p : Addr) (xs : List V), x = .ref p ∧ p ≠ j ∧ SqL K H p xs ∧ 1 ≤ xs.length ∧ xs.length ≤ 1000 ∧ ∀ (y : V) (H' : Hp), y ∈ xs → Jar H' j (n + 1) → Keep j H H' → Q y H') ∨
   (∃ z : Str, x = .str z ∧ 1 ≤ z.length ∧ z.length ≤ 1000 ∧ ∀ (c : Nat) (H' : Hp), c ∈ z.cps.toList → Jar H' j (n + 1) → Keep j H H' → Q (.str ⟨#[c]⟩) H'))
theorem scOf : FnScope ["_law_jar_here", "_law_some"] ["_law_jar_here", "_law_some"] (defScope sOf) := ⟨rfl, rfl, rfl, by decide +kernel, rfl, by decide +kernel, by decide +kernel⟩
theorem ok_of {f : Addr} {fd : FuncData} (F : Fun K "_law_of" "_law_of" sOf f fd) (T : Txt0 mg) (G : Has P w K mg base "_law_take" 1 ["_law_jar_here", "_law_many"] spTake) : FnOk P w K mg base CX0 2 f fd ["_law_jar_here", "_law_some"] (spOf K) := by
  refine F.ok scOf (fun vs H Q E h => ?_) (fun cdv A outer s H vs Q E hr h => ?_)
  · obtain ⟨j, n, x, rfl, _⟩ := h
    rfl
  · obtain ⟨j, n, x, rfl, hj, hn, h⟩ := h
    refine ⟨_, pss_one (ps_ret (pe_ix (IxR.or ix_list ix_str) (pv 1) (pe_has G hr (pa_cons (pv 0) (pa_cons (pe_callB (CallR.or call_len_seq call_len_str) (by rfl) T.len PySem.boot_len (pa_cons (pv 1) pa_nil)) pa_nil))) (fun _ _ => rfl))), ?_⟩
    rcases h with ⟨p, xs, rfl, np, hp, l1, l2, k⟩ | ⟨z, rfl, l1, l2, k⟩
    · refine ⟨_, rfl, _, rfl, _, rfl, .inl ⟨p, xs, rfl, .inl hp, j, _, n, rfl, hj, by omega, by omega, by omega, fun d H' h0 h1 hj' kp => ?_⟩⟩
      obtain ⟨v, hv, hm⟩ := atI_in h0 h1
      exact .inl ⟨p, xs, d, v, rfl, rfl, kp.seq np hp, hv, k v H' hm hj' kp⟩
    · refine ⟨_, rfl, _, rfl, _, rfl, .inr ⟨z, rfl, Nat.le_trans l2 (by decide), j, _, n, rfl, hj, by omega, by omega, by omega, fun d H' h0 h1 hj' kp => ?_⟩⟩
      have hz : z.cps.toList.length = z.length := by
        show z.cps.toList.length = z.cps.size
        simp
      obtain ⟨v, hv, hm⟩ := atI_in (xs := z.cps.toList) h0 (by rw [hz]; exact h1)
      exact .inr ⟨z, d, v, rfl, rfl, Nat.le_trans l2 (by decide), hv, k v H' hm hj' kp⟩
/-! ### jar -/
theorem bit_ok (b : Bool) : -(2 ^ 64) < (if b = true then (1 : Int) else 0) ∧ (if b = true then (1 : Int) else 0) < 2 ^ 64 := by
  cases b <;> decide
theorem mine_ok (x : Int) (b : Bool) : 0 ≤ x % (10 ^ Int.toNat 60) ^ Int.toNat 5 * (if b = true then (1 : Int) else 0) ∧ x % (10 ^ Int.toNat 60) ^ Int.toNat 5 * (if b = true then (1 : Int) else 0) < 2 ^ 1000 := by
  have pp : (0 : Int) < (10 ^ Int.toNat 60) ^ Int.toNat 5 := by decide +kernel
  have p2 : ((10 ^ Int.toNat 60) ^ Int.toNat 5 : Int) < 2 ^ 1000 := by decide +kernel
  have h0 := Int.emod_nonneg x (Int.ne_of_gt pp)
  have h1 := Int.emod_lt_of_pos x pp
  cases b
  · rw [if_neg Bool.false_ne_true, Int.mul_zero]
    exact ⟨Int.le_refl _, by decide +kernel⟩
  · rw [if_pos rfl, Int.mul_one]
    exact ⟨h0, Int.lt_trans h1 p2⟩
def CPowW (i j : Int) : Prop := 0 ≤ j ∧ (Builtin.Int.intBits i : Int) * j ≤ 2 ^ 27
theorem op_powW {X : Cx} : OpR X (binaryOp .Pow) (rI CPowW fun i j => .int (i ^ j.toNat)) := opI fun _ _ _ _ _ _ _ hc q => PyProof.Rows.pow_int hc.1 hc.2 q
def spJar (K : PySem.W.Frag) : Sp := fun vs H Q _ => ∃ (a : Addr) (ns : List Int) (k : Int), vs = [.ref a, .int k] ∧ SqL K H a (ns.map V.int) ∧ 0 ≤ k ∧ k ≤ 100 ∧ ∀ (p : Addr) (H' : Hp), H p = none → Same H H' → Jar H' p 0 → Q (.ref p) H'
theorem scJar : FnScope ["_law_script", "_law_k", "_law_cell", "_law_mine"] ["_law_script", "_law_k"] (defScope sJar) := ⟨rfl, rfl, rfl, by decide +kernel, rfl, by decide +kernel, by decide +kernel⟩
theorem ok_jar {f : Addr} {fd : FuncData} (F : Fun K "_law_jar" "_law_jar" sJar f fd) (T : Txt0 mg) : FnOk P w K mg base CX0 1 f fd ["_law_script", "_law_k"] (spJar K) := by
  refine F.ok scJar (fun vs H Q E h => ?_) (fun cdv A outer s H vs Q E hr h => ?_)
  · (obtain ⟨a, ns, k, rfl, _⟩ := h)
    rfl
  · obtain ⟨a, ns, k, rfl, hS, k0, k2, q⟩ := h
    refine ⟨_, pss_cons (ps_set (i := 2) scJar.nd rfl (.inl rfl) (pe_ifExp (pt_cmpR op_lt (pv 1) (pe_callB call_len_seq (by rfl) T.len PySem.boot_len (pa_cons (pv 0) pa_nil)) (nomark _)) (pe_ix ix_list (pv 0) (pv 1) (fun _ _ => rfl)) (pe_op op_add (pe_op op_mul pe_int (pv 1)) pe_int)))
      (pss_cons (ps_set (i := 3) scJar.nd rfl (.inl rfl) (pe_op op_mul (pe_op op_mod (pe_callTy call_int1 (by rfl) T.int (by decide +kernel) (pa_cons (pe_callB call_abs (by rfl) T.abs (by decide +kernel) (pa_cons (pv 2) pa_nil)) pa_nil)) (pe_op op_powW (pe_op op_pow pe_int pe_int) pe_int))
        (pe_callTy call_int1 (by rfl) T.int (by decide +kernel) (pa_cons (pe_cmpR op_ge (pe_callB call_abs (by rfl) T.abs (by decide +kernel) (pa_cons (pv 2) pa_nil)) (pe_op op_pow pe_int pe_int) (nomark _)) pa_nil))))
      (pss_one (ps_ret (pe_lst (pa_cons (pv 3) (pa_cons (pe_op op_mod (pe_callTy call_int1 (by rfl) T.int (by decide +kernel) (pa_cons (pe_op op_add (pe_op op_add (pe_op op_mul (pe_op op_mod (pe_callTy call_int1 (by rfl) T.int (by decide +kernel) (pa_cons (pv 2) pa_nil)) pe_int) pe_int)
        (pe_op op_mul (pe_op op_mul pe_int (pv 1)) (pv 1))) pe_int) pa_nil)) pe_int) (pa_cons pe_int pa_nil))))))), ?_⟩
    refine ⟨_, rfl, _, rfl, a, _, rfl, .inl hS, k, _, rfl, rfl, _, rfl, ?_⟩
    have pp : (0 : Int) < (10 ^ Int.toNat 60) ^ Int.toNat 5 := by decide +kernel
    have pw : CPowW (10 ^ Int.toNat 60) 5 := ⟨by decide, by decide +kernel⟩
    have p18 : CPow 10 18 := ⟨by decide, by decide, by decide⟩
    have p60 : CPow 10 60 := ⟨by decide, by decide, by decide⟩
    refine ite2 (fun hk => ?_) (fun hk => ?_)
    · have hk := of_decide_eq_true hk
      obtain ⟨v, hv, hm⟩ := atI_in k0 hk
      obtain ⟨c, _, rfl⟩ := List.mem_map.mp hm
      refine ⟨_, rfl, _, rfl, a, _, k, _, rfl, rfl, hS, hv, ?_⟩
      refine ⟨_, rfl, _, rfl, .inl ⟨_, rfl, 10, 60, rfl, rfl, p60, _, 5, rfl, rfl, pw, _, _, rfl, rfl, pp, _, rfl, _, rfl, 10, 18, rfl, rfl, p18, _, _, rfl, rfl, .inr ⟨_, rfl, _, _, rfl, rfl, .inr ?_, ?_⟩⟩⟩
      · exact bit_ok _
      refine ⟨_, rfl, _, rfl, .inl ⟨_, rfl, _, 2305843009213693951, rfl, rfl, (show (0 : Int) < 2305843009213693951 by decide), _, 71993, rfl, rfl, .inr ⟨by decide, by decide⟩, _, rfl, 8237, k, rfl, rfl, .inl ⟨by decide, by decide⟩, _, rfl, _, k, rfl, rfl, .inr ⟨by omega, by omega⟩, _, _, rfl, rfl, _, 61, rfl, rfl,
        .inl ⟨_, rfl, _, 2305843009213693921, rfl, rfl, (show (0 : Int) < 2305843009213693921 by decide), (by show 3 ≤ sizeLine; decide), fun p hp => ?_⟩⟩⟩
      exact q p _ hp (same_upd hp) ⟨_, _, 0, upd_same, (mine_ok _ _).1, (mine_ok _ _).2, Int.emod_nonneg _ (by decide), Int.lt_trans (Int.emod_lt_of_pos _ (by decide)) (by decide), by decide, by decide⟩
    · refine ⟨_, rfl, 41, k, rfl, rfl, .inl ⟨by decide, by decide⟩, _, 23, rfl, rfl, ?_⟩
      refine ⟨_, rfl, _, rfl, .inl ⟨_, rfl, 10, 60, rfl, rfl, p60, _, 5, rfl, rfl, pw, _, _, rfl, rfl, pp, _, rfl, _, rfl, 10, 18, rfl, rfl, p18, _, _, rfl, rfl, .inr ⟨_, rfl, _, _, rfl, rfl, .inr ?_, ?_⟩⟩⟩
      · exact bit_ok _
      refine ⟨_, rfl, _, rfl, .inl ⟨_, rfl, _, 2305843009213693951, rfl, rfl, (show (0 : Int) < 2305843009213693951 by decide), _, 71993, rfl, rfl, .inr ⟨by decide, by decide⟩, _, rfl, 8237, k, rfl, rfl, .inl ⟨by decide, by decide⟩, _, rfl, _, k, rfl, rfl, .inr ⟨by omega, by omega⟩, _, _, rfl, rfl, _, 61, rfl, rfl,
        .inl ⟨_, rfl, _, 2305843009213693921, rfl, rfl, (show (0 : Int) < 2305843009213693921 by decide), (by show 3 ≤ sizeLine; decide), fun p hp => ?_⟩⟩⟩
      exact q p _ hp (same_upd hp) ⟨_, _, 0, upd_same, (mine_ok _ _).1, (mine_ok _ _).2, Int.emod_nonneg _ (by decide), Int.lt_trans (Int.emod_lt_of_pos _ (by decide)) (by decide), by decide, by decide⟩
end
end K17

namespace K17
open PySem L2
abbrev sNames : Stmt := top 53
/-! ### words of drawn names -/
/-- a text's codes -/
abbrev tx (x : Str) : List Nat := x.cps.toList
def Low (c : Nat) : Prop := 97 ≤ c ∧ c ≤ 122
structure IsNm (w : Str) : Prop where
  pos : 1 ≤ w.length
  len : w.length ≤ 8
  low : ∀ c ∈ tx w, Low c
def abc : Str := PySem.Str.ofString "abcdefghijklmnopqrstuvwxyz"
theorem abc_len : abc.length = 26 := by decide +kernel
theorem abc_low : ∀ c ∈ abc.cps.toList, Low c := by
  have h : abc.cps.toList.all (fun c => decide (97 ≤ c) && decide (c ≤ 122)) = true := by decide +kernel
  intro c hc
  have := List.all_eq_true.mp h c hc
  simpa [Low] using this
theorem abc_at {i : Int} (h0 : 0 ≤ i) (h1 : i < 26) : atI abc.cps.toList i = some (97 + i.toNat) := by
  (obtain ⟨n, rfl⟩ := Int.eq_ofNat_of_zero_le h0)
  have hn : n < 26 := by omega
  have h : ∀ n : Nat, n < 26 → atI abc.cps.toList (n : Int) = some (97 + (n : Int).toNat) := by decide +kernel
  exact h n hn
def nmk (st : List Nat) (sp at_ k : Nat) : Str := ⟨(st.take sp ++ [97 + (at_ + 3 * k) % 26] ++ st.drop sp).toArray⟩
theorem nmk_inj {st : List Nat} {sp at_ k k' : Nat} (hs : sp ≤ st.length) (h : k < 4) (h' : k' < 4) (e : nmk st sp at_ k = nmk st sp at_ k') : k = k' := by
  have e1 : st.take sp ++ [97 + (at_ + 3 * k) % 26] ++ st.drop sp = st.take sp ++ [97 + (at_ + 3 * k') % 26] ++ st.drop sp := by
    have := congrArg (fun z : Str => z.cps.toList) e
    simpa [nmk] using this
  rw [List.append_assoc, List.append_assoc] at e1
  have e2 := List.append_cancel_left e1
  have e3 : 97 + (at_ + 3 * k) % 26 = 97 + (at_ + 3 * k') % 26 := (List.cons.inj e2).1
  omega
theorem nmk_is {st : List Nat} {sp at_ k : Nat} (hs : sp ≤ st.length) (hl : st.length ≤ 7) (low : ∀ c ∈ st, Low c) : IsNm (nmk st sp at_ k) := by
  have len : (nmk st sp at_ k).length = st.length + 1 := by
    show (List.toArray _).size = _
    simp only [List.size_toArray, List.length_append, List.length_take, List.length_drop, List.length_cons, List.length_nil]
    omega
  refine ⟨by omega, by omega, fun c hc => ?_⟩
  have hc' : c ∈ st.take sp ++ [97 + (at_ + 3 * k) % 26] ++ st.drop sp := by simpa [nmk, tx] using hc
  rcases List.mem_append.mp hc' with h | h
  · (rcases List.mem_append.mp h with h | h)
    · exact low c (List.mem_of_mem_take h)
    · have := List.mem_singleton.mp h
      subst this
      have := Nat.mod_lt (at_ + 3 * k) (by decide : 0 < 26)
      exact ⟨by omega, by omega⟩
  · exact low c (List.mem_of_mem_drop h)
theorem nm_eq {acc : List Nat} {sp at_ i : Nat} (hs : sp ≤ acc.length) :
    cutS ⟨acc.toArray⟩ none (some (sp : Int)) ++ (⟨#[97 + (((at_ : Int) + 3 * (0 + (i : Int))) % 26).toNat]⟩ : Str) ++ cutS ⟨acc.toArray⟩ (some (sp : Int)) none = nmk acc sp at_ i := by
  refine TL.ext_tl ?_
  rw [TL.tl_append, TL.tl_append]
  have hz : Str.length ⟨acc.toArray⟩ = acc.length := by
    show acc.toArray.size = _
    simp
  have e1 : TL.tl (cutS ⟨acc.toArray⟩ none (some (sp : Int))) = acc.take sp := by
    unfold cutS
    rw [TL.tl_mk, hz, HT.sIx_none, HT.sIx_nat]
    show (acc.drop 0).take (min sp acc.length - 0) = _
    rw [List.drop_zero, Nat.sub_zero, Nat.min_eq_left hs]
  have e2 : TL.tl (cutS ⟨acc.toArray⟩ (some (sp : Int)) none) = acc.drop sp := by
    unfold cutS
    rw [TL.tl_mk, hz, HT.sIx_none, HT.sIx_nat]
    show (acc.drop (min sp acc.length)).take (acc.length - min sp acc.length) = _
    rw [Nat.min_eq_left hs]
    (exact List.take_of_length_le (by rw [List.length_drop]; omega))
  rw [e1, e2]
  have e3 : (((at_ : Int) + 3 * (0 + (i : Int))) % 26).toNat = (at_ + 3 * i) % 26 := by omega
  rw [e3]
  rfl
theorem nmks_nodup {st : List Nat} {sp at_ m : Nat} (hs : sp ≤ st.length) (hm : m ≤ 4) : ((List.range m).map (nmk st sp at_)).Nodup := by
  rw [List.Nodup, List.pairwise_map]
  refine List.Pairwise.imp_of_mem ?_ List.pairwise_lt_range
  intro a b ha hb hlt e
  have h1 := List.mem_range.mp ha
  have h2 := List.mem_range.mp hb
  have := nmk_inj hs (by omega) (by omega) e
  omega
theorem Keep.upd_new {j D : Addr} {H1 H : Hp} {o : HO} (h : Keep j H1 H) (hn : H1 D = none) : Keep j H1 (upd H D o) := fun x u nx e => by
  rw [upd_ne (ne_of_none e hn)]
  exact h x u nx e
theorem Jar.upd {j D : Addr} {H : Hp} {n : Nat} {o : HO} (h : Jar H j n) (hn : D ≠ j) : Jar (upd H D o) j n := by
  obtain ⟨a, b, c, e, r⟩ := h
  exact ⟨a, b, c, by rw [upd_ne (Ne.symm hn)]; exact e, r⟩
theorem Jar.ne {j D : Addr} {H : Hp} {n : Nat} (h : Jar H j n) (hn : H D = none) : D ≠ j := fun e => by
  obtain ⟨a, b, c, q, r⟩ := h
  rw [e, q] at hn
  cases hn
theorem Keep.free {j D : Addr} {H H1 : Hp} (h : Keep j H H1) (hn : H1 D = none) (nj : D ≠ j) : H D = none := by
  cases e : H D with
  | none => rfl
  | some o =>
    rw [h D o nj e] at hn
    cases hn
def chr1 (c : Nat) : Str := ⟨#[c]⟩
theorem join_chars (acc : List Nat) : Txt.join (PySem.Str.ofString "") (acc.map chr1) = ⟨acc.toArray⟩ := by
  have e0 : (PySem.Str.ofString "").cps.toList = [] := by decide +kernel
  have h : (Txt.join (PySem.Str.ofString "") (acc.map chr1)).cps.toList = acc := by
    rw [TL.join_eq]
    show TL.tl _ = acc
    rw [TL.tl_join]
    show TL.joinL (PySem.Str.ofString "").cps.toList _ = acc
    rw [e0]
    induction acc with
    | nil => rfl
    | cons a l ih =>
      cases l with
      | nil => rfl
      | cons b r =>
        show [a] ++ ([] ++ TL.joinL [] (List.map TL.tl (List.map chr1 (b :: r)))) = a :: b :: r
        rw [ih]
        rfl
  cases hj : Txt.join (PySem.Str.ofString "") (acc.map chr1) with
  | mk cps =>
    rw [hj] at h
    have h' : cps.toList = acc := h
    rw [← h']
structure Txt1 (mg : Str → Option Value) : Prop extends Txt0 mg where
  range : mg "range" = none
section
variable {base : Heap} {P : Program} {w : World} {K : PySem.W.Frag} {mg : Str → Option Value}
abbrev jarOf (P : Program) (w : World) (K : PySem.W.Frag) (mg : Str → Option Value) (base : Heap) : Prop := Has P w K mg base "_law_of" 2 ["_law_jar_here", "_law_some"] (spOf K)
abbrev jarTake (P : Program) (w : World) (K : PySem.W.Frag) (mg : Str → Option Value) (base : Heap) : Prop := Has P w K mg base "_law_take" 1 ["_law_jar_here", "_law_many"] spTake
def spNames : Sp := fun vs H Q _ => ∃ (j : Addr) (n m : Nat), vs = [.ref j, .int m] ∧ Jar H j n ∧ n ≤ 8000 ∧ m ≤ 4 ∧
  ∀ (p : Addr) (H' : Hp) (ws : List Str), ws.length = m → ws.Nodup → (∀ x ∈ ws, IsNm x) → Jar H' j (n + 10) → Keep j H H' → H p = none → H' p = some (.lst (ws.map V.str)) → Q (.ref p) H'
abbrev nNames : List Str := ["_law_jar_here", "_law_many", "_law_small", "_law_stem", "_law_spot", "_law_at", "_law_turn", "_law_k"]
theorem scNames : FnScope nNames ["_law_jar_here", "_law_many"] (defScope sNames) := ⟨rfl, rfl, rfl, by decide +kernel, rfl, by decide +kernel, by decide +kernel⟩
theorem ok_names {f : Addr} {fd : FuncData} (F : Fun K "_law_names" "_law_names" sNames f fd) (T : Txt1 mg) (G : jarTake P w K mg base) (GO : jarOf P w K mg base) : FnOk P w K mg base CX0 3 f fd ["_law_jar_here", "_law_many"] spNames := by
  refine F.ok scNames (fun vs H Q E h => ?_) (fun cdv A outer s H vs Q E hr h => ?_)
  · obtain ⟨j, n, m, rfl, _⟩ := h
    rfl
  · obtain ⟨j, n, m, rfl, hj, hn, hm, k⟩ := h
    have hr1 : Room 1 _ := (hr.mono (by decide))
    refine ⟨_, pss_cons (ps_set (i := 2) scNames.nd rfl (.inr rfl) pe_str)
      (pss_cons (ps_set (i := 3) scNames.nd rfl (.inr rfl) (pe_join pe_str (pe_lc (own := [("_law_turn", 6)]) (g := gName 6) (tt := tYes) rfl scNames.nd
          (pi_range1 (by rfl) T.range (pa_cons (pe_has GO hr (pa_cons (pv 0) (pa_cons (pe_lst (pa_cons pe_int (pa_cons pe_int (pa_cons pe_int (pa_cons pe_int (pa_cons pe_int pa_nil)))))) pa_nil))) pa_nil))
          (blkOk_by (N := nNames) (sc := defScope sNames) (by decide +kernel)) (fun _ _ _ _ _ => pg_name (i := 6) scNames.nd rfl (Or.inl rfl)) (fun _ _ _ _ _ => pts_nil)
          (fun _ _ _ _ _ => pe_has GO hr (pa_cons (pv 0) (pa_cons (pv 2) pa_nil))))))
      (pss_cons (ps_asg (pe_tup (pa_cons (pe_has G hr1 (pa_cons (pv 0) (pa_cons (pe_op op_add (pe_callB call_len_str (by rfl) T.len PySem.boot_len (pa_cons (pv 3) pa_nil)) pe_int) pa_nil))) (pa_cons (pe_has G hr1 (pa_cons (pv 0) (pa_cons pe_int pa_nil))) pa_nil)))
          (pg_tup rfl (pgs_cons (pg_name (i := 4) scNames.nd rfl (Or.inr rfl)) (pgs_cons (pg_name (i := 5) scNames.nd rfl (Or.inr rfl)) pgs_nil))))
      (pss_one (ps_ret (pe_lc (own := [("_law_k", 7)]) (g := gName 7) (tt := tYes) rfl scNames.nd (pi_range1 (by rfl) T.range (pa_cons (pv 1) pa_nil))
          (blkOk_by (N := nNames) (sc := defScope sNames) (by decide +kernel)) (fun _ _ _ _ _ => pg_name (i := 7) scNames.nd rfl (Or.inl rfl)) (fun _ _ _ _ _ => pts_nil)
          (fun _ _ _ _ _ => pe_op op_add_str (pe_op op_add_str (pe_slice sl_str (pv 3) po_none (po_some (pv 4)))
            (pe_ix ix_str (pv 2) (pe_op op_mod (pe_callTy call_int1 (by rfl) T.int (by decide +kernel) (pa_cons (pe_op op_add (pv 5) (pe_op op_mul pe_int (pv 7))) pa_nil)) pe_int) (fun _ _ => rfl)))
            (pe_slice sl_str (pv 3) (po_some (pv 4)) po_none))))))), ?_⟩
    refine ⟨⟨_, rfl⟩, .ref j, rfl, (by show 5 ≤ sizeLine; decide), fun p0 hp0 => ?_⟩
    have n0 : p0 ≠ j := hj.ne hp0
    refine ⟨j, n, .ref p0, rfl, hj.upd n0, by omega, .inl ⟨p0, _, rfl, n0, SqL.of upd_same, by decide, by decide, fun y H1 hy hj1 kp1 => ?_⟩⟩
    obtain ⟨r, rfl, hr7⟩ : ∃ r : Nat, y = .int (r : Int) ∧ r ≤ 7 := by
      simp only [List.mem_cons, List.not_mem_nil, or_false] at hy
      rcases hy with rfl | rfl | rfl | rfl | rfl
      · exact ⟨0, rfl, by decide⟩
      · exact ⟨0, rfl, by decide⟩
      · exact ⟨1, rfl, by decide⟩
      · exact ⟨3, rfl, by decide⟩
      · exact ⟨7, rfl, by decide⟩
    have kp1' : Keep j H H1 := (Keep.new hp0).trans kp1
    refine ⟨_, rfl, by omega, by omega, fun D nD => ?_⟩
    have nDj : D ≠ j := hj1.ne nD
    have fD : H D = none := kp1'.free nD nDj
    refine lc_range (lo := 0) (n := ((r : Nat) : Int).toNat) (fun i H2 => ∃ acc : List Nat, acc.length = i ∧ (∀ c ∈ acc, Low c) ∧ H2 D = some (.lst ((acc.map chr1).map V.str)) ∧ Jar H2 j (n + 1 + i) ∧ Keep j H H2)
      ⟨[], rfl, (fun c hc => (List.not_mem_nil hc).elim), upd_same, hj1.upd nDj, kp1'.upd_new fD⟩ ?_ ?_
    · rintro i H2 hi ⟨acc, la, lo, hD, hj2, kp2⟩
      refine ⟨rfl, _, rfl, .str abc, rfl, j, _, .str abc, rfl, hj2, by omega, .inr ⟨abc, rfl, (by rw [abc_len]; decide), (by rw [abc_len]; decide), fun c H3 hc hj3 kp3 => ?_⟩⟩
      refine ⟨_, kp3 _ _ nDj hD, ?_, acc ++ [c], by simp [la], fun x hx => ?_, ?_, (hj3.upd nDj).mono (by omega), (kp2.trans kp3).upd_new fD⟩
      · rw [List.length_map, List.length_map, la]
        exact small1000 (by omega)
      · rcases List.mem_append.mp hx with h | h
        · exact lo x h
        · have := List.mem_singleton.mp h
          subst this
          exact abc_low _ hc
      · rw [upd_same, List.map_append, List.map_append]
        rfl
    · rintro H2 ⟨acc, la, lo, hD, hj2, kp2⟩
      have la7 : acc.length ≤ 7 := by omega
      refine ⟨_, D, acc.map chr1, rfl, rfl, .inl (SqL.of hD), ?_, ?_⟩
      · have : ((acc.map chr1).map (·.length)).sum = acc.length := by
          clear la la7 hD lo
          induction acc with
          | nil => rfl
          | cons a l ih =>
            rw [List.map_cons, List.map_cons, List.sum_cons, ih, List.length_cons]
            show 1 + l.length = l.length + 1
            omega
        rw [this, List.length_map]
        show acc.length + acc.length * 0 ≤ 16777216
        omega
      have ej : Txt.join (PySem.Str.ofString "") (acc.map chr1) = ⟨acc.toArray⟩ := join_chars acc
      have ls : (Txt.join (PySem.Str.ofString "") (acc.map chr1)).length = acc.length := by
        rw [ej]
        show acc.toArray.size = _
        simp
      refine ⟨.ref j, rfl, _, rfl, _, rfl, (by rw [ls]; exact Nat.le_trans la7 (by decide)), _, 1, rfl, rfl, j, _, _, rfl, hj2, by omega, by omega, by rw [ls]; omega, fun d H3 d0 d1 hj3 kp3 => ?_⟩
      refine ⟨.ref j, rfl, j, 26, _, rfl, hj3, by omega, by decide, by decide, fun e H4 e0 e1 hj4 kp4 => ?_⟩
      refine ⟨(by show 2 ≤ sizeLine; decide), fun q hq => ?_⟩
      have nqj := hj4.ne hq
      refine ⟨q, _, rfl, SqT.of upd_same, rfl, _, _, rfl, _, _, rfl, rfl, ?_⟩
      have kp4' : Keep j H H4 := (kp2.trans kp3).trans kp4
      have fq : H q = none := kp4'.free hq nqj
      refine ⟨_, rfl, m, rfl, by omega, by omega, fun D2 nD2 => ?_⟩
      have hj5 : Jar (upd H4 q (.tup [.int d, .int e])) j (n + 10) := (hj4.upd nqj).mono (by omega)
      have kp5 : Keep j H (upd H4 q (.tup [.int d, .int e])) := kp4'.upd_new fq
      have nD2j := hj5.ne nD2
      have fD2 := kp5.free nD2 nD2j
      obtain ⟨sp, rfl⟩ := Int.eq_ofNat_of_zero_le d0
      obtain ⟨at_, rfl⟩ := Int.eq_ofNat_of_zero_le e0
      rw [ls] at d1
      refine lc_range (lo := 0) (n := ((m : Nat) : Int).toNat) (fun i H5 => H5 D2 = some (.lst (((List.range i).map (nmk acc sp at_)).map V.str)) ∧ Jar H5 j (n + 10) ∧ Keep j H H5)
        ⟨upd_same, hj5.upd nD2j, kp5.upd_new fD2⟩ ?_ ?_
      · rintro i H5 hi ⟨hD2, hj6, kp6⟩
        have sz : (Txt.join (PySem.Str.ofString "") (acc.map chr1)).length ≤ sizeLine := by
          rw [ls]
          exact Nat.le_trans la7 (by decide)
        refine ⟨rfl, _, rfl, _, rfl, _, rfl, _, rfl, sz, .str abc, rfl, _, rfl, _, rfl, 3, _, rfl, rfl, .inl ⟨by decide, by decide⟩, _, _, rfl, rfl, .inl ⟨_, rfl, _, 26, rfl, rfl, (show (0 : Int) < 26 by decide), abc, _, _, rfl, rfl, (by rw [abc_len]; decide), abc_at (Int.emod_nonneg _ (by decide)) (Int.emod_lt_of_pos _ (by decide)), ?_⟩⟩
        refine ⟨_, _, rfl, rfl, ?_, _, rfl, _, rfl, _, rfl, _, rfl, sz, _, _, rfl, rfl, ?_, _, hD2, ?_, ?_, hj6.upd nD2j, kp6.upd_new fD2⟩
        · have h1 := cutS_length (Txt.join (PySem.Str.ofString "") (acc.map chr1)) none (some (sp : Int))
          rw [ls] at h1
          show _ + 1 ≤ sizeLine
          exact Nat.le_of_lt (small1000 (by omega))
        · have h1 := cutS_length (Txt.join (PySem.Str.ofString "") (acc.map chr1)) none (some (sp : Int))
          have h2 := cutS_length (Txt.join (PySem.Str.ofString "") (acc.map chr1)) (some (sp : Int)) none
          rw [ls] at h1 h2
          rw [Str.length_append]
          show _ + 1 + _ ≤ sizeLine
          exact Nat.le_of_lt (small1000 (by omega))
        · rw [List.length_map, List.length_map, List.length_range]
          exact small1000 (by omega)
        · rw [upd_same, List.range_succ, List.map_append, List.map_append, ej]
          have := nm_eq (acc := acc) (sp := sp) (at_ := at_) (i := i) (by omega)
          rw [this]
          rfl
      · rintro H5 ⟨hD2, hj6, kp6⟩
        refine k D2 H5 _ ?_ (nmks_nodup (st := acc) (sp := sp) (at_ := at_) (m := m) (by omega) (by omega)) ?_ hj6 kp6 fD2 hD2
        · (rw [List.length_map, List.length_range])
        · intro x hx
          obtain ⟨i, _, rfl⟩ := List.mem_map.mp hx
          exact nmk_is (by omega) la7 lo
end
end K17

namespace K17
open L2 PySem PySem.Spec PyProof.Rows
/-! ### an exception that is kept under a name behind its suite -/
/-- at a: an exception object of the class cls, its own dict d -/
def ExV (cls : Value) (d : Option Addr) (a : Addr) : HO := .ext fun h => ∃ (oe : Obj) (vs : Array Value), h.get? a = some oe ∧ Zc cls d oe ∧ oe.data = .fields vs
theorem exV_ok {P : Program} {w : World} {H : Hp} {h : Heap} {a : Addr} {cls : Value} {d : Option Addr} {oe : Obj} {vs : Array Value} (e : h.get? a = some oe) (z : Zc cls d oe) (q : oe.data = .fields vs) : ObjOk P w H h a (ExV cls d a) :=
  ⟨⟨oe, vs, e, z, q⟩, ⟨oe, e⟩, fun _ _ ⟨oe', vs', e', r⟩ k => ⟨oe', vs', k _ e', r⟩⟩
theorem exV_at {P : Program} {w : World} {H : Hp} {h : Heap} {a : Addr} {cls : Value} {d : Option Addr} (hok : HOk P w H h) (e : H a = some (ExV cls d a)) : ∃ (oe : Obj) (vs : Array Value), h.get? a = some oe ∧ Zc cls d oe ∧ oe.data = .fields vs := by
  have x : ObjOk P w H h a (.ext fun h => ∃ (oe : Obj) (vs : Array Value), h.get? a = some oe ∧ Zc cls d oe ∧ oe.data = .fields vs) := hok a _ e
  exact x.1
section
variable {X : Cx} {σ : L2.St} {pins : List (Addr × Obj)} {H : Hp} {s : Shared}
/-- an object that came behind the entry and is not looked after yet: looked after from now on -/
theorem track {a : Addr} {o : HO} (I : Inv X pins σ H s) (hn : H a = none) (nL : a ≠ X.env.locals) (nc : ∀ x c, X.env.cells.lookup x = some c → c ≠ a) (n0 : X.s_0.heap.get? a = none)
    (np : ∀ p ∈ X.pn ++ pins, p.1 ≠ a) (new : ObjOk X.prog X.w (upd H a o) s.heap a o) : Inv X pins σ (upd H a o) s := by
  have far : ∀ b u, X.s_0.heap.get? b = some u → b ≠ a := fun b u e z => by
    rw [z, n0] at e
    cases e
  have old : ∀ {b : Addr} {u : HO}, H b = some u → (upd H a o) b = some u := fun {b u} e => by
    rw [upd_ne (ne_of_none e hn)]
    exact e
  refine ⟨I.ok, I.os, I.bare, ?_, I.loc, I.cell, ?_, ?_, ?_, ?_, I.len⟩
  · exact
      { keep := I.base.keep
        slot := I.base.slot
        free := fun b u e n x => by
          rw [upd_ne (far b u e)]
          exact I.base.free b u e n x
        there := I.base.there
        tups := fun b xs e => old (I.base.tups b xs e)
        frzs := fun b u v e => old (I.base.frzs b u v e)
        tbls := fun b ps e => by
          obtain ⟨m, q⟩ := I.base.tbls b ps e
          exact ⟨m, old q⟩ }
  · rw [upd_ne (Ne.symm nL)]
    exact I.free
  · intro x c e
    rw [upd_ne (nc x c e)]
    exact I.freeC x c e
  · intro p hp
    obtain ⟨h1, h2, h3⟩ := I.pin p hp
    refine ⟨h1, ?_, h3⟩
    rw [upd_ne (np p hp)]
    exact h2
  · exact I.hok.laidN (fun _ _ e => e) hn new
end
/-- what `except x as n` wishes, the error being kept behind the suite -/
def wKeep (K : PySem.W.Frag) (c : Value) (i : Nat) (ts : Addr → Value → Option Addr → TS) (Wout : WX) (D : Ends) : WX := fun cls d σ H =>
  ∃ b, PySem.W.exmOne K cls c = some b ∧ (b = true → ∀ a, H a = none → ts a cls d { nx := fun σ' H' => D.nx (σ'.set i none) (upd H' a (ExV cls d a)), rt := fun _ _ => False } (σ.set i (some (.ref a))) H) ∧ (b = false → Wout cls d σ H)
section
variable {X : Cx} {n x : Str} {c : Value} {i : Nat} {body suite : List Stmt} {b₀ : Stmt} {np pos pos' : Pos} {tb : WX → TS} {ts : Addr → Value → Option Addr → TS} {Wout : WX}
theorem ps_try_keep (hex : X.ex = []) (hs : X.stack = X.env :: X.outer) (hf : X.env.frame = some X.env.locals) (hN : X.N.Nodup) (hi : X.N[i]? = some n) (hln : X.env.kindOf n = some .local) (hc : Names X x c) (tk : L2.Takes X Wout)
    (hb : ∀ (W : WX) (pn : List (Addr × Obj)) (xe : Value → Shared → Prop), L2.Takes (X.tr pn xe) W → PassesOwn (model X.prog X.w) X.A X.env xe → PSs (X.tr pn xe) body (tb W))
    (hsu : ∀ (a : Addr) (oe : Obj) (cls : Value) (d : Option Addr) (pq : List (Addr × Obj)), Zc cls d oe → (∃ vs, oe.data = .fields vs) → PSs (X.suite a ((a, oe) :: pq)) (b₀ :: suite) (ts a cls d)) :
    PS X (.Try body [.ExceptHandler (some (.Name x np)) (some n) (b₀ :: suite) pos'] [] [] pos) (fun D σ H => tb (wKeep X.K c i ts Wout D) D σ H) := by
  refine ⟨fun pins s σ H D I h => wpAny_Try_except ?_⟩
  have okX := I.ok
  have hframes : X.A.frames = some (X.env :: X.outer) := okX.frames.trans (congrArg some hs)
  have hb' := hb (wKeep X.K c i ts Wout D) (X.pn ++ pins) (fun e s₁ => wpAny (model X.prog X.w) X.A (noteFrame e X.env) (fun _ s₂ => wpAny (model X.prog X.w) X.A (setFlight e none)
    (fun _ s₃ => wpAny (model X.prog X.w) X.A (handleBy e X.env [.ExceptHandler (some (.Name x np)) (some n) (b₀ :: suite) pos']) (SP X pins D) X.xe s₃) X.xe s₂) X.xe s₁)
  refine wpAny_mono ((hb' (fun u t xx => ?caught) PassesOwn.looking).run [] s σ H D (I.toTry _) h) (fun f s1 hsp => ?passed) (fun _ _ he => he)
  case passed =>
    cases f
    case next =>
      obtain ⟨σ1, H1, J, q⟩ := hsp
      exact wpAny_execs_nil ⟨σ1, H1, J.ofTry okX, q⟩
    case ret v =>
      obtain ⟨y, σ1, H1, J, r, q⟩ := hsp
      exact ⟨y, σ1, H1, J.ofTry okX, r, q⟩
    all_goals
      obtain ⟨σ1, H1, J, q⟩ := hsp
      exact ⟨σ1, H1, J.ofTry okX, q⟩
  case caught =>
    obtain ⟨a, B, sI, pins1, σ1, H1, cls, d, rfl, JT, nb, up, sky, na, os, ag, b, hb1, hyes, hno⟩ := xx
    have JI : Inv X pins σ1 H1 sI := JT.ofTry okX
    rw [hs] at sky
    show wpAny _ X.A (noteFrame (.ref a) X.env) _ _ _
    refine Sky.land Zc.steady hframes hf sky fun h3 fl3 up3 => ?_
    have J3 : Inv X pins σ1 H1 { t with heap := h3 } := JI.landed nb fl3.1 (up.trans up3) os ag
    (obtain ⟨oe3, vs3, he3, hz3, hd3⟩ := fl3.there)
    have nfr : a ∉ frs (X.env :: X.outer) := fun hm => by
      obtain ⟨_, o', e', hnf⟩ := fl3.2.2.1.mem hm
      rw [he3] at e'
      cases e'
      exact hnf _ hd3
    have nL : a ≠ X.env.locals := fun zz => nfr (List.mem_filterMap.mpr ⟨X.env, List.mem_cons_self, by rw [hf, zz]⟩)
    have nF : ¬ a ∈ X.fs := fun hm => by
      (obtain ⟨e, he, q⟩ := List.mem_filterMap.mp hm)
      (exact nfr (List.mem_filterMap.mpr ⟨e, List.mem_cons_of_mem _ he, q⟩))
    -- the exception came in the body
    have nI : sI.heap.get? a = none := by
      cases e : sI.heap.get? a with
      | none => rfl
      | some o =>
        have z := nb a o e (by rw [hs]; exact nfr)
        have k2 : B.get? a = none := fl3.2.1
        rw [k2] at z
        cases z
    have n0 : X.s_0.heap.get? a = (none : Option Obj) := by
      cases e : (X.s_0.heap.get? a) with
      | none => rfl
      | some o =>
        obtain ⟨o', q⟩ := JI.base.there a o e (by rw [hex]; exact fun z => nomatch z)
        rw [nI] at q
        cases q
    have np' : ∀ p ∈ X.pn ++ pins, p.1 ≠ a := fun p hp z => by
      have q := (JI.pin p hp).1
      rw [z, nI] at q
      cases q
    have nc : ∀ y k, X.env.cells.lookup y = some k → k ≠ a := fun y k e z => by
      obtain ⟨v, o, q, _⟩ := JI.cell y k e
      rw [z, nI] at q
      cases q
    have S3 := (J3.suite he3 hd3 na nL nF)
    (refine wpAny_handleBy_cons (codeAny_handlers_test ?_) (by intro q; cases q))
    have LT : PySem.W.Looks (model X.prog X.w) h3 (typeOf (.ref a)) cls := (fun A Q E s k q => wpAny_typeOf_ref (k _ _ he3) (by rw [hz3.1]; exact q))
    have LM := PySem.W.exm_one (M := model X.prog X.w) J3.kIn LT hb1
    have named : ∀ {Q : Value → Shared → Prop} {E : Value → Shared → Prop}, Q c { t with heap := h3 } → wpAny (model X.prog X.w) (X.A.mark (some (.ref a))) (eval (.Name x np) X.env) Q E { t with heap := h3 } := fun {Q E} q => by
      (obtain ⟨hg, hdbg, hm | ⟨hm, hv, hnn⟩⟩ := hc)
      · (exact ld_glob (X := X.suite a ((a, oe3) :: (X.pn ++ pins))) S3 hg hm q hdbg)
      · (exact ld_blt (X := X.suite a ((a, oe3) :: (X.pn ++ pins))) S3 hg hm hv q hnn hdbg)
    refine named (LM.here ?_)
    cases b with
    | false =>
      (show wpAny _ X.A (handleBy (.ref a) X.env []) _ _ _)
      refine wpAny_handleBy_nil ?_
      obtain ⟨_, _, _, oe, vs, T, oT, ts', he, hz, hd, h1, hr⟩ := id fl3
      unfold PySem.passOn
      (refine wpAny_bind (wpAny_field he hd h1 ?_))
      (rw [if_neg (show ¬ ((Value.ref T == Value.none) = true) from by simp)])
      have out : wpAny (model X.prog X.w) X.A (setFlight (.ref a) X.env.frame) (fun _ s4 => wpAny (model X.prog X.w) X.A (throw (.ref a) : Sem Flow) (SP X pins D) X.xe s4) X.xe { t with heap := h3 } := by
        rw [hf]
        (refine HandSPX.setFlight_upZ fl3 fun h4 hh4 up4 => wpAny_throw (tk _ _ ?_))
        exact ⟨a, B, sI, pins, σ1, H1, cls, d, rfl, JI, nb, (up.trans up3).trans up4, .inr (.inr (by rw [hs]; exact hh4)), na, os, ag, hno rfl⟩
      first
        | exact wpAny_bind out
        | exact wpAny_bind (wpAny_pure (wpAny_bind out))
    | true =>
      refine codeAny_handlers_suite_as (HandSPX.lands_againZ fl3 fun h4 fl4 up4 => ?_)
      have J4 : Inv X pins σ1 H1 { t with heap := h4 } := JI.landed nb fl4.1 ((up.trans up3).trans up4) os ag
      (obtain ⟨oe4, vs4, he4, hz4, hd4⟩ := fl4.there)
      refine store_ok (X := X.suite a ((a, oe4) :: (X.pn ++ pins))) (v := .ref a) (J4.suite he4 hd4 na nL nF) hN hi (.inl hln) rfl (fun s5 S5 => ?_) (.inr hln)
      refine wpAny_mono ((hsu a oe4 cls d (X.pn ++ pins) hz4 ⟨_, hd4⟩).run [] s5 _ H1 _ S5 (hyes rfl a na)) (fun f s6 hsp => ?_) (fun _ _ z => False.elim z)
      cases f
      case next =>
        (obtain ⟨σ6, H6, S6, q6⟩ := hsp)
        obtain ⟨g1, g2, _⟩ := S6.pin (a, oe4) (List.mem_append_left _ List.mem_cons_self)
        have J7 := track (o := ExV cls d a) (S6.unsuite okX) g2 nL nc n0 np' (exV_ok g1 hz4 hd4)
        exact gone_ok J7 hN hi hln fun s7 J8 => ⟨_, _, J8, q6⟩
      case ret v =>
        obtain ⟨_, _, _, _, _, q6⟩ := hsp
        exact False.elim q6
      all_goals
        obtain ⟨_, _, _, q6⟩ := hsp
        exact False.elim q6
end
/-! ### its field, isinstance of it -/
section
variable {X : Cx} {C : Addr}
/-- e.n, e an error that was kept -/
def tXv (C : Addr) (n : Str) (te : TE) : TE := fun σ H Q => te σ H fun x H1 => ∃ (a dd : Addr) (fs : List (Str × V)) (v : V), x = .ref a ∧ H1 a = some (ExV (.ref C) (some dd) a) ∧ H1 dd = some (.xd fs) ∧ fs.lookup n = some v ∧ Q v H1
theorem exv_inst {pins : List (Addr × Obj)} {σ : L2.St} {H : Hp} {s : Shared} {a dd : Addr} {fs : List (Str × V)} (I : Inv X pins σ H s) (e1 : H a = some (ExV (.ref C) (some dd) a)) (e2 : H dd = some (.xd fs)) :
    ∃ (oe od : Obj) (mA : Str → Option Value), PySem.W.InstAt s.heap a oe C (some od) ∧ (∀ f, PySem.W.lookIn f od = some (mA f)) ∧ ∀ f, RelO (fs.lookup f) (mA f) := by
  obtain ⟨oe, vs, ha, hz, hd⟩ := exV_at I.hok e1
  have hx : ObjOk X.prog X.w H s.heap dd (.xd fs) := I.hok dd _ e2
  obtain ⟨mA, hns, hr⟩ := hx
  (obtain ⟨od, ho, hl⟩ := lookIn_ns hns)
  exact ⟨oe, od, mA, ⟨ha, hz.1, by unfold PySem.W.notCls; rw [hd] <;> rfl, by rw [hz.2]; exact ho⟩, hl, hr⟩
theorem pe_exv {e : Expr} {te : TE} {pos : Pos} {n : Str} (T : XfC X.K C) (hno : PySem.W.findIn X.K (.ref C) n = some none) (he : PE X e te) (hb : attributeBase e n X.env (eval e X.env) = eval e X.env := by rfl) : PE X (.Attribute e n pos) (tXv C n te) := by
  refine ⟨fun pins s σ H Q I h => attr_of hb (thn (he.run pins s σ H _ I h) fun u s1 hh => ?_)⟩
  obtain ⟨x, H1, I1, rx, a, dd, fs, v, ex, e1, e2, l, q⟩ := hh
  subst ex
  (obtain rfl : u = Value.ref a := rx)
  obtain ⟨oe, od, mA, J, hl, hr⟩ := exv_inst I1 e1 e2
  (obtain ⟨u, hu, ru⟩ := RelO.some_of (v := v) (o := mA n) (by rw [← l]; exact hr n))
  (exact HandSPX.exc_get I1.kIn J T.ga T.gg T.exC (PySem.W.findObj_own T.hdC hno rfl (by rw [hl, hu])) (handed_of ru) ⟨v, H1, I1.tok _, ru, q⟩)
def rIsV (K : PySem.W.Frag) (D : Addr) : List V → Hp → VK → Prop := fun xs H Q => ∃ (a dd : Addr) (fs : List (Str × V)) (c : V) (cv : Value) (b : Bool), xs = [.ref a, c] ∧ H a = some (ExV (.ref D) (some dd) a) ∧ H dd = some (.xd fs) ∧ (∀ u, RelV c u → u = cv) ∧ PySem.W.kitOne K (.ref D) cv = some b ∧ Q (.bl b) H
theorem call_isV (T : ExcC X.K C) : CallR X (.builtin "isinstance") (rIsV X.K C) := by
  (intro pins s σ H xs us Q I r h)
  obtain ⟨a, dd, fs, c, cv, b, rfl, e1, e2, hcv, e, q⟩ := h
  obtain ⟨oe, od, mA, J, _, _⟩ := exv_inst I e1 e2
  cases r with
  | cons rx rr =>
    cases rr with
    | cons rt rr =>
      cases rr
      cases rx
      have ec := hcv _ rt
      subst ec
      have hcl : (PySem.W.clsIn X.K C).isSome = true := by
        obtain ⟨cd, hc, _⟩ := PySem.W.any_some T.hd
        rw [hc]
        rfl
      exact PySem.W.kia_one (PySem.W.kitx_exc hcl T.hg T.hk T.hs T.ha T.hn T.ht T.hm) I.kIn J e (fun z => nomatch z) fun tk => ⟨.bl b, H, I.kept (t' := tk) fun _ _ z => z, rfl, q⟩
end
end K17

namespace K17
open L2 PySem PySem.Spec PyProof.Rows
/-! ### defs that are called where no repr runs (their bodies show data by repr) -/
structure FnG (P : Program) (w : World) (K : PySem.W.Frag) (mg : Str → Option Value) (base : Heap) (k : Nat) (f : Addr) (fd : FuncData) (ps : List Str) (sp : Sp) : Prop where
  len : ∀ (vs : List V) H Q E, sp vs H Q E → vs.length = ps.length
  run : ∀ (A : Around) (outer : List Env) (s : Shared) (H : Hp) (args : Args) (us : List Value) (vs : List V) (Q : VK) (E : XK), A.guards = some [] → Room k A → Env0 P w K mg base A outer s H →
    BindsTo s fd args (ps.zip us) → Vals vs us → sp vs H Q E → codeAny (model P w) A (.call (.ref f) args) (CR CX0 outer P w H s Q E) s
section
variable {base : Heap} {P : Program} {w : World} {K : PySem.W.Frag} {mg : Str → Option Value}
theorem Fun.okG {x qual : Str} {st : Stmt} {f : Addr} {fd : FuncData} {N ps : List Str} {k : Nat} {sp : Sp} (F : Fun K x qual st f fd) (S : FnScope N ps (defScope st)) (len : ∀ vs H Q E, sp vs H Q E → vs.length = ps.length)
    (hbody : ∀ (cdv : Value) (A : Around) (outer : List Env) (s : Shared) (H : Hp) (vs : List V) (Q : VK) (E : XK), A.guards = some [] → Room k (A.deeper (envOfC qual (defScope st) s.heap.objs.size f cdv)) → sp vs H Q E →
      ∃ t, PSs (cxOf CX0 P w K mg base N qual (defScope st) f cdv A outer s H E).nox (defBody st) t ∧ t { nx := fun _ H' => Q .non H', rt := Q } (L2.start N vs) H) : FnG P w K mg base (k + 1) f fd ps sp := by
  (obtain ⟨oc, od, kV, doc, pm, an, cdv, ct, osl, rfl, lk, hcd⟩ := F.ex)
  refine ⟨len, fun A outer s H args us vs Q E hg hr e0 hb r hsp => ?_⟩
  have nArgs := len _ _ _ _ hsp
  have inK : K.In s.heap := e0.mod.kin.keeps fun b o e => (e0.bs b o e).1
  have noLim : s.heap.NoLimit := e0.mod.nolimit.keeps fun b o e => (e0.bs b o e).1
  have kinds : ∀ y ∈ ps.zip us, (defScope st).names.lookup y.1 = some .local ∨ ((defScope st).names.lookup y.1 = some .cell ∧ ((cellsFrom (s.heap.objs.size + 1) (defScope st).names []).lookup y.1).isSome = true) := fun y hy => by
    rcases S.par y.1 (List.of_mem_zip (a := y.1) (b := y.2) hy).1 with q | q
    · exact Or.inl q
    · exact Or.inr ⟨q, PySem.W.cellsFrom_some _ _ _ (Or.inl q)⟩
  refine codeAny_call_function hr.depth (inK _ _ lk) rfl S.co S.gen rfl (PySem.W.codeRec_of inK hcd) (hb _ _ _ _ (wpAny_newFunctionEnv_cells S.kind kinds fun env he s1 xc => ?_))
  subst he
  obtain ⟨t, ht, hq⟩ := hbody cdv A outer s H vs Q E hg (hr.deeper _) hsp
  have I0 : Inv (cxOf CX0 P w K mg base N qual (defScope st) f cdv A outer s H E) [] (L2.start N vs) H s1 := inv_start S hr.hd e0 nArgs r xc
  have done : ∀ {σ1 : L2.St} {H1 : Hp} {v : V} {u : Value} {t1 : Shared}, Inv (cxOf CX0 P w K mg base N qual (defScope st) f cdv A outer s H E) [] σ1 H1 t1 → RelV v u → Q v H1 → CE outer P w H s Q u t1 :=
    fun {σ1 H1 v u t1} J rv q => ⟨v, H1, J.os, J.bare, J.base, J.hok, rv, q⟩
  refine ⟨noLim.keeps xc.toInCall.keep, codeAny_func (wpAny_mono (ht.nox.run [] s1 (L2.start N vs) H _ I0 hq) (fun fl t1 hs => ?_) fun _ _ hs => hs)⟩
  cases fl
  case ret u =>
    obtain ⟨v, σ1, H1, J, rv, q⟩ := hs
    exact done J rv q
  case next =>
    obtain ⟨σ1, H1, J, q⟩ := hs
    exact done (v := V.non) (u := Value.none) J rfl q
  all_goals
    obtain ⟨_, _, _, q⟩ := hs
    exact False.elim q
end
def HasG (P : Program) (w : World) (K : PySem.W.Frag) (mg : Str → Option Value) (base : Heap) (nm : Str) (k : Nat) (ps : List Str) (sp : Sp) : Prop :=
  ∃ (f : Addr) (fd : FuncData), FnG P w K mg base k f fd ps sp ∧ mg nm = some (.ref f) ∧ PySem.W.keepIn K (.ref f) = true ∧ Binds K fd ps []
theorem pe_hasG {X : Cx} {nm : Str} {k : Nat} {ps : List Str} {sp : Sp} {e : Expr} {es : List Expr} {t : TA} {p pos : Pos} (h : HasG X.prog X.w X.K X.mg X.base nm k ps sp) (hgu : X.A.guards = some []) (hr : Room k X.A) (ha : PA X (e :: es) t) (hg : Gl X nm := by rfl)
    (hdb : (nm == ("__debug__" : Str)) = false := by decide) (he : starEach (e :: es) X.env = (false, eval e X.env) :: starEach es X.env := by rfl) (hpl : (backTo pos (starEach es X.env)).any (·.1) = false := by rfl) :
    PE X (.Call (.Name nm p) (e :: es) [] pos) (tCall sp [] E0 t) := by
  obtain ⟨f, fd, F, hm, hk, hb⟩ := h
  refine ⟨fun pins s σ H Q I h => wpAny_Call_Name_kw (ld_glob I hg hm ?_ hdb)⟩
  (refine PySem.W.callWith_K (h₀ := X.base) I.ok.mod.kin hk (thn (ha.run pos pins s σ H _ I h) fun us s1 ⟨vs, H1, I1, r, q⟩ => ⟨I1.kIn, ?_⟩) he hpl)
  have q' : sp vs H1 Q E0 := by
    have z : sp (vs ++ []) H1 Q E0 := q
    rw [List.append_nil] at z
    exact z
  have hl : (us ++ []).length = ps.length := by
    rw [List.append_nil, ← r.length]
    exact F.len _ _ _ _ q'
  refine wpAny_call (codeAny_mono (F.run X.A X.stack s1 H1 ⟨us, []⟩ (us ++ []) vs Q E0 hgu hr I1.env0 (hb s1 us I1.kIn hl) (by rw [List.append_nil]; exact r) q') fun r s' hq => ?_)
  cases r with
  | error er => exact False.elim hq
  | ok fl =>
    cases fl with
    | ret u => exact I1.after hq
    | next => exact False.elim hq
    | brk => exact False.elim hq
    | cont => exact False.elim hq
/-! ### repr of data -/
def rRepr (K : PySem.W.Frag) : List V → Hp → VK → Prop := fun xs H Q => ∃ (a : Addr) (d : PyData), xs = [.ref a] ∧ Dp K H (.ref a) d ∧ d.showable = true ∧ d.hasDict = false ∧ d.depth ≤ 50 ∧ d.shown.length ≤ sizeLine ∧ Q (.str d.shown) H
theorem call_reprD {X : Cx} (hgu : X.A.guards = some []) (hu : X.A.units + 64 < cLine) : CallR X (.builtin "repr") (rRepr X.K) := by
  (intro pins s σ H xs us Q I r h)
  obtain ⟨a, d, rfl, hd, hs, hdi, hdp, hsz, q⟩ := h
  cases r with
  | cons rx rr =>
    cases rr
    obtain ⟨as, rd⟩ := Dp.reads I d _ _ hd rx
    cases rx
    exact repr_of_reads' rd hs (fun z => by rw [hdi] at z; cases z) hgu (by omega) (fun _ _ e => e) (fun h' u tk hk => ⟨.str d.shown, H, I.kept (t' := tk) hk, ⟨u, rfl⟩, q⟩) hsz
end K17

namespace K17
open PySem L2
abbrev sLines : Stmt := top 9
abbrev sWords : Stmt := top 10
abbrev sIsName : Stmt := top 11
/-! ### names, as both look at them -/
def nameB (w : Str) : Bool := (decide (1 ≤ w.length) && decide (w.length ≤ 8)) && (tx w).all fun c => decide (c ∈ tx abc)
theorem nameB_of {w : Str} (h : IsNm w) : nameB w = true := by
  unfold nameB
  rw [decide_eq_true h.pos, decide_eq_true h.len]
  refine List.all_eq_true.mpr fun c hc => decide_eq_true ?_
  obtain ⟨h1, h2⟩ := h.low c hc
  have all : ∀ c, 97 ≤ c → c ≤ 122 → c ∈ tx abc := by
    intro c a b
    have : c = 97 + (c - 97) := by omega
    rw [this]
    have z : ∀ n : Nat, n < 26 → 97 + n ∈ tx abc := by decide +kernel
    exact z _ (by omega)
  exact all c h1 h2
theorem take_one {α : Type} {l : List α} {i : Nat} {x : α} (h : l[i]? = some x) : l.take (i + 1) = l.take i ++ [x] := by
  rw [List.take_add_one, h]
  rfl
theorem same_new {D : Addr} {H H1 : Hp} {o : HO} (h : Same H H1) (hn : H D = none) : Same H (upd H1 D o) := fun x u e => by
  rw [upd_ne (ne_of_none e hn)]
  exact h x u e
structure Txt2 (K : PySem.W.Frag) (mg : Str → Option Value) : Prop extends Txt1 mg where
  all : mg "all" = none
  letters : ∃ t, mg "LETTERS" = some (.str abc t)
  longest : ∃ t, mg "LONGEST_NAME" = some (.int 8 t)
  isinst : mg "isinstance" = none
  str : mg "str" = none
section
variable {base : Heap} {P : Program} {w : World} {K : PySem.W.Frag} {mg : Str → Option Value}
def spName : Sp := fun vs H Q _ => ∃ z : Str, vs = [.str z] ∧ z.length ≤ 1000000 ∧ ∀ H', Same H H' → Q (.bl (nameB z)) H'
abbrev nIsName : List Str := ["word", "letter"]
theorem scIsName : FnScope nIsName ["word"] (defScope sIsName) := ⟨rfl, rfl, rfl, by decide +kernel, rfl, by decide +kernel, by decide +kernel⟩
/-- [.. in .. for .. in word] over the signs -/
theorem signs_all {z : Str} {σ : L2.St} {H : Hp} {Q : VK} {te : TE} (h0 : σ[0]? = some (some (.str z))) (hz : z.length ≤ 1000000)
    (hw : ∀ c : Nat, wipe ((wipe σ [1]).set 1 (some (.str ⟨#[c]⟩))) [1] = wipe σ [1])
    (he : ∀ (c : Nat) (H1 : Hp) (R : VK), R (.bl (decide (c ∈ tx abc))) H1 → te ((wipe σ [1]).set 1 (some (.str ⟨#[c]⟩))) H1 R)
    (k : ∀ D H', Same H H' → H' D = some (.lst (((tx z).map fun c => decide (c ∈ tx abc)).map V.bl)) → Q (.ref D) H') : tLc (iStr (tVar 0)) (gName 1) tYes te [1] σ H Q := by
  refine ⟨_, h0, z, rfl, fun D hD => ?_⟩
  have e0 : z.cps.size = (tx z).length := by simp [tx]
  refine lc_it (walk_str (z := z)) (fun i H' => Same H H' ∧ H' D = some (.lst ((((tx z).take i).map fun c => decide (c ∈ tx abc)).map V.bl))) ⟨same_upd hD, upd_same⟩ (fun _ _ _ _ => trivial) ?_ ?_
  · rintro i x H1 H2 hi ⟨s1, hd⟩ ⟨rfl, c, hc, rfl⟩
    refine ⟨hw c, ?_⟩
    show te _ H2 _
    refine he c H2 _ ?_
    have hc' : (tx z)[i]? = some c := by
      simpa [tx] using hc
    refine ⟨_, hd, ?_, same_new s1 hD, ?_⟩
    · rw [List.length_map, List.length_map, List.length_take]
      have : z.length = z.cps.size := rfl
      exact Nat.lt_of_le_of_lt (Nat.le_trans (Nat.min_le_left _ _) (Nat.le_trans (Nat.le_of_lt hi) (this ▸ hz))) (by decide)
    · rw [upd_same, take_one hc', List.map_append, List.map_append]
      rfl
  · rintro H1 ⟨s1, hd⟩
    refine k D H1 s1 ?_
    rw [hd, e0, List.take_length]
theorem all_map_id (l : List Nat) (p : Nat → Bool) : (l.map p).all id = l.all p := by
  rw [List.all_map]
  rfl
theorem ok_isName {f : Addr} {fd : FuncData} (F : Fun K "is_name" "is_name" sIsName f fd) (T : Txt2 K mg) : FnOk P w K mg base CX0 1 f fd ["word"] spName := by
  refine F.ok scIsName (fun vs H Q E h => ?_) (fun cdv A outer s H vs Q E hr h => ?_)
  · obtain ⟨z, rfl, _⟩ := h
    rfl
  · obtain ⟨z, rfl, hz, k⟩ := h
    obtain ⟨t1, g1⟩ := T.letters
    obtain ⟨t2, g2⟩ := T.longest
    refine ⟨_, pss_one (ps_ret (pe_and (pe_chain op_le op_le pe_int (pe_callB call_len_str (by rfl) T.len PySem.boot_len (pa_cons (pv 0) pa_nil)) (pe_glob (v := .int 8) (by rfl) g2 ⟨_, rfl⟩))
      (pe_one (pe_callB (cr_all rfl) (by rfl) T.all (by decide +kernel) (pa_cons (pe_lc (own := [("letter", 1)]) (g := gName 1) (tt := tYes) rfl scIsName.nd (pi_str (pv 0))
          (blkOk_by (N := nIsName) (sc := defScope sIsName) (by decide +kernel)) (fun _ _ _ _ _ => pg_name (i := 1) scIsName.nd rfl (Or.inl rfl)) (fun _ _ _ _ _ => pts_nil)
          (fun _ _ _ _ _ => pe_cmpR op_in_sign (pv 1) (pe_glob (v := .str abc) (by rfl) g1 ⟨_, rfl⟩) (by rfl))) pa_nil))))), ?_⟩
    refine ⟨_, rfl, z, rfl, Nat.le_trans hz (by decide), _, _, rfl, rfl, _, rfl, ?_⟩
    refine ite2 (fun h1 => ?_) (fun h1 => ?_)
    · refine ⟨_, _, rfl, rfl, _, rfl, ?_⟩
      refine ite2 (fun h2 => ?_) (fun h2 => ?_)
      · dsimp only [tCB, tCons, List.map]
        refine signs_all (z := z) ?_ hz ?_ ?_ ?_
        · rfl
        · exact fun _ => rfl
        · exact fun c H1 R q => ⟨_, rfl, c, abc, rfl, rfl, q⟩
        intro D H1 s1 hl
        refine ⟨D, _, rfl, SqL.of hl, ?_⟩
        have e : nameB z = ((tx z).map fun c => decide (c ∈ tx abc)).all id := by
          rw [all_map_id]
          unfold nameB
          rw [decide_eq_true (show 1 ≤ z.length by have := of_decide_eq_true h1; omega), decide_eq_true (show z.length ≤ 8 by have := of_decide_eq_true h2; omega)]
          rfl
        rw [← e]
        exact k H1 s1
      · have e : nameB z = false := by
          unfold nameB
          rw [decide_eq_false (show ¬ z.length ≤ 8 from fun q => h2 (decide_eq_true (by omega)))]
          simp
        have q := k H (Same.refl H)
        rw [e] at q
        exact q
    · have e : nameB z = false := by
        unfold nameB
        rw [decide_eq_false (show ¬ 1 ≤ z.length from fun q => h1 (decide_eq_true (by omega)))]
        simp
      have q := k H (Same.refl H)
      rw [e] at q
      exact ⟨_, rfl, q⟩
end
end K17

namespace K17
open PySem L2
abbrev sPartOf : Stmt := top 34
/-! ### texts of plain signs -/
def Asc (z : Str) : Prop := ∀ c ∈ tx z, c < 128
structure Txt3 (K : PySem.W.Frag) (mg : Str → Option Value) : Prop extends Txt2 K mg where
  ways : ∃ p, mg "WAYS" = some (.ref p) ∧ SqT K (fun _ => none) p ([.str "fresh", .str "once", .str "handed", .str "kept"] : List V)
def ways4 : List Str := ["fresh", "once", "handed", "kept"]
def wayB (z : Str) : Bool := ways4.any fun y => y == z
def wTakes : Str := "takes"
def wPart : Str := "part"
/-- what the words of a line tell -/
def partOf : List Str → Option (Str × Str × Bool)
  | a :: b :: c :: r => if a = wPart ∧ nameB b = true ∧ wayB c = true ∧ (r = [] ∨ r = [wTakes]) then some (b, c, decide (r = [wTakes])) else none
  | _ => none
/-! ### data of texts -/
theorem asc_ok {z : Str} (h : Asc z) : PyData.canLay0 (.str z) = true := by
  have e : PyData.canLay0 (.str z) = z.cps.all (· < 0x110000) := by
    simp only [PyData.canLay0]
    rfl
  rw [e, ← Array.all_toList]
  exact List.all_eq_true.mpr fun c hc => decide_eq_true (Nat.lt_trans (h c hc) (by decide))
theorem texts_lay : ∀ {l : List Str}, (∀ z ∈ l, Asc z) → PyData.canLayAll0 (l.map PyData.str) = true
  | [], _ => rfl
  | a :: l, h => by
    show (PyData.canLay0 (.str a) && PyData.canLayAll0 (l.map PyData.str)) = true
    rw [texts_lay (l := l) fun z hz => h z (List.mem_cons_of_mem _ hz)]
    rw [asc_ok (h a List.mem_cons_self)]
    rfl
theorem texts_depth : ∀ l : List Str, PyData.depthAll (l.map PyData.str) = 0
  | [] => rfl
  | a :: l => by
    show max (PyData.depth (.str a)) (PyData.depthAll (l.map PyData.str)) = 0
    rw [texts_depth l]
    simp [PyData.depth]
theorem texts_shaped {l : List Str} (h : ∀ z ∈ l, Asc z) : SeqAt.shaped (.list (l.map PyData.str)) = true := by
  unfold SeqAt.shaped
  have h1 : PyData.canLay0 (.list (l.map PyData.str)) = true := by
    simpa [PyData.canLay0] using texts_lay h
  have h2 : PyData.depth (.list (l.map PyData.str)) = 1 := by
    simp [PyData.depth, texts_depth]
  rw [h1, h2]
  rfl
theorem texts_dp {K : PySem.W.Frag} {H : Hp} : ∀ l : List Str, DpAll K H (l.map V.str) (l.map PyData.str)
  | [] => .nil
  | a :: l => .cons (.str a) (texts_dp l)
def rNotInT (K : PySem.W.Frag) : R2 := fun x y H Q => ∃ d ds, Dp K H x d ∧ Dp K H y (.tuple ds) ∧ SeqAt.shaped d = true ∧ SeqAt.shaped (.tuple ds) = true ∧ Q (.bl (!ds.any fun z => PyData.eqv z d)) H
theorem op_notInT {X : Cx} (hu : X.A.units + 65 < cLine) : OpR X (compareOp .NotIn) (rNotInT X.K) := by
  (intro pins s σ H x y v u Q I rx ry h)
  (obtain ⟨d, ds, hd, he, sd, se, q⟩ := h)
  (obtain ⟨as, r1⟩ := Dp.reads I d x v hd rx)
  obtain ⟨bs, r2⟩ := Dp.reads I (.tuple ds) y u he ry
  exact SeqAt.notIn_tuple_reads r2 r1 (SeqAt.canLay_of_shaped se) (SeqAt.canLay_of_shaped sd) (PyProof.Rows.room_in_shaped sd hu) ⟨.bl _, H, I, rfl, q⟩
/-- is it none of [] and [takes] -/
theorem rest_any (l : List Str) : (([.list [], .list [.str wTakes]] : List PyData).any fun z => PyData.eqv z (.list (l.map PyData.str))) = decide (l = [] ∨ l = [wTakes]) := by
  match l with
  | [] => rfl
  | [a] =>
    show (PyData.eqv (.list []) (.list [.str a]) || (PyData.eqv (.list [.str wTakes]) (.list [.str a]) || false)) = _
    have e1 : PyData.eqv (.list []) (.list [.str a]) = false := by simp [PyData.eqv, PyData.eqvAll]
    have e2 : PyData.eqv (.list [.str wTakes]) (.list [.str a]) = (wTakes == a) := by simp [PyData.eqv, PyData.eqvAll]
    rw [e1, e2]
    by_cases h : wTakes = a
    · subst h
      simp
    · have h' : ¬ a = wTakes := fun z => h z.symm
      simp [h, h']
  | a :: b :: r =>
    have e1 : PyData.eqv (.list []) (.list ((a :: b :: r).map PyData.str)) = false := by simp [PyData.eqv, PyData.eqvAll]
    have e2 : PyData.eqv (.list [.str wTakes]) (.list ((a :: b :: r).map PyData.str)) = false := by simp [PyData.eqv, PyData.eqvAll]
    show (PyData.eqv (.list []) (.list ((a :: b :: r).map PyData.str)) || (PyData.eqv (.list [.str wTakes]) (.list ((a :: b :: r).map PyData.str)) || false)) = _
    rw [e1, e2]
    simp
theorem way_in (z : Str) : inV (.str z) [.str "fresh", .str "once", .str "handed", .str "kept"] = wayB z := rfl
abbrev sWordsN : List Str := ["line"]
theorem scWords : FnScope sWordsN ["line"] (defScope sWords) := ⟨rfl, rfl, rfl, by decide +kernel, rfl, by decide +kernel, by decide +kernel⟩
section
variable {base : Heap} {P : Program} {w : World} {K : PySem.W.Frag} {mg : Str → Option Value}
def blank : Str := " "
def wordsOf (z : Str) : List Str := Txt.split z blank
def spWords : Sp := fun vs H Q _ => ∃ z : Str, vs = [.str z] ∧ z.length ≤ 1000000 ∧ ∀ p H', H p = none → Same H H' → H' p = some (.lst ((wordsOf z).map V.str)) → Q (.ref p) H'
theorem ok_words {f : Addr} {fd : FuncData} (F : Fun K "words_of" "words_of" sWords f fd) : FnOk P w K mg base CX0 1 f fd ["line"] spWords := by
  refine F.ok scWords (fun vs H Q E h => ?_) (fun cdv A outer s H vs Q E hr h => ?_)
  · obtain ⟨z, rfl, _⟩ := h
    rfl
  · obtain ⟨z, rfl, hz, k⟩ := h
    refine ⟨_, pss_one (ps_ret (pe_split (pv 0) pe_str)), ?_⟩
    refine ⟨_, rfl, ⟨_, rfl⟩, _, _, rfl, rfl, by decide +kernel, Nat.le_trans (Nat.add_le_add_right hz 2) (by decide), fun p hp => ?_⟩
    exact k p _ hp (same_upd hp) upd_same
theorem sqT_any {K : PySem.W.Frag} {H : Hp} {p : Addr} {xs : List V} (h : SqT K (fun _ => none) p xs) : SqT K H p xs := by
  (rcases h with (h | ⟨o, h⟩) | h)
  · cases h
  · cases h
  · exact .inr h
theorem cut_from (xs : List V) (n : Nat) : cutV xs (some (n : Int)) none = xs.drop n := by
  unfold cutV
  rw [HT.sIx_nat, HT.sIx_none]
  by_cases h : n ≤ xs.length
  · rw [Nat.min_eq_left h]
    (exact List.take_of_length_le (by rw [List.length_drop]; omega))
  · have h1 : min n xs.length = xs.length := Nat.min_eq_right (by omega)
    rw [h1, List.drop_length, List.drop_of_length_le (by omega)]
    simp
/-! ### part_of -/
theorem units65 {k : Nat} {A : Around} (hr : Room k A) : A.units + 65 < cLine := by
  have := hr.un
  omega
abbrev nPartOf : List Str := ["line", "words"]
theorem scPartOf : FnScope nPartOf ["line"] (defScope sPartOf) := ⟨rfl, rfl, rfl, by decide +kernel, rfl, by decide +kernel, by decide +kernel⟩
def resP (o : Option (Str × Str × Bool)) (Q : VK) (H : Hp) : Prop := match o with
  | none => Q .non H
  | some (b, c, t) => ∀ p, H p = some (.tup [.str b, .str c, .bl t]) → Q (.ref p) H
def spPart : Sp := fun vs H Q _ => ∃ z : Str, vs = [.str z] ∧ z.length ≤ 1000000 ∧ Asc z ∧ ∀ H', Same H H' → resP (partOf (wordsOf z)) Q H'
theorem mem_joinL {S : List Nat} {c : Nat} : ∀ {ps : List (List Nat)} {p : List Nat}, p ∈ ps → c ∈ p → c ∈ TL.joinL S ps
  | [q], p, h, hc => by
    rw [List.mem_singleton.mp h] at hc
    exact hc
  | q :: r :: l, p, h, hc => by
    show c ∈ q ++ (S ++ TL.joinL S (r :: l))
    (rcases List.mem_cons.mp h with e | h)
    · rw [e] at hc
      exact List.mem_append_left _ hc
    · exact List.mem_append_right _ (List.mem_append_right _ (mem_joinL h hc))
theorem len_joinL {S : List Nat} : ∀ {ps : List (List Nat)} {p : List Nat}, p ∈ ps → p.length ≤ (TL.joinL S ps).length
  | [q], p, h => by
    rw [List.mem_singleton.mp h]
    exact Nat.le_refl _
  | q :: r :: l, p, h => by
    show _ ≤ (q ++ (S ++ TL.joinL S (r :: l))).length
    rw [List.length_append, List.length_append]
    (rcases List.mem_cons.mp h with e | h)
    · rw [e]
      omega
    · have := len_joinL (S := S) h
      omega
theorem split_mem {z y p : Str} (h : p ∈ Txt.split z y) : (∀ c ∈ tx p, c ∈ tx z) ∧ p.length ≤ z.length := by
  have e : TL.tl (Str.join y (Txt.split z y)) = TL.tl z := by rw [StrLaws.join_split]
  rw [TL.tl_join] at e
  have hm : TL.tl p ∈ (Txt.split z y).map TL.tl := List.mem_map_of_mem h
  refine ⟨fun c hc => ?_, ?_⟩
  · have := mem_joinL (S := TL.tl y) hm hc
    rw [e] at this
    exact this
  · have := len_joinL (S := TL.tl y) hm
    rw [e] at this
    rw [TL.len_tl, TL.len_tl]
    exact this
theorem words_asc {z : Str} (h : Asc z) : ∀ p ∈ wordsOf z, Asc p := fun p hp c hc => h c ((split_mem hp).1 c hc)
theorem words_len {z : Str} {n : Nat} (h : z.length ≤ n) : ∀ p ∈ wordsOf z, p.length ≤ n := fun p hp => Nat.le_trans (split_mem hp).2 h
theorem ok_partOf {f : Addr} {fd : FuncData} (F : Fun K "part_of" "part_of" sPartOf f fd) (T : Txt3 K mg) (GW : Has P w K mg base "words_of" 1 ["line"] spWords) (GN : Has P w K mg base "is_name" 1 ["word"] spName) : FnOk P w K mg base CX0 2 f fd ["line"] spPart := by
  refine F.ok scPartOf (fun vs H Q E h => ?_) (fun cdv A outer s H vs Q E hr h => ?_)
  · obtain ⟨z, rfl, _⟩ := h
    rfl
  · obtain ⟨z, rfl, hz, asc, k⟩ := h
    obtain ⟨wp, gw, hwp⟩ := T.ways
    refine ⟨_, pss_cons (ps_set (i := 1) scPartOf.nd rfl (.inl rfl) (pe_has GW hr (pa_cons (pv 0) pa_nil)))
      (pss_cons (ps_if (PW.pt (pw_or (pt_cmpR op_lt (pe_callB call_len_seq (by rfl) T.len PySem.boot_len (pa_cons (pv 1) pa_nil)) pe_int (nomark _))
          (pw_or (pt_cmpR op_ne (pe_ix ix_list (pv 1) pe_int (fun _ _ => rfl)) pe_str (nomark _))
          (pw_or (pt_not (pt_val (pe_has GN hr (pa_cons (pe_ix ix_list (pv 1) pe_int (fun _ _ => rfl)) pa_nil))))
          (pw_or1 (pt_cmpR op_notIn_seq (pe_ix ix_list (pv 1) pe_int (fun _ _ => rfl)) (pe_glob (v := .ref wp) (by rfl) gw rfl) (by rfl))))))) (pss_one (ps_ret pe_non)) pss_nil)
      (pss_cons (ps_if (pt_cmpR (op_notInT (units65 hr)) (pe_slice sl_list (pv 1) (po_some pe_int) po_none) (pe_tup (pa_cons (pe_lst pa_nil) (pa_cons (pe_lst (pa_cons pe_str pa_nil)) pa_nil))) (by rfl)) (pss_one (ps_ret pe_non)) pss_nil)
      (pss_one (ps_ret (pe_tup (pa_cons (pe_ix ix_list (pv 1) pe_int (fun _ _ => rfl)) (pa_cons (pe_ix ix_list (pv 1) pe_int (fun _ _ => rfl)) (pa_cons (pe_cmpR op_eq (pe_callB call_len_seq (by rfl) T.len PySem.boot_len (pa_cons (pv 1) pa_nil)) pe_int (nomark _)) pa_nil)))))))), ?_⟩
    refine ⟨_, rfl, z, rfl, hz, fun p H1 np s1 hp => ?_⟩
    have wa := words_asc asc
    have wl := words_len hz
    generalize hws : wordsOf z = ws at hp wa wl k
    refine ⟨_, rfl, p, _, rfl, .inl (SqL.of hp), _, 3, rfl, rfl, _, rfl, ?_⟩
    refine ite2 (fun h3 => ?_) (fun h3 => ?_)
    · have e : partOf ws = none := by
        have h3' := of_decide_eq_true h3
        rw [List.length_map] at h3'
        match ws, h3' with
        | [], _ => rfl
        | [_], _ => rfl
        | [_, _], _ => rfl
        | _ :: _ :: _ :: r, h => 
          simp only [List.length_cons] at h
          omega
      have q := k H1 s1
      rw [e] at q
      exact q
    · have h3' : ¬ ((ws.map V.str).length : Int) < 3 := fun z => h3 (decide_eq_true z)
      rw [List.length_map] at h3'
      match ws, h3', hp, wa, wl, k with
      | [], h, _, _, _, _ => exact absurd (show (0 : Int) < 3 by decide) h
      | [_], h, _, _, _, _ => exact absurd (show (1 : Int) < 3 by decide) h
      | [_, _], h, _, _, _, _ => exact absurd (show (2 : Int) < 3 by decide) h
      | a :: b :: c :: r, _, hp, wa, wl, k =>
        have none_of : partOf (a :: b :: c :: r) = none → ∀ H2, Same H H2 → Q .non H2 := fun e H2 s2 => by
          have q := k H2 s2
          rw [e] at q
          exact q
        refine ⟨_, rfl, p, _, 0, .str a, rfl, rfl, SqL.of hp, atI_nat (j := 0) rfl, rfl, _, rfl, ?_⟩
        refine ite2 (fun ha => ?_) (fun ha => ?_)
        · refine none_of ?_ H1 s1
          have : ¬ a = wPart := fun e => by
            rw [e] at ha
            exact absurd ha (by decide +kernel)
          exact if_neg fun z => this z.1
        have ea : a = wPart := by
          by_cases e : a = wPart
          · exact e
          · exfalso
            refine ha ?_
            show (!decide (V.str a = V.str wPart)) = true
            rw [decide_eq_false (fun z => e (V.str.inj z))]
            rfl
        refine ⟨_, rfl, p, _, 1, .str b, rfl, rfl, SqL.of hp, atI_nat (j := 1) rfl, b, rfl, wl b (by simp), fun H2 s2 => ⟨_, rfl, ?_⟩⟩
        have hp2 := s2 _ _ hp
        have s02 := s1.trans s2
        refine ite2 (fun hb => ?_) (fun hb => ?_)
        · refine none_of ?_ H2 s02
          have : ¬ nameB b = true := fun e => by
            rw [e] at hb
            exact absurd hb (by decide)
          exact if_neg fun z => this z.2.1
        have eb : nameB b = true := by
          cases e : nameB b with
          | true => rfl
          | false =>
            rw [e] at hb
            exact absurd rfl hb
        refine ⟨_, rfl, p, _, 2, .str c, rfl, rfl, SqL.of hp2, atI_nat (j := 2) rfl, wp, _, rfl, .inr (sqT_any hwp), rfl, rfl, _, rfl, ?_⟩
        refine ite2 (fun hc => ?_) (fun hc => ?_)
        · refine none_of ?_ H2 s02
          have : ¬ wayB c = true := fun e => by
            rw [if_pos rfl, way_in, e] at hc
            exact absurd hc (by decide)
          exact if_neg fun z => this z.2.2.1
        have ec : wayB c = true := by
          cases e : wayB c with
          | true => rfl
          | false =>
            rw [if_pos rfl, way_in, e] at hc
            exact absurd rfl hc
        refine ⟨_, rfl, 3, rfl, p, _, rfl, SqL.of hp2, fun p3 hp3 => ?_⟩
        have e3 : cutV ((a :: b :: c :: r).map V.str) (some 3) none = r.map V.str := cut_from ((a :: b :: c :: r).map V.str) 3
        refine ⟨Nat.zero_le _, fun p4 hp4 => ⟨(by show 1 ≤ sizeLine; decide), fun p5 hp5 => ⟨(by show 2 ≤ sizeLine; decide), fun p6 hp6 => ?_⟩⟩⟩
        have n4 : p ≠ p4 := ne_of_none (same_upd hp3 _ _ hp2) hp4
        have s3 := same_upd (o := .lst (cutV ((a :: b :: c :: r).map V.str) (some 3) none)) hp3
        have s4 := same_upd (o := .lst []) hp4
        have s5 := same_upd (o := .lst [V.str "takes"]) hp5
        have s6 := same_upd (o := .tup [.ref p4, .ref p5]) hp6
        have s46 := (s4.trans s5).trans s6
        have s06 := s02.trans (s3.trans s46)
        have g3 := Eq.trans (s46 _ _ (upd_same (H := H2) (a := p3) (o := .lst (cutV ((a :: b :: c :: r).map V.str) (some 3) none)))) (congrArg (fun l => some (HO.lst l)) e3)
        have g4 := (s5.trans s6) _ _ upd_same
        have g5 := s6 _ _ upd_same
        have gp := (s3.trans s46) _ _ hp2
        have wr : ∀ z ∈ r, Asc z := fun z hz => wa z (by simp [hz])
        refine ⟨.list (r.map .str), [.list [], .list [.str wTakes]], .lst (SqL.of g3) (texts_dp r), .tup (SqT.of upd_same) (.cons (.lst (SqL.of g4) .nil) (.cons (.lst (SqL.of g5) (.cons (.str _) .nil)) .nil)), texts_shaped wr, by decide +kernel, _, rfl, ?_⟩
        rw [rest_any]
        refine ite2 (fun hr' => ?_) (fun hr' => ?_)
        · refine none_of ?_ _ s06
          have : ¬ (r = [] ∨ r = [wTakes]) := fun e => by
            rw [decide_eq_true e] at hr'
            exact absurd hr' (by decide)
          exact if_neg fun z => this z.2.2.2
        have er : r = [] ∨ r = [wTakes] := by
          by_cases e : r = [] ∨ r = [wTakes]
          · exact e
          · rw [decide_eq_false e] at hr'
            exact absurd rfl hr'
        have eq : partOf (a :: b :: c :: r) = some (b, c, decide (r = [wTakes])) := if_pos ⟨ea, eb, ec, er⟩
        refine ⟨_, rfl, p, _, 1, .str b, rfl, rfl, SqL.of gp, atI_nat (j := 1) rfl, _, rfl, p, _, 2, .str c, rfl, rfl, SqL.of gp, atI_nat (j := 2) rfl, _, rfl, p, _, rfl, .inl (SqL.of gp), rfl, (by show 3 ≤ sizeLine; decide), fun q hq => ?_⟩
        have q' := k _ (s06.trans (same_upd (o := .tup [.str b, .str c, .bl (decide (V.int (((a :: b :: c :: r).map V.str).length : Int) = V.int 4))]) hq))
        rw [eq] at q'
        refine q' q ?_
        rw [upd_same]
        have e4 : decide (V.int (((a :: b :: c :: r).map V.str).length : Int) = V.int 4) = decide (r = [wTakes]) := by
          rcases er with e | e
          · subst e
            show decide (V.int 3 = V.int 4) = decide (([] : List Str) = [wTakes])
            decide +kernel
          · subst e
            show decide (V.int 4 = V.int 4) = decide ([wTakes] = [wTakes])
            decide +kernel
        rw [e4]
end
end K17

namespace K17
open PySem L2
abbrev sEInit : Stmt := inClass (top 2) 0
abbrev sReadParts : Stmt := top 35
/-! ### the errors -/
def fV (v : V) : List (Str × V) := [("value", v)]
def spEI (K : PySem.W.Frag) : Sp := fun vs H Q _ => ∃ (a C : Addr) (y : V), vs = [.ref a, y] ∧ OexC K C ∧ PySem.W.findIn K (.ref C) "value" = some none ∧ H a = some (exo a C none) ∧
  ∀ dx, H dx = none → dx ≠ a → Q .non (upd (upd H dx (exd dx (fV y))) a (exo a C (some dx)))
/-- what is known of the class of BadText at CB -/
structure Err (P : Program) (w : World) (K : PySem.W.Frag) (mg : Str → Option Value) (base : Heap) (CB : Addr) : Prop where
  ox : OexC K CB
  gB : mg "BadText" = some (.ref CB)
  nv : PySem.W.findIn K (.ref CB) "value" = some none
  init : ∃ (fI : Addr) (fd : FuncData), PySem.W.findIn K (.ref CB) "__init__" = some (some (.ref fI)) ∧ PySem.W.typeIn K (.ref fI) = some (.type "function") ∧ FnOk P w K mg base CX0 1 fI fd ["self", "value"] (spEI K) ∧ Binds K fd ["self", "value"] []
section
variable {base : Heap} {P : Program} {w : World} {K : PySem.W.Frag} {mg : Str → Option Value}
theorem scEInit : FnScope ["self", "value"] ["self", "value"] (defScope sEInit) := ⟨rfl, rfl, rfl, by decide +kernel, rfl, by decide +kernel, by decide +kernel⟩
theorem ok_einit {f : Addr} {fd : FuncData} (F : Fun K "__init__" "SettledError.__init__" sEInit f fd) : FnOk P w K mg base CX0 1 f fd ["self", "value"] (spEI K) := by
  refine F.ok scEInit (fun vs H Q E h => ?_) (fun cdv A outer s H vs Q E hr h => ?_)
  · obtain ⟨a, C, y, rfl, _⟩ := h
    rfl
  · obtain ⟨a, C, y, rfl, T, nv, ha, k⟩ := h
    refine ⟨_, pss_one (ps_ost (pv 0) (pv 1)), ?_⟩
    exact ⟨_, rfl, _, rfl, a, C, rfl, T, nv, .inl ⟨ha, fun dx hd ne => k dx hd ne⟩⟩
/-- what a raised BadText leaves -/
def Bad (H : Hp) (CB : Addr) (n : Int) (E : XK) : Prop := ∀ d H', Same H H' → H d = none → H' d = some (.xd (fV (.int n))) → E (.ref CB) (some d) H'
theorem Bad.same {H H1 : Hp} {CB : Addr} {n : Int} {E : XK} (s : Same H H1) (h : Bad H CB n E) : Bad H1 CB n E := fun d H' s' hd e => h d H' (s.trans s') (s.free hd) e
/-- raise BadText(e) in a def that errors leave -/
theorem ps_bad {X : Cx} {CB : Addr} {W : WX} {e : Expr} {te : TE} {p pos pos2 : Pos} (B : Err X.prog X.w X.K X.mg X.base CB) (hc : X.calm = true) (tk : L2.Takes X W) (hr : Room 2 X.A) (he : PE X e te) (hg : Gl X "BadText" := by rfl)
    (hst : starEach (e :: []) X.env = (false, eval e X.env) :: starEach [] X.env := by rfl) (hpl : (backTo pos (starEach [] X.env)).any (·.1) = false := by rfl) :
    PS X (.Raise (some (.Call (.Name "BadText" p) [e] [] pos)) none pos2) (fun _ σ H => tMkO CB (spEI X.K) [] (tCons te tNil) σ H fun cls d H' => W cls d σ H') := by
  obtain ⟨fI, fd, iC, tI, F1, hb⟩ := B.init
  exact ps_raise (W := W) (pos := pos2) hc tk (pmk_oex (pos := pos) (p := p) (ta := tCons te tNil) (dvs := []) B.ox iC tI F1 hr hb .nil pass0 hg B.gB (pa_cons he pa_nil hst) (by decide) hst hpl)
/-- its reading, behind e's -/
theorem bad_made {CB : Addr} {n : Int} {H1 : Hp} {R : XK} (B : Err P w K mg base CB) (h : Bad H1 CB n R) : ([V.int n] : List V).length ≤ 1000 ∧ ∀ a, H1 a = none → spEI K (.ref a :: ([V.int n] ++ [])) (upd H1 a (exo a CB none))
    (fun v H2 => v = .non ∧ ∃ (d : Addr) (fs : List (Str × V)), H2 a = some (exo a CB (some d)) ∧ H2 d = some (exd d fs) ∧ H1 d = none ∧ R (.ref CB) (some d) (upd (del H2 a) d (.xd fs))) (fun _ _ _ => False) := by
  refine ⟨(by show 1 ≤ 1000; decide), fun a ha => ⟨a, CB, .int n, rfl, B.ox, B.nv, upd_same, fun dx hdx ne => ⟨rfl, dx, fV (.int n), upd_same, ?_, ?_, ?_⟩⟩⟩
  · rw [upd_ne ne, upd_same]
  · rw [upd_ne ne] at hdx
    exact hdx
  · have d1 : H1 dx = none := by
      rw [upd_ne ne] at hdx
      exact hdx
    refine h dx _ (fun b o e => ?_) d1 upd_same
    have nba : b ≠ a := ne_of_none e ha
    have nbd : b ≠ dx := ne_of_none e d1
    rw [upd_ne nbd, del_ne nba, upd_ne nba, upd_ne nbd, upd_ne nba]
    exact e
/-! ### lines_of -/
def nl : Str := "\n"
def linesOf (z : Str) : List Str := Txt.split z nl
/-- what is no string -/
def NotStr (K : PySem.W.Frag) (H : Hp) (x : V) : Prop := ∃ t, TyX K H x t ∧ PySem.W.kitOne K t (.type "str") = some false
def spLines (K : PySem.W.Frag) (CB : Addr) : Sp := fun vs H Q E => ∃ x : V, vs = [x] ∧
  ((∃ z : Str, x = .str z ∧ z.length ≤ 1000000 ∧ ∀ p H', H p = none → Same H H' → H' p = some (.lst ((linesOf z).map V.str)) → Q (.ref p) H') ∨ (NotStr K H x ∧ Bad H CB (-1) E))
theorem scLines : FnScope ["text"] ["text"] (defScope sLines) := ⟨rfl, rfl, rfl, by decide +kernel, rfl, by decide +kernel, by decide +kernel⟩
theorem ok_lines {f CB : Addr} {fd : FuncData} (F : Fun K "lines_of" "lines_of" sLines f fd) (T : Txt3 K mg) (B : Err P w K mg base CB) : FnOk P w K mg base (L2.CX P w) 3 f fd ["text"] (spLines K CB) := by
  refine F.okX scLines (fun vs H Q E h => ?_) (fun cdv A outer s H vs Q E hr h => ?_)
  · obtain ⟨x, rfl, _⟩ := h
    rfl
  · obtain ⟨x, rfl, h⟩ := h
    refine ⟨_, pss_cons (ps_if (pt_not (pt_val (pe_callB call_isi (by rfl) T.isinst (by decide +kernel) (pa_cons (pv 0) (pa_cons (pe_bltn (v := .ty "str") (by rfl) T.str PyProof.Rows.boot_str rfl) pa_nil)))))
        (pss_one (ps_bad B rfl (takes_of rfl rfl rfl rfl) hr (pe_un un_neg pe_int))) pss_nil)
      (pss_one (ps_ret (pe_split (pv 0) pe_str))), ?_⟩
    rcases h with ⟨z, rfl, hz, k⟩ | ⟨⟨t, ty, kt⟩, bad⟩
    · refine ⟨_, rfl, _, _, _, _, true, rfl, .ty "str", .base (.str z), kit_ty (by decide +kernel), _, rfl, ?_⟩
      exact ⟨_, rfl, ⟨_, rfl⟩, _, _, rfl, rfl, by decide +kernel, Nat.le_trans (Nat.add_le_add_right hz 2) (by decide), fun p hp => k p _ hp (same_upd hp) upd_same⟩
    · refine ⟨_, rfl, _, _, _, _, false, rfl, .ty "str", ty, kt, _, rfl, ?_⟩
      exact ⟨1, rfl, bad_made B bad⟩
/-! ### read_parts -/
abbrev Row := Str × Str × Bool
/-- the number of the first wrong line, or what all tell -/
def readR (k : Nat) (acc : List Row) : List Str → Sum Nat (List Row)
  | [] => .inr acc
  | l :: r => match partOf (wordsOf l) with
    | none => .inl k
    | some p => if k = 4 ∨ p.1 ∈ acc.map (·.1) then .inl k else readR (k + 1) (acc ++ [p]) r
def rowV (r : Row) : List V := [.str r.1, .str r.2.1, .bl r.2.2]
def Rows (H : Hp) (ts : List Addr) (rows : List Row) : Prop := Paired (fun (t : Addr) (r : Row) => H t = some (.tup (rowV r))) ts rows
theorem rows_same {H H' : Hp} {ts : List Addr} {rows : List Row} (h : Rows H ts rows) (k : ∀ t xs, H t = some (.tup xs) → H' t = some (.tup xs)) : Rows H' ts rows := Paired.mapP h fun t r e => k t _ e
theorem rows_get {H : Hp} : ∀ {ts : List Addr} {rows : List Row}, Rows H ts rows → ∀ {j : Nat} {t : Addr}, ts[j]? = some t → ∃ r, rows[j]? = some r ∧ H t = some (.tup (rowV r))
  | _, _, .cons h _, 0, t, e => by
    cases e
    exact ⟨_, rfl, h⟩
  | _, _, .cons _ k, j + 1, t, e => by
    obtain ⟨r, e1, e2⟩ := rows_get (j := j) (t := t) k e
    exact ⟨r, e1, e2⟩
theorem rows_snoc {H : Hp} {t : Addr} {r : Row} : ∀ {ts : List Addr} {rows : List Row}, Rows H ts rows → H t = some (.tup (rowV r)) → Rows H (ts ++ [t]) (rows ++ [r])
  | _, _, .nil, last => .cons last .nil
  | _, _, .cons h k, e => .cons h (rows_snoc k e)
theorem flats (acc : List Row) : (acc.map fun r => V.str r.1).all flatV = true := by
  induction acc with
  | nil => rfl
  | cons r l ih =>
    show (flatV (.str r.1) && (l.map fun r => V.str r.1).all flatV) = true
    rw [ih]
    rfl
theorem inV_names (b : Str) (acc : List Row) : inV (.str b) (acc.map fun r => V.str r.1) = decide (b ∈ acc.map (·.1)) := by
  induction acc with
  | nil => rfl
  | cons r l ih =>
    show (eqV (.str r.1) (.str b) || inV (.str b) (l.map fun r => V.str r.1)) = _
    rw [ih]
    show ((r.1 == b) || decide (b ∈ l.map (·.1))) = decide (b ∈ r.1 :: l.map (·.1))
    by_cases h : r.1 = b
    · rw [h, beq_self_eq_true, Bool.true_or]
      exact (decide_eq_true List.mem_cons_self).symm
    · rw [beq_eq_false_iff_ne.mpr h, Bool.false_or]
      exact decide_eq_decide.mpr ⟨fun z => List.mem_cons_of_mem _ z, fun z => (List.mem_cons.mp z).resolve_left fun e => h e.symm⟩
def spRead (K : PySem.W.Frag) (CB : Addr) : Sp := fun vs H Q E => ∃ (a : Addr) (ls : List Str), vs = [.ref a] ∧ SqL K H a (ls.map V.str) ∧ ls.length ≤ 1000000 ∧ (∀ l ∈ ls, l.length ≤ 1000000 ∧ Asc l) ∧
  (∀ n : Nat, readR 0 [] ls = .inl n → Bad H CB (n : Int) E) ∧
  (∀ rows, readR 0 [] ls = .inr rows → ∀ p ts H', Same H H' → H p = none → H' p = some (.lst (ts.map V.ref)) → Rows H' ts rows → Q (.ref p) H')
abbrev nRead : List Str := ["lines", "rows", "number", "line", "part", "row"]
theorem scRead : FnScope nRead ["lines"] (defScope sReadParts) := ⟨rfl, rfl, rfl, by decide +kernel, rfl, by decide +kernel, by decide +kernel⟩
structure Txt4 (K : PySem.W.Frag) (mg : Str → Option Value) : Prop extends Txt3 K mg where
  enum : mg "enumerate" = none
  most : ∃ t, mg "MOST_PARTS" = some (.int 4 t)
theorem ok_read {f CB : Addr} {fd : FuncData} (F : Fun K "read_parts" "read_parts" sReadParts f fd) (T : Txt4 K mg) (B : Err P w K mg base CB) (GP : Has P w K mg base "part_of" 2 ["line"] spPart) : FnOk P w K mg base (L2.CX P w) 3 f fd ["lines"] (spRead K CB) := by
  refine F.okX scRead (fun vs H Q E h => ?_) (fun cdv A outer s H vs Q E hr h => ?_)
  · obtain ⟨a, ls, rfl, _⟩ := h
    rfl
  · obtain ⟨a, ls, rfl, hS, hl, hok, kB, kO⟩ := h
    obtain ⟨t4, g4⟩ := T.most
    refine ⟨_, pss_cons (ps_set (i := 1) scRead.nd rfl (.inl rfl) (pe_lst pa_nil))
      (pss_cons (ps_for (passes_of rfl) rfl (pi_enum (by rfl) T.enum (pa_cons (pv 0) pa_nil)) (pg_tup rfl (pgs_cons (pg_name (i := 2) scRead.nd rfl (.inl rfl)) (pgs_cons (pg_name (i := 3) scRead.nd rfl (.inl rfl)) pgs_nil)))
        (pss_cons (ps_set (i := 4) scRead.nd rfl (.inl rfl) (pe_has GP hr (pa_cons (pv 3) pa_nil)))
        (pss_cons (ps_if (PW.pt (pw_or (pt_cmpR op_eq (pv 2) (pe_glob (v := .int 4) (by rfl) g4 ⟨_, rfl⟩) (nomark _))
            (pw_or (pt_cmpR op_isN (pv 4) pe_non (nomark _))
            (pw_or1 (pt_cmpR op_in_seq (pe_ix ix_tup (pv 4) pe_int (fun _ _ => rfl)) (pe_lc (own := [("row", 5)]) (g := gName 5) (tt := tYes) rfl scRead.nd (pi_list (pv 1))
              (blkOk_by (N := nRead) (sc := defScope sReadParts) (by decide +kernel)) (fun _ _ _ _ _ => pg_name (i := 5) scRead.nd rfl (Or.inl rfl)) (fun _ _ _ _ _ => pts_nil)
              (fun _ _ _ _ _ => pe_ix (r := rIxT K) ix_tup (pv 5) pe_int (fun _ _ => rfl))) (by rfl))))))
          (pss_one (ps_bad B rfl (takes_of rfl rfl rfl rfl) hr (pv 2))) pss_nil)
        (pss_one (ps_expr (pe_bm PySem.F.plainAttrs_list PySem.F.slot_list_append PySem.F.type_list_append mt_append (pv 1) (pa_cons (pv 4) pa_nil)))))))
      (pss_one (ps_ret (pv (1))))), ?_⟩
    refine ⟨Nat.zero_le _, fun R nR => ?_⟩
    have sR : Same H (upd H R (.lst [])) := same_upd nR
    refine ⟨_, rfl, a, _, rfl, sR.seq hS, for_it (walk_enum (xs := ls.map V.str)) (fun i σ H1 => ∃ (ts : List Addr) (acc : List Row) (v2 v3 v4 : Option V), σ = [some (.ref a), some (.ref R), v2, v3, v4, none] ∧ Same H H1 ∧ H1 R = some (.lst (ts.map V.ref)) ∧ Rows H1 ts acc ∧
        acc.length = i ∧ readR 0 [] ls = readR i acc (ls.drop i)) ⟨[], [], none, none, none, rfl, sR, upd_same, .nil, rfl, rfl⟩ (fun i σ H1 _ ⟨_, _, _, _, _, _, s1, _⟩ => s1.seq hS) ?_ ?_⟩
    · rintro i x σ H1 H2 hi ⟨ts, acc, v2, v3, v4, rfl, s1, hR, hRows, ha, hrd⟩ ⟨T1, x1, x2, rfl, nT, rfl, e1, e2⟩
      obtain ⟨l, hl1, rfl⟩ : ∃ l, ls[i]? = some l ∧ V.str l = x2 := by
        have e2' : (ls.map V.str)[i]? = some x2 := e2
        rw [List.getElem?_map] at e2'
        exact Option.map_eq_some_iff.mp e2'
      obtain rfl : V.int (i : Int) = x1 := Option.some.inj e1
      obtain ⟨lm1, lm2⟩ := hok l (List.mem_of_getElem? hl1)
      have ed : ls.drop i = l :: ls.drop (i + 1) := by
        obtain ⟨hlt, hv⟩ := List.getElem?_eq_some_iff.mp hl1
        rw [List.drop_eq_getElem_cons hlt, hv]
      have hrd' : readR 0 [] ls = readR i acc (l :: ls.drop (i + 1)) := by rw [hrd, ed]
      have sT : Same H1 (upd H1 T1 (.tup [.int (i : Int), .str l])) := same_upd nT
      refine ⟨T1, _, rfl, SqT.of upd_same, rfl, .int (i : Int), _, rfl, .str l, _, rfl, rfl, ?_⟩
      refine ⟨_, rfl, l, rfl, lm1, lm2, fun H3 s3 => ?_⟩
      have s13 := sT.trans s3
      have s03 := s1.trans s13
      have hR3 := s13 _ _ hR
      cases hp : partOf (wordsOf l) with
      | none =>
        have hbad : Bad H CB (i : Int) E := kB i (by rw [hrd']; show (match partOf (wordsOf l) with | none => Sum.inl i | some p => _) = _; rw [hp])
        (refine ⟨_, rfl, rfl, _, rfl, ?_⟩)
        (refine ite2 (fun _ => ?_) (fun _ => ?_))
        · exact ⟨_, rfl, bad_made B (hbad.same s03)⟩
        · exact ⟨_, rfl, rfl, _, rfl, _, rfl, bad_made B (hbad.same s03)⟩
      | some row =>
        obtain ⟨b, c, t⟩ := row
        have hstep : readR 0 [] ls = if i = 4 ∨ b ∈ acc.map (·.1) then Sum.inl i else readR (i + 1) (acc ++ [(b, c, t)]) (ls.drop (i + 1)) := by
          rw [hrd']
          show (match partOf (wordsOf l) with | none => Sum.inl i | some p => _) = _
          rw [hp]
        intro p hp3
        (refine ⟨_, rfl, rfl, _, rfl, ?_⟩)
        have bad_if : (i = 4 ∨ b ∈ acc.map (·.1)) → ∀ H4, Same H3 H4 → Bad H4 CB (i : Int) E := fun c H4 s4 => (kB i (by rw [hstep, if_pos c])).same (s03.trans s4)
        refine ite2 (fun h4 => ?_) (fun h4 => ?_)
        · refine ⟨_, rfl, bad_made B (bad_if (.inl ?_) H3 (Same.refl _))⟩
          have := V.int.inj (of_decide_eq_true h4)
          omega
        have h4' : ¬ i = 4 := fun e => h4 (decide_eq_true (by rw [e]; rfl))
        (refine ⟨_, rfl, rfl, _, rfl, ?_⟩)
        refine ⟨_, rfl, p, _, 0, .str b, rfl, rfl, SqT.of hp3, atI_nat (j := 0) rfl, ?_⟩
        refine ⟨_, rfl, R, rfl, ⟨_, SqL.of hR3⟩, fun D nD => ?_⟩
        have hRows3 : Rows H3 ts acc := rows_same hRows fun t xs e => s13 _ _ e
        refine lc_list (K := K) (a := R) (xs := ts.map V.ref) (fun j H4 => Same H3 H4 ∧ H4 D = some (.lst ((acc.take j).map fun r => V.str r.1))) ⟨same_upd nD, upd_same⟩ (fun j H4 _ q => q.1.seq (SqL.of hR3)) ?_ ?_
        · rintro j x H4 hx ⟨s4, hD⟩
          obtain ⟨t1, ht1, rfl⟩ : ∃ t1, ts[j]? = some t1 ∧ V.ref t1 = x := by
            rw [List.getElem?_map] at hx
            exact Option.map_eq_some_iff.mp hx
          obtain ⟨r1, hr1, he1⟩ := rows_get hRows3 ht1
          refine ⟨rfl, _, rfl, t1, _, 0, .str r1.1, rfl, rfl, SqT.of (s4 _ _ he1), atI_nat (j := 0) rfl, _, hD, ?_, same_new s4 nD, ?_⟩
          · (rw [List.length_map, List.length_take])
            refine Nat.lt_of_le_of_lt (Nat.min_le_right _ _) ?_
            have : acc.length ≤ 1000000 := by
              have := (List.getElem?_eq_some_iff.mp hl1).1
              omega
            exact Nat.lt_of_le_of_lt this (by decide)
          · rw [upd_same, take_one hr1, List.map_append]
            rfl
        · rintro H4 ⟨s4, hD⟩
          have elen : (ts.map V.ref).length = acc.length := by
            rw [List.length_map]
            exact Paired.length hRows3
          rw [elen, List.take_length] at hD
          refine ⟨D, _, rfl, .inl (SqL.of hD), rfl, flats _, _, rfl, ?_⟩
          have ein := inV_names b acc
          refine ite2 (fun h5 => ?_) (fun h5 => ?_)
          · refine ⟨_, rfl, bad_made B (bad_if (.inr ?_) H4 s4)⟩
            have h5' : inV (.str b) (acc.map fun r => V.str r.1) = true := h5
            rw [ein] at h5'
            exact of_decide_eq_true h5'
          have h5' : ¬ b ∈ acc.map (·.1) := fun e => h5 (by
            show inV (.str b) (acc.map fun r => V.str r.1) = true
            rw [ein]
            exact decide_eq_true e)
          have hR4 := s4 _ _ hR3
          refine ⟨_, rfl, .inl ⟨rfl, _, SqL.of hR4⟩, _, rfl, R, _, _, rfl, rfl, hR4, ?_, ?_⟩
          · rw [elen]
            have := (List.getElem?_eq_some_iff.mp hl1).1
            exact Nat.lt_of_le_of_lt (show acc.length ≤ 1000000 by omega) (by decide)
          · have nt : ∀ (t1 : Addr) (xs : List V), H4 t1 = some (.tup xs) → t1 ≠ R := fun t1 xs e z => by
              rw [z, hR4] at e
              cases e
            refine ⟨ts ++ [p], acc ++ [(b, c, t)], _, _, _, rfl, same_new (s03.trans s4) nR, ?_, ?_, ?_, ?_⟩
            · rw [upd_same, List.map_append]
              rfl
            · refine rows_snoc (rows_same hRows3 fun t1 xs e => ?_) ?_
              · rw [upd_ne (nt t1 xs (s4 _ _ e))]
                exact s4 _ _ e
              · rw [upd_ne (nt p _ (s4 _ _ hp3))]
                exact s4 _ _ hp3
            · rw [List.length_append, ha]
              rfl
            · rw [hstep, if_neg (fun z => z.elim h4' h5')]
    · rintro σ H1 ⟨ts, acc, v2, v3, v4, rfl, s1, hR, hRows, ha, hrd⟩
      have e : readR 0 [] ls = .inr acc := by
        rw [hrd, List.length_map, List.drop_length]
        rfl
      exact ⟨_, rfl, kO acc e R ts H1 s1 nR hR hRows⟩
end
end K17

namespace K17
open L2 PySem PySem.Spec PyProof.Rows
/-! ### a tuple of which it is known that no dict hangs on it -/
def TupD (H : Hp) (p : Addr) (xs : List V) : Prop := ∃ o : Obj, H p = some (.frz o (.tup xs)) ∧ o.dict = none
theorem TupD.sq {K : PySem.W.Frag} {H : Hp} {p : Addr} {xs : List V} (h : TupD H p xs) : SqT K H p xs := by
  obtain ⟨o, e, _⟩ := h
  exact .inl (.inr ⟨o, e⟩)
theorem TupD.same {H H' : Hp} {p : Addr} {xs : List V} (h : TupD H p xs) (s : Same H H') : TupD H' p xs := by
  obtain ⟨o, e, d⟩ := h
  exact ⟨o, s _ _ e, d⟩
def tyTupD (x : V) (H : Hp) : Prop := ∃ p xs, x = .ref p ∧ TupD H p xs
theorem ty_tupD {X : Cx} : TyOk X "tuple" tyTupD := by
  intro pins σ H s x v I r ty
  obtain ⟨p, xs, rfl, o, e, d⟩ := ty
  cases r
  have ho := (I.hok p _ e).1
  obtain ⟨its, _, ⟨o2, h2, c2, _⟩, _⟩ := I.tuple (X := X) (show SqT X.K H p xs from .inl (.inr ⟨o, e⟩))
  refine ⟨⟨o2, h2, c2⟩, fun a ea => ?_⟩
  cases ea
  exact ⟨o, ho, d⟩
/-- tuple(a list), no dict hanging on it -/
abbrev rTupD (K : PySem.W.Frag) : List V → Hp → VK → Prop := fun xs H Q => ∃ p ys, xs = [.ref p] ∧ SqL K H p ys ∧ ∀ (l : Addr) (o : Obj), H l = none → o.dict = none → Q (.ref l) (upd H l (.frz o (.tup ys)))
theorem call_tupD {X : Cx} : CallR X (.type "tuple") (rTupD X.K) := by
  intro pins s σ H xs us Q I r h
  obtain ⟨p, ys, rfl, hq, q⟩ := h
  cases r with
  | cons rx rr =>
    cases rr
    cases rx
    obtain ⟨its, r', pl, hz⟩ := I.list hq
    have hlen := r'.length
    refine PySem.call_tuple_list pl.isList (fun h' kp => ?_) (by simp only [List.size_toArray] <;> omega)
    have I1 : Inv X pins σ H { s with heap := h' } := I.kept (t' := s.toks) kp
    have I2 : Inv X pins σ (upd H h'.objs.size (.frz { cls := .type "tuple", data := .seq its.toArray } (.tup ys))) { s with heap := h'.push { cls := .type "tuple", data := .seq its.toArray } } :=
      I1.laid (t' := s.toks) (fun b o e => Heap.get?_push_of_some _ e) (Nat.le_refl _) (show ObjOk X.prog X.w _ _ _ (.frz _ (.tup ys)) from ⟨Heap.get?_push_size _ rfl, hz, its, r', PyProof.Rows.IsTup.new _ _⟩)
    exact ⟨.ref h'.objs.size, _, I2, rfl, q _ _ (I1.hok.fresh (Nat.le_refl _)) rfl⟩
theorem TupD.keep {j p : Addr} {H H' : Hp} {xs : List V} (h : TupD H p xs) (n : p ≠ j) (k : Keep j H H') : TupD H' p xs := by
  obtain ⟨o, e, d⟩ := h
  exact ⟨o, k _ _ n e, d⟩
theorem TupD.ne_ins {p q C dx : Addr} {H : Hp} {xs : List V} {fs : List (Str × V)} (h : TupD H p xs) (e : H q = some (.ins C dx fs)) : p ≠ q := fun z => by
  obtain ⟨o, e2, d⟩ := h
  rw [z, e] at e2
  cases e2
end K17

namespace K17
open L2 PySem PySem.Spec PyProof.Rows
abbrev sPInit : Stmt := inClass (top 33) 0
abbrev sPText : Stmt := inClass (top 33) 1
abbrev sPParts : Stmt := inClass (top 33) 2
abbrev sPWays : Stmt := inClass (top 33) 3
abbrev sPTakes : Stmt := inClass (top 33) 4
abbrev sPEq : Stmt := inClass (top 33) 5
/-! ### a class made where what is raised is wished for at the slots -/
section
variable {X : Cx} {k : Nat} {f C : Addr} {fd : FuncData} {ps : List Str} {sp : Sp} {E : L2.St → XK} {x : Str} {p pos : Pos} {e : Expr} {es : List Expr} {t : TA}
def tMakeS (C : Addr) (sp : Sp) (E : L2.St → XK) (t : TA) : TE := fun σ H Q => t σ H fun vs H1 => ∀ x dx, H1 x = none → H1 dx = none → dx ≠ x → sp (.ref x :: vs) (upd (upd H1 dx (.own x)) x (.ins C dx [])) (fun v H2 => v = .non ∧ Q (.ref x) H2) (E σ)
theorem pe_makeS {CXX : CXT} (M : Mk X.K C f) (F : FnOk X.prog X.w X.K X.mg X.base CXX k f fd ps sp) (hr : Room (k + 1) X.A) (hg : Gl X x) (hm : X.mg x = some (.ref C)) (hb : Binds X.K fd ps []) (hx : ∀ σ, PassesAt CXX X σ (E σ))
    (ha : PA X (e :: es) t) (hdb : (x == ("__debug__" : Str)) = false := by (decide)) (he : starEach (e :: es) X.env = (false, eval e X.env) :: starEach es X.env := by rfl) (hpl : (backTo pos (starEach es X.env)).any (·.1) = false := by rfl) :
    PE X (.Call (.Name x p) (e :: es) [] pos) (tMakeS C sp E t) := by
  refine ⟨fun pins s σ H Q I h => wpAny_Call_Name_kw (ld_glob I hg hm ?_ hdb)⟩
  (refine PySem.W.callWith_K (h₀ := X.base) I.ok.mod.kin M.kp (thn (ha.run pos pins s σ H _ I h) fun us s1 ⟨vs, H1, I1, r, q⟩ => ⟨I1.kIn, ?_⟩) he hpl)
  have q1 := q (s1.heap.objs.size + 1) s1.heap.objs.size (I1.hok.fresh (Nat.le_succ _)) (I1.hok.fresh (Nat.le_refl _)) (Nat.ne_of_lt (Nat.lt_succ_self _))
  have J := Inv.made (C := C) I1
  have rr : Vals (V.ref (s1.heap.objs.size + 1) :: vs) (Value.ref (s1.heap.objs.size + 1) :: us) := .cons rfl r
  have count : (Value.ref (s1.heap.objs.size + 1) :: us ++ []).length = ps.length := by
    rw [List.append_nil, ← rr.length]
    exact F.len _ _ _ _ q1
  have bound := hb _ (Value.ref (s1.heap.objs.size + 1) :: us) J.kIn count
  rw [List.append_nil] at bound
  refine wpAny_call (make_map (f := f) I1.kIn M.makes M.init (beq_iff_eq.mp M.fn) (codeAny_mono (F.run _ X.stack _ _ ⟨Value.ref (s1.heap.objs.size + 1) :: us, []⟩ (Value.ref (s1.heap.objs.size + 1) :: us) _ _ (E σ) (hr.make C us [])
    (J.env0.make C us []) bound rr q1) fun r s' out => ?_))
  cases r with
  | error er => exact hx σ pins _ _ er s' J out
  | ok fl =>
    cases fl with
    | ret u =>
      obtain ⟨v, H', I3, rv, ev, q3⟩ := J.after out
      subst ev
      exact ⟨rv, ⟨V.ref (s1.heap.objs.size + 1), H', I3, rfl, q3⟩⟩
    | next => exact False.elim out
    | brk => exact False.elim out
    | cont => exact False.elim out
end
def HasX (P : Program) (w : World) (K : PySem.W.Frag) (mg : Str → Option Value) (base : Heap) (nm : Str) (k : Nat) (ps : List Str) (sp : Sp) : Prop :=
  ∃ (f : Addr) (fd : FuncData), FnOk P w K mg base (L2.CX P w) k f fd ps sp ∧ mg nm = some (.ref f) ∧ PySem.W.keepIn K (.ref f) = true ∧ Binds K fd ps []
theorem pe_hasX {X : Cx} {nm : Str} {k : Nat} {ps : List Str} {sp : Sp} {W : WX} {e : Expr} {es : List Expr} {t : TA} {p pos : Pos} (h : HasX X.prog X.w X.K X.mg X.base nm k ps sp) (tk : L2.Takes X W) (hr : Room k X.A) (ha : PA X (e :: es) t) (hg : Gl X nm := by rfl)
    (hdb : (nm == ("__debug__" : Str)) = false := by decide) (he : starEach (e :: es) X.env = (false, eval e X.env) :: starEach es X.env := by rfl) (hpl : (backTo pos (starEach es X.env)).any (·.1) = false := by rfl) :
    PE X (.Call (.Name nm p) (e :: es) [] pos) (tCallS sp (WE W) t) := by
  obtain ⟨f, fd, F, hm, hk, hb⟩ := h
  exact pe_callS F hr hg hm hk hb (fun σ => passAt tk σ) ha hdb he hpl
/-! ### Plan -/
def pf (z : Str) (a b c : Addr) : List (Str × V) := putF "_takes" (.ref c) (putF "_ways" (.ref b) (putF "_parts" (.ref a) (putF "_text" (.str z) [])))
structure PlanT (K : PySem.W.Frag) (mg : Str → Option Value) (C : Addr) : Prop where
  cl : Cls K C
  gP : mg "Plan" = some (.ref C)
  n1 : NoAttr K C "_text"
  n2 : NoAttr K C "_parts"
  n3 : NoAttr K C "_ways"
  n4 : NoAttr K C "_takes"
  tuple : mg "tuple" = none
  isinst : mg "isinstance" = none
theorem split_count (z y : Str) (hy : (tx y).length = 1) : (Txt.split z y).length ≤ z.length + 1 := by
  have e : TL.tl (Str.join y (Txt.split z y)) = TL.tl z := by rw [StrLaws.join_split]
  rw [TL.tl_join] at e
  have count : ∀ ps : List (List Nat), ps.length ≤ (TL.joinL (TL.tl y) ps).length + 1 := by
    intro ps
    induction ps with
    | nil => exact Nat.zero_le _
    | cons p r ih =>
      cases r with
      | nil => exact Nat.succ_le_succ (Nat.zero_le _)
      | cons q l =>
        show (q :: l).length + 1 ≤ (p ++ (TL.tl y ++ TL.joinL (TL.tl y) (q :: l))).length + 1
        rw [List.length_append, List.length_append]
        have : (TL.tl y).length = 1 := hy
        omega
  have := count ((Txt.split z y).map TL.tl)
  rw [e, List.length_map] at this
  rw [TL.len_tl z]
  exact this
theorem readR_len : ∀ {ls : List Str} {k : Nat} {acc rows : List Row}, readR k acc ls = .inr rows → rows.length ≤ acc.length + ls.length
  | [], k, acc, rows, h => by
    cases h
    exact Nat.le_refl _
  | l :: r, k, acc, rows, h => by
    have h' : (match partOf (wordsOf l) with | none => Sum.inl k | some p => if k = 4 ∨ p.1 ∈ acc.map (fun q : Row => q.1) then Sum.inl k else readR (k + 1) (acc ++ [p]) r) = .inr rows := h
    cases hp : partOf (wordsOf l) with
    | none =>
      rw [hp] at h'
      cases h'
    | some p =>
      rw [hp] at h'
      have h2 : (if k = 4 ∨ p.1 ∈ acc.map (·.1) then Sum.inl k else readR (k + 1) (acc ++ [p]) r) = .inr rows := h'
      by_cases c : k = 4 ∨ p.1 ∈ acc.map (·.1)
      · rw [if_pos c] at h2
        cases h2
      · rw [if_neg c] at h2
        have := readR_len h2
        rw [List.length_append] at this
        simp only [List.length_cons, List.length_nil] at this ⊢
        omega
theorem putF_len {f : Str} {y : V} : ∀ fs : List (Str × V), (putF f y fs).length ≤ fs.length + 1
  | [] => Nat.le_refl _
  | (g, x) :: r => by
    show (if g = f then (g, y) :: r else (g, x) :: putF f y r).length ≤ r.length + 1 + 1
    by_cases h : g = f
    · rw [if_pos h]
      exact Nat.le_succ _
    · rw [if_neg h]
      exact Nat.succ_le_succ (putF_len r)
section
variable {K : PySem.W.Frag}
/-- [row[j] for row in rows] -/
theorem col_lc {σ : L2.St} {H : Hp} {Q : VK} {te : TE} {R : Addr} {ts : List Addr} {rows : List Row} {col : Row → V} (h2 : σ[2]? = some (some (.ref R))) (hR : SqL K H R (ts.map V.ref)) (hr : Rows H ts rows) (hl : rows.length ≤ 1000000)
    (hw : ∀ v, wipe ((wipe σ [3]).set 3 (some v)) [3] = wipe σ [3]) (he : ∀ (t : Addr) (r : Row) (H1 : Hp) (R' : VK), H1 t = some (.tup (rowV r)) → R' (col r) H1 → te ((wipe σ [3]).set 3 (some (.ref t))) H1 R')
    (k : ∀ D H', Same H H' → H D = none → H' D = some (.lst (rows.map col)) → Q (.ref D) H') : tLc (iList K (tVar 2)) (gName 3) tYes te [3] σ H Q := by
  refine ⟨_, h2, R, rfl, ⟨_, hR⟩, fun D nD => ?_⟩
  refine lc_list (K := K) (a := R) (xs := ts.map V.ref) (fun j H4 => Same H H4 ∧ H4 D = some (.lst ((rows.take j).map col))) ⟨same_upd nD, upd_same⟩ (fun j H4 _ q => q.1.seq hR) ?_ ?_
  · rintro j x H4 hx ⟨s4, hD⟩
    obtain ⟨t1, ht1, rfl⟩ : ∃ t1, ts[j]? = some t1 ∧ V.ref t1 = x := by
      rw [List.getElem?_map] at hx
      exact Option.map_eq_some_iff.mp hx
    obtain ⟨r1, hr1, he1⟩ := rows_get hr ht1
    refine ⟨hw _, ?_⟩
    show te _ H4 _
    refine he t1 r1 H4 _ (s4 _ _ he1) ⟨_, hD, ?_, same_new s4 nD, ?_⟩
    · (rw [List.length_map, List.length_take])
      exact Nat.lt_of_le_of_lt (Nat.le_trans (Nat.min_le_right _ _) hl) (by decide)
    · rw [upd_same, take_one hr1, List.map_append]
      rfl
  · rintro H4 ⟨s4, hD⟩
    have elen : (ts.map V.ref).length = rows.length := by
      rw [List.length_map]
      exact Paired.length hr
    rw [elen, List.take_length] at hD
    exact k D H4 s4 nD hD
/-- self.F = tuple([row[j] for row in rows]) -/
theorem fld_col {σ : L2.St} {H : Hp} {D : Ends} {te : TE} {R p C dx : Addr} {fs : List (Str × V)} {F : Str} {ts : List Addr} {rows : List Row} {col : Row → V} (h0 : σ[0]? = some (some (.ref p))) (h2 : σ[2]? = some (some (.ref R)))
    (hR : H R = some (.lst (ts.map V.ref))) (hr : Rows H ts rows) (hl : rows.length ≤ 1000000) (hp : H p = some (.ins C dx fs)) (c : Cls K C) (n : NoAttr K C F) (hf : fs.length < 1000)
    (hw : ∀ v, wipe ((wipe σ [3]).set 3 (some v)) [3] = wipe σ [3]) (he : ∀ (t : Addr) (r : Row) (H1 : Hp) (R' : VK), H1 t = some (.tup (rowV r)) → R' (col r) H1 → te ((wipe σ [3]).set 3 (some (.ref t))) H1 R')
    (k : ∀ H' l, Keep p H H' → H' p = some (.ins C dx (putF F (.ref l) fs)) → TupD H' l (rows.map col) → D.nx σ H') :
    sFld K (tVar 0) (tCB (fun xs H Q => ∃ p ys, xs = [.ref p] ∧ SqL K H p ys ∧ ∀ (l : Addr) (o : Obj), H l = none → o.dict = none → Q (.ref l) (upd H l (.frz o (.tup ys)))) (tCons (tLc (iList K (tVar 2)) (gName 3) tYes te [3]) tNil)) F D σ H := by
  unfold sFld tCB tCons
  refine col_lc h2 (SqL.of hR) hr hl hw he fun D1 H4 s4 nD hD => ?_
  refine ⟨D1, _, rfl, SqL.of hD, fun l o hl1 od => ?_⟩
  have s5 := same_upd (o := .frz o (.tup (rows.map col))) hl1
  have hp5 := s5 _ _ (s4 _ _ hp)
  have nl : l ≠ p := fun z => by
    rw [z, s4 _ _ hp] at hl1
    cases hl1
  refine ⟨_, h0, p, C, dx, fs, rfl, hp5, c, n, hf, k _ l ((K17.Same.keep (s4.trans s5)).trans Keep.put) upd_same ⟨o, ?_, od⟩⟩
  rw [upd_ne nl, upd_same]
end
def spPI (K : PySem.W.Frag) (C CB : Addr) : Sp := fun vs H Q E => ∃ (p dx : Addr) (x : V), vs = [.ref p, x] ∧ H p = some (.ins C dx []) ∧
  ((NotStr K H x ∧ Bad H CB (-1) E) ∨ ∃ z : Str, x = .str z ∧ z.length ≤ 100000 ∧ Asc z ∧ (∀ n : Nat, readR 0 [] (linesOf z) = .inl n → Bad H CB (n : Int) E) ∧
    (∀ rows, readR 0 [] (linesOf z) = .inr rows → ∀ (H' : Hp) (a b c : Addr), Keep p H H' → H' p = some (.ins C dx (pf z a b c)) → TupD H' a (rows.map fun r => V.str r.1) → TupD H' b (rows.map fun r => V.str r.2.1) →
      TupD H' c (rows.map fun r => V.bl r.2.2) → Q .non H'))
abbrev nPInit : List Str := ["self", "text", "rows", "row"]
section
variable {base : Heap} {P : Program} {w : World} {K : PySem.W.Frag} {mg : Str → Option Value}
theorem scPInit : FnScope nPInit ["self", "text"] (defScope sPInit) := ⟨rfl, rfl, rfl, by decide +kernel, rfl, by decide +kernel, by decide +kernel⟩
theorem ok_pinit {f C CB : Addr} {fd : FuncData} (F : Fun K "__init__" "Plan.__init__" sPInit f fd) (T : PlanT K mg C) (GL : HasX P w K mg base "lines_of" 3 ["text"] (spLines K CB)) (GR : HasX P w K mg base "read_parts" 3 ["lines"] (spRead K CB)) :
    FnOk P w K mg base (L2.CX P w) 4 f fd ["self", "text"] (spPI K C CB) := by
  refine F.okX scPInit (fun vs H Q E h => ?_) (fun cdv A outer s H vs Q E hr h => ?_)
  · obtain ⟨p, dx, x, rfl, _⟩ := h
    rfl
  · obtain ⟨p, dx, x, rfl, hp, h⟩ := h
    refine ⟨_, pss_cons (ps_set (i := 2) scPInit.nd rfl (.inl rfl) (pe_hasX GR (takes_of rfl rfl rfl rfl) hr (pa_cons (pe_hasX GL (takes_of rfl rfl rfl rfl) hr (pa_cons (pv 1) pa_nil)) pa_nil)))
      (pss_cons (ps_fld (pv 0) (pv 1) rfl)
      (pss_cons (ps_fld (pv 0) (pe_callTy call_tupD (by rfl) T.tuple (by decide +kernel) (pa_cons (pe_lc (own := [("row", 3)]) (g := gName 3) (tt := tYes) rfl scPInit.nd (pi_list (pv 2))
              (blkOk_by (N := nPInit) (sc := defScope sPInit) (by decide +kernel)) (fun _ _ _ _ _ => pg_name (i := 3) scPInit.nd rfl (Or.inl rfl)) (fun _ _ _ _ _ => pts_nil) (fun _ _ _ _ _ => pe_ix (r := rIxT K) ix_tup (pv 3) pe_int (fun _ _ => rfl))) pa_nil)) rfl)
      (pss_cons (ps_fld (pv 0) (pe_callTy call_tupD (by rfl) T.tuple (by decide +kernel) (pa_cons (pe_lc (own := [("row", 3)]) (g := gName 3) (tt := tYes) rfl scPInit.nd (pi_list (pv 2))
              (blkOk_by (N := nPInit) (sc := defScope sPInit) (by decide +kernel)) (fun _ _ _ _ _ => pg_name (i := 3) scPInit.nd rfl (Or.inl rfl)) (fun _ _ _ _ _ => pts_nil) (fun _ _ _ _ _ => pe_ix (r := rIxT K) ix_tup (pv 3) pe_int (fun _ _ => rfl))) pa_nil)) rfl)
      (pss_one (ps_fld (pv 0) (pe_callTy call_tupD (by rfl) T.tuple (by decide +kernel) (pa_cons (pe_lc (own := [("row", 3)]) (g := gName 3) (tt := tYes) rfl scPInit.nd (pi_list (pv 2))
              (blkOk_by (N := nPInit) (sc := defScope sPInit) (by decide +kernel)) (fun _ _ _ _ _ => pg_name (i := 3) scPInit.nd rfl (Or.inl rfl)) (fun _ _ _ _ _ => pts_nil) (fun _ _ _ _ _ => pe_ix (r := rIxT K) ix_tup (pv 3) pe_int (fun _ _ => rfl))) pa_nil)) rfl))))), ?_⟩
    rcases h with ⟨ns, bad⟩ | ⟨z, rfl, hz, asc, kB, kO⟩
    · exact ⟨_, rfl, x, rfl, .inr ⟨ns, bad⟩⟩
    refine ⟨_, rfl, _, rfl, .inl ⟨z, rfl, Nat.le_trans hz (by decide), fun p1 H1 np s1 h1 => ?_⟩⟩
    have cnt : (linesOf z).length ≤ 1000000 := Nat.le_trans (split_count z nl (by decide +kernel)) (by omega)
    refine ⟨p1, linesOf z, rfl, SqL.of h1, cnt, fun l hl => ⟨Nat.le_trans (split_mem hl).2 (Nat.le_trans hz (by decide)), fun c hc => asc c ((split_mem hl).1 c hc)⟩, fun n e => (kB n e).same s1, fun rows e R ts H2 s2 nR hR hRows => ?_⟩
    have hp2 := s2 _ _ (s1 _ _ hp)
    have len : rows.length ≤ 1000000 := Nat.le_trans (readR_len e) (by rw [List.length_nil]; omega)
    refine ⟨_, rfl, _, rfl, p, C, dx, [], rfl, hp2, T.cl, T.n1, (by show 0 < 1000; decide), ?_⟩
    -- the three tuples
    have tupNe : ∀ {Hx : Hp} {fs : List (Str × V)} {t : Addr} {xs : List V}, Hx p = some (.ins C dx fs) → Hx t = some (.tup xs) → t ≠ p := fun {Hx fs t xs} a b e => by
      rw [e, a] at b
      cases b
    have k3 : Keep p H2 (upd H2 p (.ins C dx (putF "_text" (.str z) []))) := Keep.put
    have hR3 := k3 _ _ (fun e => by rw [e, hp2] at hR; cases hR) hR
    have hr3 : Rows (upd H2 p (.ins C dx (putF "_text" (.str z) []))) ts rows := rows_same hRows fun t xs e => k3 _ _ (tupNe hp2 e) e
    have k03 : Keep p H (upd H2 p (.ins C dx (putF "_text" (.str z) []))) := (K17.Same.keep (s1.trans s2)).trans k3
    dsimp only [tSeq, tAsg, List.map]
    refine fld_col (K := K) (R := R) (p := p) (C := C) (dx := dx) (ts := ts) (rows := rows) (col := fun r => V.str r.1) ?_ ?_ hR3 hr3 len upd_same T.cl T.n2 ?_ ?_ ?_ ?_
    · rfl
    · rfl
    · show 1 < 1000
      decide
    · exact fun _ => rfl
    · exact fun t r H1 R' e q => ⟨_, rfl, t, _, 0, .str r.1, rfl, rfl, SqT.of e, atI_nat (j := 0) rfl, q⟩
    intro H4 a k4 hp4 ha4
    have k04 := k03.trans k4
    have hR4 := k4 _ _ (fun e => by rw [e, upd_same] at hR3; cases hR3) hR3
    have hr4 : Rows H4 ts rows := rows_same hr3 fun t xs e => k4 _ _ (tupNe upd_same e) e
    have len4 := putF_len (f := "_parts") (y := .ref a) (putF "_text" (.str z) [])
    refine fld_col (K := K) (R := R) (p := p) (C := C) (dx := dx) (ts := ts) (rows := rows) (col := fun r => V.str r.2.1) ?_ ?_ hR4 hr4 len hp4 T.cl T.n3 ?_ ?_ ?_ ?_
    · rfl
    · rfl
    · exact Nat.lt_of_le_of_lt len4 (by show 2 < 1000; decide)
    · exact fun _ => rfl
    · exact fun t r H1 R' e q => ⟨_, rfl, t, _, 1, .str r.2.1, rfl, rfl, SqT.of e, atI_nat (j := 1) rfl, q⟩
    intro H5 b k5 hp5 hb5
    have k05 := k04.trans k5
    have hR5 := k5 _ _ (fun e => by rw [e, hp4] at hR4; cases hR4) hR4
    have hr5 : Rows H5 ts rows := rows_same hr4 fun t xs e => k5 _ _ (tupNe hp4 e) e
    have len5 := putF_len (f := "_ways") (y := .ref b) (putF "_parts" (.ref a) (putF "_text" (.str z) []))
    refine fld_col (K := K) (R := R) (p := p) (C := C) (dx := dx) (ts := ts) (rows := rows) (col := fun r => V.bl r.2.2) ?_ ?_ hR5 hr5 len hp5 T.cl T.n4 ?_ ?_ ?_ ?_
    · rfl
    · rfl
    · exact Nat.lt_of_le_of_lt len5 (Nat.lt_of_le_of_lt (Nat.succ_le_succ len4) (by show 3 < 1000; decide))
    · exact fun _ => rfl
    · exact fun t r H1 R' e q => ⟨_, rfl, t, _, 2, .bl r.2.2, rfl, rfl, SqT.of e, atI_nat (j := 2) rfl, q⟩
    intro H6 c k6 hp6 hc6
    have ha5 := ha4.keep (ha4.ne_ins hp4) k5
    exact kO rows e H6 a b c (k05.trans k6) hp6 (ha5.keep (ha5.ne_ins hp5) k6) (hb5.keep (hb5.ne_ins hp5) k6) hc6
end
end K17

namespace K17
theorem nat_ne {a c : Nat} (h : a < c ∨ c < a) : a ≠ c := by omega
theorem nm2 {a x y : Nat} (h1 : a ≠ x) (h2 : a ≠ y) : a ∉ [x, y] := fun q => by
  rcases List.mem_cons.mp q with q | q
  · exact h1 q
  · exact h2 (List.mem_singleton.mp q)
open L2 PySem PySem.Spec PyProof.Rows
/-! list(zip(a, b, c)) of three lists of one length -/
/-- three drawn lists from cell b on: iterators b, b+1, b+2, the zip's tuples b+3, b+4, the zip b+5 -/
def Z3 (b l1 l2 l3 : Nat) (xs ys zs : Array Value) (i : Nat) (h : Heap) : Prop :=
  IsTupOf3 h (b + 3) (.ref b) (.ref (b + 1)) (.ref (b + 2)) ∧ h.IsListIter b l1 i ∧ h.IsListIter (b + 1) l2 i ∧ h.IsListIter (b + 2) l3 i ∧ h.IsList l1 xs ∧ h.IsList l2 ys ∧ h.IsList l3 zs ∧
  ((IsZip h (b + 5) (b + 3) (b + 4) .none ∧ ∃ a1 a2 a3, IsTupOf3 h (b + 4) a1 a2 a3) ∨ ∃ (T : Nat) (f : Bool) (oT : Obj), IsZipHeld h (b + 5) (b + 3) (b + 4) T f ∧ h.get? T = some oT ∧ b + 6 < T)
section
variable {prog : Program} {w : World} {A : Around} {E : Value → Shared → Prop} {s : Shared} {b l1 l2 l3 : Nat} {xs ys zs : Array Value} {i : Nat}
theorem z3_keep {h h' : Heap} (x : Z3 b l1 l2 l3 xs ys zs i h) (k : ∀ (c : Nat) (o : Obj), c ≠ b + 6 → h.get? c = some o → h'.get? c = some o) (h1 : l1 < b) (h2 : l2 < b) (h3 : l3 < b) : Z3 b l1 l2 l3 xs ys zs i h' := by
  obtain ⟨a1, a2, a3, a4, a5, a6, a7, a8⟩ := x
  refine ⟨k _ _ (by (first | omega | exact nat_ne (by omega))) a1, a2.at fun o => k _ o (by (first | omega | exact nat_ne (by omega))), a3.at fun o => k _ o (by (first | omega | exact nat_ne (by omega))), a4.at fun o => k _ o (by (first | omega | exact nat_ne (by omega))), a5.at fun o => k _ o (by (first | omega | exact nat_ne (by omega))), a6.at fun o => k _ o (by (first | omega | exact nat_ne (by omega))), a7.at fun o => k _ o (by (first | omega | exact nat_ne (by omega))), ?_⟩
  rcases a8 with ⟨e1, c1, c2, c3, e2⟩ | ⟨T, f, oT, e1, e2, e3⟩
  · exact .inl ⟨k _ _ (by (first | omega | exact nat_ne (by omega))) e1, c1, c2, c3, k _ _ (by (first | omega | exact nat_ne (by omega))) e2⟩
  · exact .inr ⟨T, f, oT, k _ _ (by (first | omega | exact nat_ne (by omega))) e1, k _ _ (by (first | omega | exact nat_ne (by omega))) e2, e3⟩
theorem z3_sep (h1 : l1 < b) (h2 : l2 < b) (h3 : l3 < b) : ZipSep3 (b + 5) (b + 3) (b + 4) b (b + 1) (b + 2) [b, l1] [b + 1, l2] [b + 2, l3] := by
  constructor <;> first | omega | exact nat_ne (by omega) | exact List.mem_cons_self | exact nm2 (by (first | omega | exact nat_ne (by omega))) (by (first | omega | exact nat_ne (by omega)))
theorem z3_heldItem {T : Nat} {f : Bool} {oT : Obj} {x y z : Value} {Q : Value → Shared → Prop} (h1 : l1 < b) (h2 : l2 < b) (h3 : l3 < b) (st : Z3 b l1 l2 l3 xs ys zs i s.heap) (hz : IsZipHeld s.heap (b + 5) (b + 3) (b + 4) T f) (hT : s.heap.get? T = some oT) (bT : b + 6 < T)
    (hx : xs[i]? = some x) (hy : ys[i]? = some y) (hw : zs[i]? = some z)
    (hQ : ∀ h', Z3 b l1 l2 l3 xs ys zs (i + 1) h' → IsTupOf3 h' s.heap.objs.size x y z → h'.objs.size = s.heap.objs.size + 1 → (∀ (c : Nat) (o : Obj), (c < b ∨ b + 6 ≤ c) → s.heap.get? c = some o → h'.get? c = some o) → Q (.ref s.heap.objs.size) { s with heap := h' }) :
    wpAny (model prog w) A (Builtin.«zip.__next__» ⟨[.ref (b + 5)], []⟩) (fun fin s' => ∃ v, fin = .done (.ret v) ∧ Q v s') E s := by
  obtain ⟨a1, a2, a3, a4, a5, a6, a7, _⟩ := st
  show wpAny _ _ (field (.ref (b + 5)) 2 >>= _) _ _ _
  (refine wpAny_bind (wpAny_field hz rfl (x := .bool false) rfl ?_))
  show wpAny _ _ (field (.ref (b + 5)) 3 >>= _) _ _ _
  refine wpAny_bind (wpAny_field hz rfl (x := .ref (b + 3)) rfl ?_)
  refine wpAny_bind (wpAny_seqItems a1 rfl ?_)
  show wpAny _ _ (Builtin.SmallTypes.ownedTupleIsFree (.ref (b + 5)) >>= _) _ _ _
  refine wpAny_bind (wpAny_tupleHeld_zip hz hT fun g1 z1 s1 => ?_)
  (rw [if_neg Bool.false_ne_true])
  refine wpAny_bind ?_
  rw [← Array.forIn_toList]
  (simp only [List.forIn_cons, List.forIn_nil])
  (refine wpAny_bind (wpAny_bind (wpAny_holding ?_)))
  show wpAny _ _ (Builtin.SmallTypes.nextOf (.ref b) >>= _) _ _ _
  have n5 : ∀ (c : Nat), c < b + 3 → c ≠ b + 5 := fun (c : Nat) q => by (first | omega | exact nat_ne (by omega))
  refine wpAny_bind (wpAny_nextOf_list_item (s := { s with heap := g1 }) (a2.extBut s1.extBut (n5 _ (by (first | omega | exact nat_ne (by omega))))) (a5.extBut s1.extBut (n5 _ (by (first | omega | exact nat_ne (by omega))))) hx fun g2 u2 s2 => wpAny_pure (wpAny_pure ?_))
  (refine wpAny_bind (wpAny_bind (wpAny_holding ?_)))
  show wpAny _ _ (Builtin.SmallTypes.nextOf (.ref (b + 1)) >>= _) _ _ _
  refine wpAny_bind (wpAny_nextOf_list_item (s := { s with heap := g2 }) ((a3.extBut s1.extBut (n5 _ (by (first | omega | exact nat_ne (by omega))))).extBut s2.extBut (by (first | omega | exact nat_ne (by omega)))) ((a6.extBut s1.extBut (n5 _ (by (first | omega | exact nat_ne (by omega))))).extBut s2.extBut (by (first | omega | exact nat_ne (by omega)))) hy fun g3 u3 s3 => wpAny_pure (wpAny_pure ?_))
  (refine wpAny_bind (wpAny_bind (wpAny_holding ?_)))
  show wpAny _ _ (Builtin.SmallTypes.nextOf (.ref (b + 2)) >>= _) _ _ _
  refine wpAny_bind (wpAny_nextOf_list_item (s := { s with heap := g3 }) (((a4.extBut s1.extBut (n5 _ (by (first | omega | exact nat_ne (by omega))))).extBut s2.extBut (by (first | omega | exact nat_ne (by omega)))).extBut s3.extBut (by (first | omega | exact nat_ne (by omega)))) (((a7.extBut s1.extBut (n5 _ (by (first | omega | exact nat_ne (by omega))))).extBut s2.extBut (by (first | omega | exact nat_ne (by omega)))).extBut s3.extBut (by (first | omega | exact nat_ne (by omega)))) hw fun g4 u4 s4 => wpAny_pure ?_)
  (refine wpAny_pure (wpAny_pure ?_))
  show wpAny _ _ (newTuple [x, y, z] >>= _) _ _ _
  (refine wpAny_bind (wpAny_newTuple ?_))
  have all : ∀ (c : Nat) (o : Obj), c ≠ b + 5 → c ≠ b → c ≠ b + 1 → c ≠ b + 2 → s.heap.get? c = some o → (g4.push { cls := .type "tuple", data := .seq #[x, y, z] }).get? c = some o := fun (c : Nat) o n1 n2 n3 n4 e =>
    Heap.get?_push_of_some _ (s4.extBut _ _ n4 (s3.extBut _ _ n3 (s2.extBut _ _ n2 (s1.extBut _ _ n1 e))))
  have size4 : g4.objs.size = s.heap.objs.size := by rw [s4.1, s3.1, s2.1, s1.1]
  have at4 : (g4.push { cls := .type "tuple", data := .seq #[x, y, z] }).get? g4.objs.size = some { cls := .type "tuple", data := .seq #[x, y, z] } := Heap.get?_push_size _ rfl
  have size5 : (g4.push { cls := .type "tuple", data := .seq #[x, y, z] }).objs.size = g4.objs.size + 1 := Heap.size_push ..
  have z4 : IsZipHeld g4 (b + 5) (b + 3) (b + 4) T true := s4.extBut _ _ (by (first | omega | exact nat_ne (by omega))) (s3.extBut _ _ (by (first | omega | exact nat_ne (by omega))) (s2.extBut _ _ (by (first | omega | exact nat_ne (by omega))) z1))
  have i1 := (u2.extBut s3.extBut (by (first | omega | exact nat_ne (by omega)))).extBut s4.extBut (by (first | omega | exact nat_ne (by omega)))
  have i2 := u3.extBut s4.extBut (by (first | omega | exact nat_ne (by omega)))
  (refine wpAny_pure ⟨_, rfl, ?_⟩)
  show Q (.ref g4.objs.size) _
  rw [size4] at at4 size5 ⊢
  refine hQ _ ⟨all _ _ (by (first | omega | exact nat_ne (by omega))) (by (first | omega | exact nat_ne (by omega))) (by (first | omega | exact nat_ne (by omega))) (by (first | omega | exact nat_ne (by omega))) a1, i1.at fun o => Heap.get?_push_of_some _, i2.at fun o => Heap.get?_push_of_some _, u4.at fun o => Heap.get?_push_of_some _,
    a5.at fun o => all _ o (by (first | omega | exact nat_ne (by omega))) (by (first | omega | exact nat_ne (by omega))) (by (first | omega | exact nat_ne (by omega))) (by (first | omega | exact nat_ne (by omega))), a6.at fun o => all _ o (by (first | omega | exact nat_ne (by omega))) (by (first | omega | exact nat_ne (by omega))) (by (first | omega | exact nat_ne (by omega))) (by (first | omega | exact nat_ne (by omega))), a7.at fun o => all _ o (by (first | omega | exact nat_ne (by omega))) (by (first | omega | exact nat_ne (by omega))) (by (first | omega | exact nat_ne (by omega))) (by (first | omega | exact nat_ne (by omega))),
    .inr ⟨T, true, oT, Heap.get?_push_of_some _ z4, all _ _ (by (first | omega | exact nat_ne (by omega))) (by (first | omega | exact nat_ne (by omega))) (by (first | omega | exact nat_ne (by omega))) (by (first | omega | exact nat_ne (by omega))) hT, bT⟩⟩ at4 size5 fun (c : Nat) o r e => all c o (by (first | omega | exact nat_ne (by omega))) (by (first | omega | exact nat_ne (by omega))) (by (first | omega | exact nat_ne (by omega))) (by (first | omega | exact nat_ne (by omega))) e
theorem z3_item {x y z : Value} {Q : Option Value → Shared → Prop} (hh : A.handled = none) (h1 : l1 < b) (h2 : l2 < b) (h3 : l3 < b) (st : Z3 b l1 l2 l3 xs ys zs i s.heap) (big : b + 6 < s.heap.objs.size)
    (hx : xs[i]? = some x) (hy : ys[i]? = some y) (hw : zs[i]? = some z)
    (hQ : ∀ h' tk, Z3 b l1 l2 l3 xs ys zs (i + 1) h' → IsTupOf3 h' s.heap.objs.size x y z → h'.objs.size = s.heap.objs.size + 1 → (∀ (c : Nat) (o : Obj), (c < b ∨ b + 6 ≤ c) → s.heap.get? c = some o → h'.get? c = some o) → Q (some (.ref s.heap.objs.size)) { s with heap := h', toks := tk }) :
    wpAny (model prog w) A (pyNext (.ref (b + 5))) Q E s := by
  have st' := st
  obtain ⟨a1, a2, a3, a4, a5, a6, a7, a8⟩ := st'
  rcases a8 with ⟨e1, c1, c2, c3, e2⟩ | ⟨T, f, oT, e1, e2, e3⟩
  · refine wpAny_pyNext_zipD3_item (z3_sep h1 h2 h3) (Draws.list (prog := prog) (w := w) (A := A.in1) (show A.in1.handled = none from hh) b l1 (by (first | omega | exact nat_ne (by omega))) xs) (Draws.list (prog := prog) (w := w) (A := A.in1) (show A.in1.handled = none from hh) (b + 1) l2 (by (first | omega | exact nat_ne (by omega))) ys) (Draws.list (prog := prog) (w := w) (A := A.in1) (show A.in1.handled = none from hh) (b + 2) l3 (by (first | omega | exact nat_ne (by omega))) zs) e1 a1 e2 ⟨a2, a5⟩ ⟨a3, a6⟩ ⟨a4, a7⟩
      (by rcases Nat.lt_or_ge i xs.size with q | q; exact q; rw [Array.getElem?_eq_none q] at hx; cases hx) (by rcases Nat.lt_or_ge i ys.size with q | q; exact q; rw [Array.getElem?_eq_none q] at hy; cases hy) (by rcases Nat.lt_or_ge i zs.size with q | q; exact q; rw [Array.getElem?_eq_none q] at hw; cases hw)
      fun x1 x2 x3 h' tk p1 p2 p3 q1 q2 q3 q4 q5 q6 q7 k => ?_
    rw [hx] at p1
    rw [hy] at p2
    rw [hw] at p3
    cases p1
    cases p2
    cases p3
    exact hQ h' tk ⟨k _ _ (by (first | omega | exact nat_ne (by omega))) (by (first | omega | exact nat_ne (by omega))) (by (first | omega | exact nat_ne (by omega))) (by (first | omega | exact nat_ne (by omega))) (by (first | omega | exact nat_ne (by omega))) a1, q3.1, q4.1, q5.1, q3.2, q4.2, q5.2, .inr ⟨_, false, _, q1, q6, big⟩⟩ q6 q7 fun (c : Nat) o r e => k c o (by (first | omega | exact nat_ne (by omega))) (by (first | omega | exact nat_ne (by omega))) (by (first | omega | exact nat_ne (by omega))) (by (first | omega | exact nat_ne (by omega))) (by (first | omega | exact nat_ne (by omega))) e
  · have ty : s.TypeIs (.ref (b + 5)) "zip" := ⟨_, e1, rfl⟩
    unfold pyNext
    exact wpAny_bind (wpAny_attempt (wpAny_callSpecial?_slot (name := Str.ofString "__next__") ty F.slot_zip_next
      (wpAny_call_entry F.slot_zip_next ty F.entry_zip_next (z3_heldItem h1 h2 h3 st e1 e2 e3 hx hy hw fun h' q1 q2 q3 q4 => wpAny_pure (hQ h' s.toks q1 q2 q3 q4)) (F.args_zip_next_1 _))))
theorem z3_heldEnd {T : Nat} {f : Bool} {oT : Obj} {Q : Fin → Shared → Prop} (hh : A.handled = none) (h1 : l1 < b) (st : Z3 b l1 l2 l3 xs ys zs i s.heap) (hz : IsZipHeld s.heap (b + 5) (b + 3) (b + 4) T f) (hT : s.heap.get? T = some oT)
    (hx : xs[i]? = none) (hE : ∀ h' e, (∀ (c : Nat) (o : Obj), (c < b ∨ b + 6 ≤ c) → s.heap.get? c = some o → h'.get? c = some o) → (∃ o, h'.get? e = some o ∧ o.cls = .type "StopIteration") → E (.ref e) { s with heap := h' }) :
    wpAny (model prog w) A (Builtin.«zip.__next__» ⟨[.ref (b + 5)], []⟩) Q E s := by
  obtain ⟨a1, a2, a3, a4, a5, a6, a7, _⟩ := st
  show wpAny _ _ (field (.ref (b + 5)) 2 >>= _) _ _ _
  (refine wpAny_bind (wpAny_field hz rfl (x := .bool false) rfl ?_))
  show wpAny _ _ (field (.ref (b + 5)) 3 >>= _) _ _ _
  refine wpAny_bind (wpAny_field hz rfl (x := .ref (b + 3)) rfl ?_)
  refine wpAny_bind (wpAny_seqItems a1 rfl ?_)
  show wpAny _ _ (Builtin.SmallTypes.ownedTupleIsFree (.ref (b + 5)) >>= _) _ _ _
  refine wpAny_bind (wpAny_tupleHeld_zip hz hT fun g1 z1 s1 => ?_)
  (rw [if_neg Bool.false_ne_true])
  refine wpAny_bind ?_
  rw [← Array.forIn_toList]
  (simp only [List.forIn_cons, List.forIn_nil])
  (refine wpAny_bind (wpAny_bind (wpAny_holding ?_)))
  show wpAny _ _ (Builtin.SmallTypes.nextOf (.ref b) >>= _) _ _ _
  refine wpAny_bind (wpAny_nextOf_list_end (s := { s with heap := g1 }) hh (a2.extBut s1.extBut (by (first | omega | exact nat_ne (by omega)))) (a5.extBut s1.extBut (by (first | omega | exact nat_ne (by omega)))) hx fun g2 e s2 he => ?_)
  exact hE g2 e (fun (c : Nat) o r q => s2 _ _ (by (first | omega | exact nat_ne (by omega))) (s1.extBut _ _ (by (first | omega | exact nat_ne (by omega))) q)) he
theorem z3_end {Q : Option Value → Shared → Prop} (hh : A.handled = none) (h1 : l1 < b) (h2 : l2 < b) (h3 : l3 < b) (st : Z3 b l1 l2 l3 xs ys zs i s.heap)
    (hx : xs.size = i) (hy : ys.size = i) (hw : zs.size = i)
    (hQ : ∀ h' tk, (∀ (c : Nat) (o : Obj), (c < b ∨ b + 6 ≤ c) → s.heap.get? c = some o → h'.get? c = some o) → Q none { s with heap := h', toks := tk }) : wpAny (model prog w) A (pyNext (.ref (b + 5))) Q E s := by
  have st' := st
  obtain ⟨a1, a2, a3, a4, a5, a6, a7, a8⟩ := st'
  rcases a8 with ⟨e1, c1, c2, c3, e2⟩ | ⟨T, f, oT, e1, e2, e3⟩
  · exact wpAny_pyNext_zipD3_end (i := i) (z3_sep h1 h2 h3) (Draws.list (prog := prog) (w := w) (A := A.in1) (show A.in1.handled = none from hh) b l1 (by (first | omega | exact nat_ne (by omega))) xs) (Draws.list (prog := prog) (w := w) (A := A.in1) (show A.in1.handled = none from hh) (b + 1) l2 (by (first | omega | exact nat_ne (by omega))) ys) (Draws.list (prog := prog) (w := w) (A := A.in1) (show A.in1.handled = none from hh) (b + 2) l3 (by (first | omega | exact nat_ne (by omega))) zs) e1 a1 e2 ⟨a2, a5⟩ ⟨a3, a6⟩ ⟨a4, a7⟩
      (by (first | omega | exact nat_ne (by omega))) (by (first | omega | exact nat_ne (by omega))) (by (first | omega | exact nat_ne (by omega))) (by (first | omega | exact nat_ne (by omega))) fun h' tk k => hQ h' tk fun (c : Nat) o r e => k c o (by (first | omega | exact nat_ne (by omega))) (by (first | omega | exact nat_ne (by omega))) (by (first | omega | exact nat_ne (by omega))) (by (first | omega | exact nat_ne (by omega))) (by (first | omega | exact nat_ne (by omega))) e
  · have ty : s.TypeIs (.ref (b + 5)) "zip" := ⟨_, e1, rfl⟩
    unfold pyNext
    refine wpAny_bind (wpAny_attempt (wpAny_callSpecial?_slot (name := Str.ofString "__next__") ty F.slot_zip_next
      (wpAny_call_entry F.slot_zip_next ty F.entry_zip_next (z3_heldEnd hh h1 st e1 e2 (Array.getElem?_eq_none (by (first | omega | exact nat_ne (by omega)))) fun h' e q1 q2 => ?_) (F.args_zip_next_1 _))))
    obtain ⟨o, ho, hc⟩ := q2
    (refine wpAny_bind (wpAny_isInstance (T := "StopIteration") (b := true) ⟨o, ho, hc⟩ isSubtype_stop ?_))
    exact wpAny_pure (hQ _ _ q1)
end
end K17

namespace K17
open L2 PySem PySem.Spec PyProof.Rows
/-- the tuples that came, at their cells -/
structure Z3G (xs ys zs : Array Value) (lo : Nat) (h : Heap) (as : List Nat) : Prop where
  rise : as.Pairwise (· < ·)
  above : ∀ a ∈ as, lo < a
  tups : ∀ (j : Nat) (a : Nat), as[j]? = some a → ∃ x y z, xs[j]? = some x ∧ ys[j]? = some y ∧ zs[j]? = some z ∧ IsTupOf3 h a x y z
section
variable {prog : Program} {w : World} {A : Around} {E : Value → Shared → Prop} {s : Shared} {R : Result → Shared → Prop} {b l1 l2 l3 : Nat} {xs ys zs : Array Value}
theorem arr_at {a : Array Value} {i n : Nat} (e : a.size = n) (q : i < n) : a[i]? = some (a[i]'(by omega)) := Array.getElem?_eq_getElem (by omega)
theorem z3_loop {n : Nat} (hh : A.handled = none) (h1 : l1 < b) (h2 : l2 < b) (h3 : l3 < b) (ex : xs.size = n) (ey : ys.size = n) (ez : zs.size = n) (hn : n ≤ sizeLine) (res : Value) {g : Heap}
    (hR : ∀ h' tk acc c as, (∀ (a : Nat) (o : Obj), a < b → g.get? a = some o → h'.get? a = some o) → h'.get? (b + 6) = some { cls := .type "list", dict := none, data := .seq acc c, slots := #[] } → as.length = n → Z3G xs ys zs (b + 6) h' as →
      (acc.toList = as.map Value.ref) → R (.ok (.ret res)) { s with heap := h', toks := tk }) :
    ∀ (k i : Nat) (h : Heap) (tk c : Nat) (acc : Array Value) (as : List Nat), n - i = k → i ≤ n → Z3 b l1 l2 l3 xs ys zs i h → (∀ (a : Nat) (o : Obj), a < b → g.get? a = some o → h.get? a = some o) →
      h.get? (b + 6) = some { cls := .type "list", dict := none, data := .seq acc c, slots := #[] } → acc.toList = as.map Value.ref → as.length = i → Z3G xs ys zs (b + 6) h as → b + 6 < h.objs.size →
      codeAny (model prog w) A (.builtin "list.extend.loop" ⟨[.ref (b + 6), .ref (b + 5), res], []⟩) R { s with heap := h, toks := tk } := by
  intro k
  induction k with
  | zero =>
    intro i h tk c acc as hk hi st kp at6 hacc hal G big
    (refine codeAny_builtin F.entry_extend_loop ?_)
    (rw [Around.under_plainId F.plain_extend_loop _])
    show wpAny _ A.in1 (pyNext (.ref (b + 5)) >>= _) _ _ _
    refine wpAny_bind (z3_end (s := { s with heap := h, toks := tk }) (A := A.in1) hh h1 h2 h3 st (by omega) (by omega) (by omega) fun h' tk' he => ?_)
    refine wpAny_pure (hR h' tk' acc c as (fun a o q e => he a o (.inl q) (kp a o q e)) (he _ _ (.inr (Nat.le_refl _)) at6) (by omega) ⟨G.rise, G.above, fun j a hj => ?_⟩ hacc)
    obtain ⟨x, y, z, e1, e2, e3, e4⟩ := G.tups j a hj
    have q := G.above a (List.mem_of_getElem? hj)
    exact ⟨x, y, z, e1, e2, e3, he a _ (.inr (by omega)) e4⟩
  | succ k ih =>
    intro i h tk c acc as hk hi st kp at6 hacc hal G big
    have lt : i < n := by omega
    have accsz : acc.size = i := by rw [← Array.length_toList, hacc, List.length_map, hal]
    (refine codeAny_builtin F.entry_extend_loop ?_)
    (rw [Around.under_plainId F.plain_extend_loop _])
    show wpAny _ A.in1 (pyNext (.ref (b + 5)) >>= _) _ _ _
    refine wpAny_bind (z3_item (s := { s with heap := h, toks := tk }) (A := A.in1) hh h1 h2 h3 st big (arr_at ex lt) (arr_at ey lt) (arr_at ez lt) fun h' tk' st' tt sz kk => ?_)
    dsimp only at tt sz kk ⊢
    have at6' := kk _ _ (.inr (Nat.le_refl _)) at6
    have up : ∀ (a : Nat) (o : Obj), a ≠ b + 6 → h'.get? a = some o → (h'.update (b + 6) (Obj.mapSeq (·.push (Value.ref h.objs.size)))).get? a = some o := fun a o hb e => (Heap.get?_update_other _ _ (Ne.symm hb)).trans e
    show wpAny _ A.in1 (updateSeq (b + 6) (·.push (Value.ref h.objs.size)) >>= _) _ _ _
    refine wpAny_bind ?_
    have nlt : (h.objs.size : Nat) ≠ b + 6 := by first | omega | exact nat_ne (by omega)
    refine wpAny_updateSeq at6' rfl (wpAny_pure ⟨plainId_quiet F.plain_extend_loop _, ih (i + 1) _ tk' _ (acc.push (Value.ref h.objs.size)) (as ++ [h.objs.size]) (by omega) lt (z3_keep st' up h1 h2 h3)
      (fun a o q e => up a o (by omega) (kk a o (.inl q) (kp a o q e))) (Heap.get?_update_self _ at6' rfl) (by rw [Array.toList_push, hacc, List.map_append]; rfl) (by rw [List.length_append, hal]; rfl) ⟨?_, ?_, ?_⟩ ?_⟩) (by rw [accsz]; omega) (by show (acc.push (Value.ref h.objs.size)).size ≤ sizeLine + 1; rw [Array.size_push, accsz]; omega)
    · refine List.pairwise_append.mpr ⟨G.rise, List.pairwise_singleton _ _, fun a ha d hd => ?_⟩
      rw [List.mem_singleton.mp hd]
      (obtain ⟨j, hj⟩ := List.mem_iff_getElem?.mp ha)
      obtain ⟨_, _, _, _, _, _, e⟩ := G.tups j a hj
      exact Heap.lt_size e
    · intro a ha
      (rcases List.mem_append.mp ha with ha | ha)
      · exact G.above a ha
      · (rw [List.mem_singleton.mp ha])
        exact big
    · intro j a hj
      rcases Nat.lt_trichotomy j as.length with q | q | q
      · rw [List.getElem?_append_left q] at hj
        obtain ⟨x, y, z, e1, e2, e3, e4⟩ := G.tups j a hj
        have ab := G.above a (List.mem_of_getElem? hj)
        exact ⟨x, y, z, e1, e2, e3, up a _ (by omega) (kk a _ (.inr (by omega)) e4)⟩
      · subst q
        have ha : h.objs.size = a := by simpa using hj
        subst ha
        rw [hal]
        exact ⟨_, _, _, arr_at ex lt, arr_at ey lt, arr_at ez lt, up _ _ nlt tt⟩
      · have hno : (as ++ [h.objs.size])[j]? = none := List.getElem?_eq_none (by rw [List.length_append, List.length_singleton]; omega)
        rw [hno] at hj
        cases hj
    · have e : (h'.update (b + 6) (Obj.mapSeq (·.push (Value.ref h.objs.size)))).get? h.objs.size = _ := up _ _ nlt tt
      exact Nat.lt_trans big (Heap.lt_size e)
theorem zip_no_len : typeLookup (.type "zip") "__len__" = pure none := am_miss_of_fast (by decide +kernel)
theorem zip_no_hint : typeLookup (.type "zip") "__length_hint__" = pure none := am_miss_of_fast (by decide +kernel)
theorem z3_hint {r : Nat} (hT : s.TypeIs (.ref r) "zip") {Q : Bool → Shared → Prop} (h : Q true s) : wpAny (model prog w) A (Builtin.List.listLengthHint (.ref r)) Q E s := by
  (unfold Builtin.List.listLengthHint)
  refine wpAny_bind (wpAny_specialOf hT zip_no_len ?_)
  dsimp only
  refine wpAny_ite_split (fun q => absurd q (by decide)) (fun _ => ?_)
  refine wpAny_ite_split (fun q => absurd q (by decide)) (fun _ => ?_)
  refine wpAny_bind (wpAny_specialOf hT zip_no_hint ?_)
  exact wpAny_pure h
theorem z3_extend {n : Nat} (hh : A.handled = none) (h1 : l1 < b) (h2 : l2 < b) (h3 : l3 < b) (ex : xs.size = n) (ey : ys.size = n) (ez : zs.size = n) (hn : n ≤ sizeLine) (res : Value) (c₀ : Nat)
    (hz : IsZip s.heap (b + 5) (b + 3) (b + 4) .none) (st : Z3 b l1 l2 l3 xs ys zs 0 s.heap) (at6 : s.heap.get? (b + 6) = some { cls := .type "list", data := .seq #[] c₀ })
    (hR : ∀ h' tk acc c as, (∀ (a : Nat) (o : Obj), a < b → s.heap.get? a = some o → h'.get? a = some o) → h'.get? (b + 6) = some { cls := .type "list", dict := none, data := .seq acc c, slots := #[] } → as.length = n → Z3G xs ys zs (b + 6) h' as →
      (acc.toList = as.map Value.ref) → R (.ok (.ret res)) { s with heap := h', toks := tk }) :
    wpAny (model prog w) A.in1 (Builtin.List.listExtendWith (.ref (b + 6)) (.ref (b + 5)) res)
      (fun fi s' => match fi with | .done f => R (.ok f) s' | .again c' => c'.quiet = true ∧ codeAny (model prog w) A c' R s') (fun e s' => R (.error e) s') s := by
  have go : ∀ (h : Heap) (c₁ tk : Nat), (∀ (a : Nat) (o : Obj), a ≠ b + 6 → s.heap.get? a = some o → h.get? a = some o) → h.get? (b + 6) = some { cls := .type "list", data := .seq #[] c₁ } →
      codeAny (model prog w) A (.builtin "list.extend.loop" ⟨[.ref (b + 6), .ref (b + 5), res], []⟩) R { s with heap := h, toks := tk } := by
    intro h c₁ tk kp at6'
    exact z3_loop (s := s) (g := s.heap) hh h1 h2 h3 ex ey ez hn res hR n 0 h tk c₁ #[] [] (Nat.sub_zero _) (Nat.zero_le _) (z3_keep st kp h1 h2 h3) (fun a o q e => kp a o (by omega) e) at6' rfl rfl
      ⟨List.Pairwise.nil, (fun _ ha => nomatch ha), (fun j a hj => by simp at hj)⟩ (Heap.lt_size at6')
  have ty : s.TypeIs (.ref (b + 5)) "zip" := ⟨_, hz, rfl⟩
  (unfold Builtin.List.listExtendWith)
  refine wpAny_bind (wpAny_typeOf (T := "zip") ty ?_)
  have q1 : Builtin.List.listSameRef (.ref (b + 6)) (.ref (b + 5)) = false := by simp [Builtin.List.listSameRef]
  have q2 : (Value.type "zip" == Value.type "list") = false := by decide
  have q3 : (Value.type "zip" == Value.type "tuple") = false := by decide
  simp only [q1, q2, q3, Bool.or_false, Bool.false_eq_true, if_false]
  refine wpAny_bind (wpAny_pyIter_zip hz ?_)
  refine wpAny_bind (wpAny_holding (z3_hint ty ?_))
  refine wpAny_ite_split (fun _ => ?_) (fun _ => wpAny_pure ⟨plainId_quiet F.plain_extend_loop _, go _ c₀ _ (fun a o _ e => e) at6⟩)
  (refine wpAny_bind (wpAny_rule ?_))
  refine wpAny_bind ?_
  show wpAny _ _ (updateSeq (b + 6) (·.push .none) >>= fun _ => updateSeq (b + 6) (·.pop)) _ _ _
  refine wpAny_bind (wpAny_updateSeq at6 rfl ?_)
  have at6b := Heap.get?_update_self (Obj.mapSeq (·.push Value.none)) at6 rfl
  refine wpAny_updateSeq (hz := by seq_fits) at6b rfl ?_
  have at6c := Heap.get?_update_self (Obj.mapSeq (·.pop)) at6b rfl
  refine wpAny_pure ⟨plainId_quiet F.plain_extend_loop _, go _ _ _ (fun a o hb e => ?_) at6c⟩
  (exact (Heap.get?_update_other _ _ (Ne.symm hb)).trans ((Heap.get?_update_other _ _ (Ne.symm hb)).trans e))
theorem z3_init {n : Nat} (hh : A.handled = none) (h1 : l1 < b) (h2 : l2 < b) (h3 : l3 < b) (ex : xs.size = n) (ey : ys.size = n) (ez : zs.size = n) (hn : n ≤ sizeLine)
    (hz : IsZip s.heap (b + 5) (b + 3) (b + 4) .none) (st : Z3 b l1 l2 l3 xs ys zs 0 s.heap) (at6 : s.heap.get? (b + 6) = some { cls := .type "list", data := .seq #[] })
    (hR : ∀ h' tk acc c as, (∀ (a : Nat) (o : Obj), a < b → s.heap.get? a = some o → h'.get? a = some o) → h'.get? (b + 6) = some { cls := .type "list", dict := none, data := .seq acc c, slots := #[] } → as.length = n → Z3G xs ys zs (b + 6) h' as →
      acc.toList = as.map Value.ref → R (.ok (.ret .none)) { s with heap := h', toks := tk }) :
    wpAny (model prog w) A.in1 (Builtin.«list.__init__» ⟨[.ref (b + 6), .ref (b + 5)], []⟩)
      (fun fi s' => match fi with | .done f => R (.ok f) s' | .again c' => c'.quiet = true ∧ codeAny (model prog w) A c' R s') (fun e s' => R (.error e) s') s := by
  show wpAny _ _ (do let old ← Builtin.List.listItems (.ref (b + 6)); Builtin.List.listUpdate (.ref (b + 6)) (fun _ => #[]); letGo old.toList.reverse; Builtin.List.listExtendWith (.ref (b + 6)) (.ref (b + 5)) .none) _ _ s
  refine wpAny_bind ?_
  unfold Builtin.List.listItems
  refine wpAny_bind (wpAny_seqItems at6 rfl (wpAny_pure ?_))
  show wpAny _ _ (updateSeq (b + 6) (fun _ => #[]) >>= fun _ => letGo (#[] : Array Value).toList.reverse >>= fun _ => Builtin.List.listExtendWith (.ref (b + 6)) (.ref (b + 5)) .none) _ _ s
  refine wpAny_bind (wpAny_updateSeq at6 rfl ?_)
  have at6b := Heap.get?_update_self (Obj.mapSeq (fun _ => (#[] : Array Value))) at6 rfl
  have oth : ∀ (a : Nat) (o : Obj), a ≠ b + 6 → s.heap.get? a = some o → (s.heap.update (b + 6) (Obj.mapSeq (fun _ => (#[] : Array Value)))).get? a = some o :=
    fun a o hb e => (Heap.get?_update_other _ _ (Ne.symm hb)).trans e
  (refine wpAny_bind (wpAny_letGo ?_))
  refine z3_extend hh h1 h2 h3 ex ey ez hn .none _ (oth _ _ (by omega) hz) (z3_keep st oth h1 h2 h3) at6b fun h' tk acc c as hk hS' hl hG hacc => ?_
  exact hR h' tk acc c as (fun a o q e => hk a o q (oth a o (by omega) e)) hS' hl hG hacc
theorem z3_call {n : Nat} {Q : Value → Shared → Prop} (hh : A.handled = none) (h1 : l1 < b) (h2 : l2 < b) (h3 : l3 < b) (ex : xs.size = n) (ey : ys.size = n) (ez : zs.size = n) (hn : n ≤ sizeLine)
    (hz : IsZip s.heap (b + 5) (b + 3) (b + 4) .none) (st : Z3 b l1 l2 l3 xs ys zs 0 s.heap) (sz : s.heap.objs.size = b + 6)
    (hQ : ∀ h' tk acc c as, (∀ (a : Nat) (o : Obj), a < b → s.heap.get? a = some o → h'.get? a = some o) → h'.get? (b + 6) = some { cls := .type "list", dict := none, data := .seq acc c, slots := #[] } → as.length = n → Z3G xs ys zs (b + 6) h' as →
      acc.toList = as.map Value.ref → Q (.ref (b + 6)) { s with heap := h', toks := tk }) :
    wpAny (model prog w) A (call (.type "list") [.ref (b + 5)]) Q E s := by
  refine callType_codes (Q₁ := fun obj s₁ => obj = .ref (b + 6) ∧ s₁ = { s with heap := s.heap.push { cls := .type "list", data := .seq #[] } }) F.called_list (F.typeCall_list_1 _) F.entry_list_init
    (by rw [← sz]; exact code_list_new _ ⟨rfl, rfl⟩) fun obj s₁ q => ?_
  obtain ⟨rfl, rfl⟩ := q
  have at6 : (s.heap.push { cls := .type "list", data := .seq #[] }).get? (b + 6) = some { cls := .type "list", data := .seq #[] } := by rw [← sz]; exact Heap.get?_push_size _ rfl
  refine ⟨⟨_, at6, rfl⟩, F.args_list_init_2 _ _, z3_init (A := A.in1) hh h1 h2 h3 ex ey ez hn (Heap.get?_push_of_some _ hz) (z3_keep st (fun a o _ e => Heap.get?_push_of_some _ e) h1 h2 h3) at6 fun h' tk acc c as hk hS' hl hG hacc => ?_⟩
  exact ⟨rfl, hQ h' tk acc c as (fun a o q e => hk a o q (Heap.get?_push_of_some _ e)) hS' hl hG hacc⟩
end
end K17

namespace K17
open L2 PySem PySem.Spec PyProof.Rows
/-! the rule for list(zip(a, b, c)) -/
def rows3 : List Addr → List V → List V → List V → List (Addr × List V)
  | a :: as, x :: xs, y :: ys, z :: zs => (a, [x, y, z]) :: rows3 as xs ys zs
  | _, _, _, _ => []
def layR : Hp → List (Addr × List V) → Hp
  | H, [] => H
  | H, p :: r => layR (upd H p.1 (.tup p.2)) r
theorem rows3_mem : ∀ {as : List Addr} {xs ys zs : List V} {p : Addr × List V}, p ∈ rows3 as xs ys zs → ∃ (j : Nat) (x y z : V), as[j]? = some p.1 ∧ xs[j]? = some x ∧ ys[j]? = some y ∧ zs[j]? = some z ∧ p.2 = [x, y, z]
  | a :: as, x :: xs, y :: ys, z :: zs, p, h => by
    (rcases List.mem_cons.mp h with e | h)
    · subst e
      exact ⟨0, x, y, z, rfl, rfl, rfl, rfl, rfl⟩
    · obtain ⟨j, x', y', z', e1, e2, e3, e4, e5⟩ := rows3_mem h
      exact ⟨j + 1, x', y', z', e1, e2, e3, e4, e5⟩
  | [], _, _, _, _, h => nomatch h
  | _ :: _, [], _, _, _, h => nomatch h
  | _ :: _, _ :: _, [], _, _, h => nomatch h
  | _ :: _, _ :: _, _ :: _, [], _, h => nomatch h
theorem rows3_at : ∀ {as : List Addr} {xs ys zs : List V} {j : Nat} {a : Addr} {x y z : V}, as[j]? = some a → xs[j]? = some x → ys[j]? = some y → zs[j]? = some z → (a, [x, y, z]) ∈ rows3 as xs ys zs
  | a :: as, x :: xs, y :: ys, z :: zs, 0, _, _, _, _, h1, h2, h3, h4 => by
    cases h1
    cases h2
    cases h3
    cases h4
    exact List.mem_cons_self
  | a :: as, x :: xs, y :: ys, z :: zs, j + 1, _, _, _, _, h1, h2, h3, h4 => List.mem_cons_of_mem _ (rows3_at (j := j) h1 h2 h3 h4)
  | [], _, _, _, _, _, _, _, _, h, _, _, _ => nomatch h
  | _ :: _, [], _, _, _, _, _, _, _, _, h, _, _ => nomatch h
  | _ :: _, _ :: _, [], _, _, _, _, _, _, _, _, h, _ => nomatch h
  | _ :: _, _ :: _, _ :: _, [], _, _, _, _, _, _, _, _, h => nomatch h
theorem layR_off {b : Addr} : ∀ (r : List (Addr × List V)) (H : Hp), (∀ p ∈ r, p.1 ≠ b) → layR H r b = H b
  | [], _, _ => rfl
  | p :: r, H, h => by
    show layR (upd H p.1 (.tup p.2)) r b = H b
    rw [layR_off r _ fun q hq => h q (List.mem_cons_of_mem _ hq), upd_ne fun e => h p List.mem_cons_self e.symm]
theorem rows3_first {as : List Addr} {xs ys zs : List V} {p : Addr × List V} (h : p ∈ rows3 as xs ys zs) : p.1 ∈ as := by
  obtain ⟨j, _, _, _, e, _⟩ := rows3_mem h
  exact List.mem_of_getElem? e
theorem layR_at : ∀ {as : List Addr} {xs ys zs : List V} (H : Hp), as.Nodup → ∀ p ∈ rows3 as xs ys zs, layR H (rows3 as xs ys zs) p.1 = some (.tup p.2)
  | a :: as, x :: xs, y :: ys, z :: zs, H, nd, p, h => by
    (obtain ⟨n1, n2⟩ := List.nodup_cons.mp nd)
    show layR (upd H a (.tup [x, y, z])) (rows3 as xs ys zs) p.1 = _
    (rcases List.mem_cons.mp h with e | h)
    · subst e
      show layR (upd H a (.tup [x, y, z])) (rows3 as xs ys zs) a = _
      rw [layR_off _ _ fun q hq e => n1 (by rw [← e]; exact rows3_first hq), upd_same]
    · exact layR_at _ n2 p h
  | [], _, _, _, _, _, _, h => nomatch h
  | _ :: _, [], _, _, _, _, _, h => nomatch h
  | _ :: _, _ :: _, [], _, _, _, _, h => nomatch h
  | _ :: _, _ :: _, _ :: _, [], _, _, _, h => nomatch h
theorem refs_vals : ∀ as : List Nat, Vals (as.map V.ref) (as.map Value.ref)
  | [] => .nil
  | _ :: as => .cons rfl (refs_vals as)
/-- the tuples of three lists, one for each turn -/
def Tri (H : Hp) (ts : List Addr) (xs ys zs : List V) : Prop := ts.length = xs.length ∧ ∀ (j : Nat) (t : Addr), ts[j]? = some t → ∃ x y z, xs[j]? = some x ∧ ys[j]? = some y ∧ zs[j]? = some z ∧ H t = some (.tup [x, y, z])
def tListZip3 (ta : TA) : TE := fun σ H Q => ta σ H fun vs H1 => ∃ (a b c : Addr) (xs ys zs : List V), vs = [.ref a, .ref b, .ref c] ∧ H1 a = some (.lst xs) ∧ H1 b = some (.lst ys) ∧ H1 c = some (.lst zs) ∧ xs.length = ys.length ∧ xs.length = zs.length ∧
  ∀ (H' : Hp) (p : Addr) (ts : List Addr), Same H1 H' → H1 p = none → (∀ t ∈ ts, H1 t = none) → p ∉ ts → H' p = some (.lst (ts.map V.ref)) → Tri H' ts xs ys zs → Q (.ref p) H'
section
variable {X : Cx} {e1 e2 e3 : Expr} {ta : TA} {p p' cpos pos : Pos}
theorem z3_laid {pins : List (Addr × Obj)} {σ : L2.St} {H : Hp} {s : Shared} {h' : Heap} {tk : Nat} {xs ys zs : List V} {us vs ws : List Value} {acc : Array Value} {c : Nat} {as : List Nat} (I : Inv X pins σ H s) (hz : xs.length ≤ sizeLine) (rx : Vals xs us) (ry : Vals ys vs) (rz : Vals zs ws)
    (hk : ∀ (a : Nat) (o : Obj), a < s.heap.objs.size → s.heap.get? a = some o → h'.get? a = some o) (hS : h'.get? (s.heap.objs.size + 6) = some { cls := .type "list", dict := none, data := .seq acc c, slots := #[] }) (hl : as.length = xs.length) (G : Z3G us.toArray vs.toArray ws.toArray (s.heap.objs.size + 6) h' as) (hacc : acc.toList = as.map Value.ref) :
    ∃ H' : Hp, Same H H' ∧ H (s.heap.objs.size + 6) = none ∧ (∀ t ∈ as, H t = none) ∧ (s.heap.objs.size + 6) ∉ as ∧ H' (s.heap.objs.size + 6) = some (.lst (as.map V.ref)) ∧ Tri H' as xs ys zs ∧ Inv X pins σ H' { s with heap := h', toks := tk } := by
  have big : ∀ t ∈ as, s.heap.objs.size + 6 < t := G.above
  have nin : (s.heap.objs.size + 6) ∉ as := fun z => Nat.lt_irrefl _ (big _ z)
  have nd : as.Nodup := List.Pairwise.imp (fun {a b} (h : a < b) => Nat.ne_of_lt h) G.rise
  have new : ∀ t ∈ as, H t = none := fun t ht => I.hok.fresh (by have := big t ht; show s.heap.objs.size ≤ t; omega)
  have newS : H (s.heap.objs.size + 6) = none := I.hok.fresh (Nat.le_add_right _ _)
  have off : ∀ b, b ∉ as → b ≠ s.heap.objs.size + 6 → layR (upd H (s.heap.objs.size + 6) (.lst (as.map V.ref))) (rows3 as xs ys zs) b = H b := fun b n1 n2 => by
    rw [layR_off _ _ fun q hq e => n1 (by rw [← e]; exact rows3_first hq), upd_ne n2]
  have kp : Same H (layR (upd H (s.heap.objs.size + 6) (.lst (as.map V.ref))) (rows3 as xs ys zs)) := fun b u e => by
    (rw [off b (fun z => by rw [new b z] at e; cases e) (fun z => by rw [z, newS] at e; cases e)])
    exact e
  have low : ∀ b o, s.heap.get? b = some o → h'.get? b = some o := fun b o e => hk b o (Heap.lt_size e) e
  have eS : layR (upd H (s.heap.objs.size + 6) (.lst (as.map V.ref))) (rows3 as xs ys zs) (s.heap.objs.size + 6) = some (.lst (as.map V.ref)) := by
    rw [layR_off _ _ fun q hq e => nin (by rw [← e]; exact rows3_first hq), upd_same]
  have row : ∀ (j : Nat) (t : Addr), as[j]? = some t → ∃ x y z u v w, xs[j]? = some x ∧ ys[j]? = some y ∧ zs[j]? = some z ∧ RelV x u ∧ RelV y v ∧ RelV z w ∧ IsTupOf3 h' t u v w := fun j t ht => by
    obtain ⟨u, v, w, f1, f2, f3, f4⟩ := G.tups j t ht
    have back : ∀ {qs : List V} {rs : List Value} {r : Value}, Vals qs rs → rs.toArray[j]? = some r → ∃ q, qs[j]? = some q ∧ RelV q r := fun {qs rs r} R e => by
      have e' : rs[j]? = some r := by simpa using e
      have lt : j < qs.length := by
        rw [R.length]
        rcases Nat.lt_or_ge j rs.length with q | q
        · exact q
        · rw [List.getElem?_eq_none q] at e'
          cases e'
      obtain ⟨r', a1, a2⟩ := R.get (List.getElem?_eq_getElem lt)
      rw [e'] at a1
      cases a1
      exact ⟨_, List.getElem?_eq_getElem lt, a2⟩
    obtain ⟨x, a1, b1⟩ := back rx f1
    obtain ⟨y, a2, b2⟩ := back ry f2
    obtain ⟨z, a3, b3⟩ := back rz f3
    exact ⟨x, y, z, u, v, w, a1, a2, a3, b1, b2, b3, f4⟩
  refine ⟨layR (upd H (s.heap.objs.size + 6) (.lst (as.map V.ref))) (rows3 as xs ys zs), kp, newS, new, nin, eS, ⟨hl, fun j t ht => ?_⟩, ?_⟩
  · obtain ⟨x, y, z, _, _, _, a1, a2, a3, _⟩ := row j t ht
    exact ⟨x, y, z, a1, a2, a3, layR_at _ nd _ (rows3_at ht a1 a2 a3)⟩
  · refine I.call' (ch := []) rfl ⟨fun b o q _ _ _ => low b o q, fun b o q _ _ _ => ⟨o.slots, low b o q⟩, fun b o q n _ => ?_, fun b o q _ => ⟨o, low b o q⟩, fun b xs q => kp b _ q, fun b o u q => kp b _ q, fun b ps q => ⟨#[], by rw [kp b _ q]; simp⟩⟩ (fun b u q => ?_) I.bare fun b z => by simp at z
    · rw [off b (fun z => Nat.lt_irrefl _ (Nat.lt_trans (Nat.lt_of_lt_of_le (Heap.lt_size q) (Nat.le_add_right _ 6)) (big b z))) (Nat.ne_of_lt (Nat.lt_of_lt_of_le (Heap.lt_size q) (Nat.le_add_right _ 6)))]
      exact n
    · by_cases hb : b ∈ as
      · obtain ⟨j, hj⟩ := List.mem_iff_getElem?.mp hb
        obtain ⟨x, y, z, u1, v1, w1, a1, a2, a3, b1, b2, b3, f4⟩ := row j b hj
        rw [layR_at _ nd _ (rows3_at hj a1 a2 a3)] at q
        cases q
        exact ⟨by show 3 ≤ sizeLine; decide, [u1, v1, w1], .cons b1 (.cons b2 (.cons b3 .nil)), ⟨_, f4, rfl, _, rfl⟩⟩
      · by_cases hb2 : b = s.heap.objs.size + 6
        · rw [hb2] at q ⊢
          rw [eS] at q
          cases q
          refine ⟨by rw [List.length_map]; omega, acc.toList, c, by rw [hacc]; exact refs_vals as, ?_⟩
          rw [Array.toArray_toList]
          exact hS
        · rw [off b hb hb2] at q
          exact (I.hok b u q).stay (fun d v _ y => low d v y) (fun d y => kp d _ y) fun d xs y => kp d _ y
theorem pe_listZip3 (hc : X.calm = true) (ha : PA X [e1, e2, e3] ta) (gL : Gl X "list") (mL : X.mg "list" = none) (gZ : Gl X "zip") (mZ : X.mg "zip" = none) (bL : bootBuiltins "list" = some (.type "list"))
    (hs : starEach [.Call (.Name "zip" p') [e1, e2, e3] [] cpos] X.env = (false, eval (.Call (.Name "zip" p') [e1, e2, e3] [] cpos) X.env) :: starEach [] X.env := by rfl)
    (hs' : starEach [e1, e2, e3] X.env = (false, eval e1 X.env) :: starEach [e2, e3] X.env := by rfl) (hpl : (backTo cpos (starEach [e2, e3] X.env)).any (·.1) = false := by rfl) :
    PE X (.Call (.Name "list" p) [.Call (.Name "zip" p') [e1, e2, e3] [] cpos] [] pos) (tListZip3 ta) := by
  (refine ⟨fun pins s σ H Q I hq => ?_⟩)
  refine wpAny_Call_Name_kw (ld_blt I gL mL bL ?_)
  (refine PyProof.Rows.callWith_type1 ?_ hs rfl)
  rw [hs]
  show wpAny _ _ (spliced ((false, eval (.Call (.Name "zip" p') [e1, e2, e3] [] cpos) X.env) :: backTo pos (starEach [] X.env))) _ _ s
  refine Calls.spliced_cons ?_
  refine Call_ (ld_blt I gZ mZ PyProof.Rows.boot_zip (PyProof.Rows.callWith_type1 (thn (ha.run cpos pins s σ H _ I hq) fun rs s1 ⟨vs0, H1, I1, r1, q1⟩ => ?_) hs' hpl))
  obtain ⟨a, b, c, xs, ys, zs, ex, h1, h2, h3, ly, lz, q⟩ := q1
  subst ex
  cases r1 with
  | cons ra r2 =>
  cases r2 with
  | cons rb r3 =>
  cases r3 with
  | cons rc r4 =>
  cases r4
  cases ra
  cases rb
  cases rc
  obtain ⟨us, rx, p1, _⟩ := I1.list (.inl (.inl h1))
  obtain ⟨vs, ry, p2, _⟩ := I1.list (.inl (.inl h2))
  obtain ⟨ws, rz, p3, _⟩ := I1.list (.inl (.inl h3))
  have bnd : xs.length ≤ sizeLine := (I1.hok a _ h1).1
  have lx := rx.length
  have ly' := ry.length
  have lz' := rz.length
  refine zip_begins3 (begins_list a us.toArray) (begins_list b vs.toArray) (begins_list c ws.toArray) p1.isList p2.isList p3.isList fun g gz gT gO g1 g2 g3 gs gk => ?_
  refine Calls.spliced_nil ?_
  have n1 : (a : Nat) < s1.heap.objs.size := p1.lt
  have n2 : (b : Nat) < s1.heap.objs.size := p2.lt
  have n3 : (c : Nat) < s1.heap.objs.size := p3.lt
  have st : Z3 s1.heap.objs.size a b c us.toArray vs.toArray ws.toArray 0 g := ⟨gT, ⟨_, g1, rfl, rfl⟩, ⟨_, g2, rfl, rfl⟩, ⟨_, g3, rfl, rfl⟩, p1.isList.at fun o => gk a o, p2.isList.at fun o => gk b o, p3.isList.at fun o => gk c o, .inl ⟨gz, _, _, _, gO⟩⟩
  refine z3_call (n := xs.length) (s := { s1 with heap := g }) (I1.ok.hd hc) n1 n2 n3 (by simp; omega) (by simp; omega) (by simp; omega) bnd gz st gs fun h' tk acc cc as hk hS hl hG hacc => ?_
  obtain ⟨H', k1, k2, k3, k4, k5, k6, J⟩ := z3_laid (tk := tk) I1 bnd rx ry rz (fun d o lt e => hk d o lt (gk d o e)) hS hl hG hacc
  (exact ⟨.ref _, H', J, rfl, q H' _ as k1 k2 k3 k4 k5 k6⟩)
end
end K17

namespace K17
open L2 PySem PySem.Spec PyProof.Rows
/-! list(zip(a, t)) of a list and a tuple of one length -/
/-- a drawn list and a drawn tuple from cell b on: iterators b, b+1, the zip's tuples b+2, b+3, the zip b+4 -/
def Z2 (b l1 l2 : Nat) (xs ys : Array Value) (i : Nat) (h : Heap) : Prop :=
  IsTupOf2 h (b + 2) (.ref b) (.ref (b + 1)) ∧ h.IsListIter b l1 i ∧ h.IsTupleIter (b + 1) l2 i ∧ h.IsList l1 xs ∧ h.IsTuple l2 ys ∧
  ((IsZip h (b + 4) (b + 2) (b + 3) .none ∧ ∃ a1 a2, IsTupOf2 h (b + 3) a1 a2) ∨ ∃ (T : Nat) (f : Bool) (oT : Obj), IsZipHeld h (b + 4) (b + 2) (b + 3) T f ∧ h.get? T = some oT ∧ b + 5 < T)
section
variable {prog : Program} {w : World} {A : Around} {E : Value → Shared → Prop} {s : Shared} {b l1 l2 : Nat} {xs ys : Array Value} {i : Nat}
theorem z2_keep {h h' : Heap} (x : Z2 b l1 l2 xs ys i h) (k : ∀ (c : Nat) (o : Obj), c ≠ b + 5 → h.get? c = some o → h'.get? c = some o) (h1 : l1 < b) (h2 : l2 < b) : Z2 b l1 l2 xs ys i h' := by
  obtain ⟨a1, a2, a3, a5, a6, a8⟩ := x
  refine ⟨k _ _ (by (first | omega | exact nat_ne (by omega))) a1, a2.at fun o => k _ o (by (first | omega | exact nat_ne (by omega))), a3.at fun o => k _ o (by (first | omega | exact nat_ne (by omega))), a5.at fun o => k _ o (by (first | omega | exact nat_ne (by omega))), a6.at fun o => k _ o (by (first | omega | exact nat_ne (by omega))), ?_⟩
  rcases a8 with ⟨e1, c1, c2, e2⟩ | ⟨T, f, oT, e1, e2, e3⟩
  · exact .inl ⟨k _ _ (by (first | omega | exact nat_ne (by omega))) e1, c1, c2, k _ _ (by (first | omega | exact nat_ne (by omega))) e2⟩
  · exact .inr ⟨T, f, oT, k _ _ (by (first | omega | exact nat_ne (by omega))) e1, k _ _ (by (first | omega | exact nat_ne (by omega))) e2, e3⟩
theorem z2_sep (h1 : l1 < b) (h2 : l2 < b) : ZipSep2 (b + 4) (b + 2) (b + 3) b (b + 1) [b, l1] [b + 1, l2] := by
  constructor <;> first | omega | exact nat_ne (by omega) | exact List.mem_cons_self | exact nm2 (by (first | omega | exact nat_ne (by omega))) (by (first | omega | exact nat_ne (by omega)))
theorem z2_heldItem {T : Nat} {f : Bool} {oT : Obj} {x y : Value} {Q : Value → Shared → Prop} (h1 : l1 < b) (h2 : l2 < b) (st : Z2 b l1 l2 xs ys i s.heap) (hz : IsZipHeld s.heap (b + 4) (b + 2) (b + 3) T f) (hT : s.heap.get? T = some oT) (bT : b + 5 < T)
    (hx : xs[i]? = some x) (hy : ys[i]? = some y)
    (hQ : ∀ h', Z2 b l1 l2 xs ys (i + 1) h' → IsTupOf2 h' s.heap.objs.size x y → h'.objs.size = s.heap.objs.size + 1 → (∀ (c : Nat) (o : Obj), (c < b ∨ b + 5 ≤ c) → s.heap.get? c = some o → h'.get? c = some o) → Q (.ref s.heap.objs.size) { s with heap := h' }) :
    wpAny (model prog w) A (Builtin.«zip.__next__» ⟨[.ref (b + 4)], []⟩) (fun fin s' => ∃ v, fin = .done (.ret v) ∧ Q v s') E s := by
  obtain ⟨a1, a2, a3, a5, a6, _⟩ := st
  show wpAny _ _ (field (.ref (b + 4)) 2 >>= _) _ _ _
  (refine wpAny_bind (wpAny_field hz rfl (x := .bool false) rfl ?_))
  show wpAny _ _ (field (.ref (b + 4)) 3 >>= _) _ _ _
  refine wpAny_bind (wpAny_field hz rfl (x := .ref (b + 2)) rfl ?_)
  refine wpAny_bind (wpAny_seqItems a1 rfl ?_)
  show wpAny _ _ (Builtin.SmallTypes.ownedTupleIsFree (.ref (b + 4)) >>= _) _ _ _
  refine wpAny_bind (wpAny_tupleHeld_zip hz hT fun g1 z1 s1 => ?_)
  (rw [if_neg Bool.false_ne_true])
  refine wpAny_bind ?_
  rw [← Array.forIn_toList]
  (simp only [List.forIn_cons, List.forIn_nil])
  (refine wpAny_bind (wpAny_bind (wpAny_holding ?_)))
  show wpAny _ _ (Builtin.SmallTypes.nextOf (.ref b) >>= _) _ _ _
  have n5 : ∀ (c : Nat), c < b + 2 → c ≠ b + 4 := fun (c : Nat) q => by (first | omega | exact nat_ne (by omega))
  refine wpAny_bind (wpAny_nextOf_list_item (s := { s with heap := g1 }) (a2.extBut s1.extBut (n5 _ (by (first | omega | exact nat_ne (by omega))))) (a5.extBut s1.extBut (n5 _ (by (first | omega | exact nat_ne (by omega))))) hx fun g2 u2 s2 => wpAny_pure (wpAny_pure ?_))
  (refine wpAny_bind (wpAny_bind (wpAny_holding ?_)))
  show wpAny _ _ (Builtin.SmallTypes.nextOf (.ref (b + 1)) >>= _) _ _ _
  refine wpAny_bind (wpAny_nextOf_tuple_item (s := { s with heap := g2 }) ((a3.extBut s1.extBut (n5 _ (by (first | omega | exact nat_ne (by omega))))).extBut s2.extBut (by (first | omega | exact nat_ne (by omega)))) ((a6.extBut s1.extBut (n5 _ (by (first | omega | exact nat_ne (by omega))))).extBut s2.extBut (by (first | omega | exact nat_ne (by omega)))) hy fun g4 u4 s4 => wpAny_pure ?_)
  (refine wpAny_pure (wpAny_pure ?_))
  show wpAny _ _ (newTuple [x, y] >>= _) _ _ _
  (refine wpAny_bind (wpAny_newTuple ?_))
  have all : ∀ (c : Nat) (o : Obj), c ≠ b + 4 → c ≠ b → c ≠ b + 1 → s.heap.get? c = some o → (g4.push { cls := .type "tuple", data := .seq #[x, y] }).get? c = some o := fun (c : Nat) o n1 n2 n3 e =>
    Heap.get?_push_of_some _ (s4.extBut _ _ n3 (s2.extBut _ _ n2 (s1.extBut _ _ n1 e)))
  have size4 : g4.objs.size = s.heap.objs.size := by rw [s4.1, s2.1, s1.1]
  have at4 : (g4.push { cls := .type "tuple", data := .seq #[x, y] }).get? g4.objs.size = some { cls := .type "tuple", data := .seq #[x, y] } := Heap.get?_push_size _ rfl
  have size5 : (g4.push { cls := .type "tuple", data := .seq #[x, y] }).objs.size = g4.objs.size + 1 := Heap.size_push ..
  have z4 : IsZipHeld g4 (b + 4) (b + 2) (b + 3) T true := s4.extBut _ _ (by (first | omega | exact nat_ne (by omega))) (s2.extBut _ _ (by (first | omega | exact nat_ne (by omega))) z1)
  have i1 := u2.extBut s4.extBut (by (first | omega | exact nat_ne (by omega)))
  (refine wpAny_pure ⟨_, rfl, ?_⟩)
  show Q (.ref g4.objs.size) _
  rw [size4] at at4 size5 ⊢
  refine hQ _ ⟨all _ _ (by (first | omega | exact nat_ne (by omega))) (by (first | omega | exact nat_ne (by omega))) (by (first | omega | exact nat_ne (by omega))) a1, i1.at fun o => Heap.get?_push_of_some _, u4.at fun o => Heap.get?_push_of_some _,
    a5.at fun o => all _ o (by (first | omega | exact nat_ne (by omega))) (by (first | omega | exact nat_ne (by omega))) (by (first | omega | exact nat_ne (by omega))), a6.at fun o => all _ o (by (first | omega | exact nat_ne (by omega))) (by (first | omega | exact nat_ne (by omega))) (by (first | omega | exact nat_ne (by omega))),
    .inr ⟨T, true, oT, Heap.get?_push_of_some _ z4, all _ _ (by (first | omega | exact nat_ne (by omega))) (by (first | omega | exact nat_ne (by omega))) (by (first | omega | exact nat_ne (by omega))) hT, bT⟩⟩ at4 size5 fun (c : Nat) o r e => all c o (by (first | omega | exact nat_ne (by omega))) (by (first | omega | exact nat_ne (by omega))) (by (first | omega | exact nat_ne (by omega))) e
theorem z2_item {x y : Value} {Q : Option Value → Shared → Prop} (hh : A.handled = none) (h1 : l1 < b) (h2 : l2 < b) (st : Z2 b l1 l2 xs ys i s.heap) (big : b + 5 < s.heap.objs.size)
    (hx : xs[i]? = some x) (hy : ys[i]? = some y)
    (hQ : ∀ h' tk, Z2 b l1 l2 xs ys (i + 1) h' → IsTupOf2 h' s.heap.objs.size x y → h'.objs.size = s.heap.objs.size + 1 → (∀ (c : Nat) (o : Obj), (c < b ∨ b + 5 ≤ c) → s.heap.get? c = some o → h'.get? c = some o) → Q (some (.ref s.heap.objs.size)) { s with heap := h', toks := tk }) :
    wpAny (model prog w) A (pyNext (.ref (b + 4))) Q E s := by
  have st' := st
  obtain ⟨a1, a2, a3, a5, a6, a8⟩ := st'
  rcases a8 with ⟨e1, c1, c2, e2⟩ | ⟨T, f, oT, e1, e2, e3⟩
  · refine wpAny_pyNext_zipD2_item (z2_sep h1 h2) (Draws.list (prog := prog) (w := w) (A := A.in1) (show A.in1.handled = none from hh) b l1 (by (first | omega | exact nat_ne (by omega))) xs) (Draws.tuple (prog := prog) (w := w) (A := A.in1) (show A.in1.handled = none from hh) (b + 1) l2 (by (first | omega | exact nat_ne (by omega))) ys) e1 a1 e2 ⟨a2, a5⟩ ⟨a3, a6⟩
      (by rcases Nat.lt_or_ge i xs.size with q | q; exact q; rw [Array.getElem?_eq_none q] at hx; cases hx) (by rcases Nat.lt_or_ge i ys.size with q | q; exact q; rw [Array.getElem?_eq_none q] at hy; cases hy)
      fun x1 x2 h' tk p1 p2 q1 q2 q3 q4 q6 q7 k => ?_
    rw [hx] at p1
    rw [hy] at p2
    cases p1
    cases p2
    exact hQ h' tk ⟨k _ _ (by (first | omega | exact nat_ne (by omega))) (by (first | omega | exact nat_ne (by omega))) (by (first | omega | exact nat_ne (by omega))) (by (first | omega | exact nat_ne (by omega))) a1, q3.1, q4.1, q3.2, q4.2, .inr ⟨_, false, _, q1, q6, big⟩⟩ q6 q7 fun (c : Nat) o r e => k c o (by (first | omega | exact nat_ne (by omega))) (by (first | omega | exact nat_ne (by omega))) (by (first | omega | exact nat_ne (by omega))) (by (first | omega | exact nat_ne (by omega))) e
  · have ty : s.TypeIs (.ref (b + 4)) "zip" := ⟨_, e1, rfl⟩
    unfold pyNext
    exact wpAny_bind (wpAny_attempt (wpAny_callSpecial?_slot (name := Str.ofString "__next__") ty F.slot_zip_next
      (wpAny_call_entry F.slot_zip_next ty F.entry_zip_next (z2_heldItem h1 h2 st e1 e2 e3 hx hy fun h' q1 q2 q3 q4 => wpAny_pure (hQ h' s.toks q1 q2 q3 q4)) (F.args_zip_next_1 _))))
theorem z2_heldEnd {T : Nat} {f : Bool} {oT : Obj} {Q : Fin → Shared → Prop} (hh : A.handled = none) (h1 : l1 < b) (st : Z2 b l1 l2 xs ys i s.heap) (hz : IsZipHeld s.heap (b + 4) (b + 2) (b + 3) T f) (hT : s.heap.get? T = some oT)
    (hx : xs[i]? = none) (hE : ∀ h' e, (∀ (c : Nat) (o : Obj), (c < b ∨ b + 5 ≤ c) → s.heap.get? c = some o → h'.get? c = some o) → (∃ o, h'.get? e = some o ∧ o.cls = .type "StopIteration") → E (.ref e) { s with heap := h' }) :
    wpAny (model prog w) A (Builtin.«zip.__next__» ⟨[.ref (b + 4)], []⟩) Q E s := by
  obtain ⟨a1, a2, a3, a5, a6, _⟩ := st
  show wpAny _ _ (field (.ref (b + 4)) 2 >>= _) _ _ _
  (refine wpAny_bind (wpAny_field hz rfl (x := .bool false) rfl ?_))
  show wpAny _ _ (field (.ref (b + 4)) 3 >>= _) _ _ _
  refine wpAny_bind (wpAny_field hz rfl (x := .ref (b + 2)) rfl ?_)
  refine wpAny_bind (wpAny_seqItems a1 rfl ?_)
  show wpAny _ _ (Builtin.SmallTypes.ownedTupleIsFree (.ref (b + 4)) >>= _) _ _ _
  refine wpAny_bind (wpAny_tupleHeld_zip hz hT fun g1 z1 s1 => ?_)
  (rw [if_neg Bool.false_ne_true])
  refine wpAny_bind ?_
  rw [← Array.forIn_toList]
  (simp only [List.forIn_cons, List.forIn_nil])
  (refine wpAny_bind (wpAny_bind (wpAny_holding ?_)))
  show wpAny _ _ (Builtin.SmallTypes.nextOf (.ref b) >>= _) _ _ _
  refine wpAny_bind (wpAny_nextOf_list_end (s := { s with heap := g1 }) hh (a2.extBut s1.extBut (by (first | omega | exact nat_ne (by omega)))) (a5.extBut s1.extBut (by (first | omega | exact nat_ne (by omega)))) hx fun g2 e s2 he => ?_)
  exact hE g2 e (fun (c : Nat) o r q => s2 _ _ (by (first | omega | exact nat_ne (by omega))) (s1.extBut _ _ (by (first | omega | exact nat_ne (by omega))) q)) he
theorem z2_end {Q : Option Value → Shared → Prop} (hh : A.handled = none) (h1 : l1 < b) (h2 : l2 < b) (st : Z2 b l1 l2 xs ys i s.heap)
    (hx : xs.size = i) (hy : ys.size = i)
    (hQ : ∀ h' tk, (∀ (c : Nat) (o : Obj), (c < b ∨ b + 5 ≤ c) → s.heap.get? c = some o → h'.get? c = some o) → Q none { s with heap := h', toks := tk }) : wpAny (model prog w) A (pyNext (.ref (b + 4))) Q E s := by
  have st' := st
  obtain ⟨a1, a2, a3, a5, a6, a8⟩ := st'
  rcases a8 with ⟨e1, c1, c2, e2⟩ | ⟨T, f, oT, e1, e2, e3⟩
  · exact wpAny_pyNext_zipD2_end (i := i) (z2_sep h1 h2) (Draws.list (prog := prog) (w := w) (A := A.in1) (show A.in1.handled = none from hh) b l1 (by (first | omega | exact nat_ne (by omega))) xs) (Draws.tuple (prog := prog) (w := w) (A := A.in1) (show A.in1.handled = none from hh) (b + 1) l2 (by (first | omega | exact nat_ne (by omega))) ys) e1 a1 e2 ⟨a2, a5⟩ ⟨a3, a6⟩
      (by (first | omega | exact nat_ne (by omega))) (by (first | omega | exact nat_ne (by omega))) (by (first | omega | exact nat_ne (by omega))) fun h' tk k => hQ h' tk fun (c : Nat) o r e => k c o (by (first | omega | exact nat_ne (by omega))) (by (first | omega | exact nat_ne (by omega))) (by (first | omega | exact nat_ne (by omega))) (by (first | omega | exact nat_ne (by omega))) e
  · have ty : s.TypeIs (.ref (b + 4)) "zip" := ⟨_, e1, rfl⟩
    unfold pyNext
    refine wpAny_bind (wpAny_attempt (wpAny_callSpecial?_slot (name := Str.ofString "__next__") ty F.slot_zip_next
      (wpAny_call_entry F.slot_zip_next ty F.entry_zip_next (z2_heldEnd hh h1 st e1 e2 (Array.getElem?_eq_none (by (first | omega | exact nat_ne (by omega)))) fun h' e q1 q2 => ?_) (F.args_zip_next_1 _))))
    obtain ⟨o, ho, hc⟩ := q2
    (refine wpAny_bind (wpAny_isInstance (T := "StopIteration") (b := true) ⟨o, ho, hc⟩ isSubtype_stop ?_))
    exact wpAny_pure (hQ _ _ q1)
end
end K17

namespace K17
open L2 PySem PySem.Spec PyProof.Rows
/-- the tuples that came, at their cells -/
structure Z2G (xs ys : Array Value) (lo : Nat) (h : Heap) (as : List Nat) : Prop where
  rise : as.Pairwise (· < ·)
  above : ∀ a ∈ as, lo < a
  tups : ∀ (j : Nat) (a : Nat), as[j]? = some a → ∃ x y, xs[j]? = some x ∧ ys[j]? = some y ∧ IsTupOf2 h a x y
section
variable {prog : Program} {w : World} {A : Around} {E : Value → Shared → Prop} {s : Shared} {R : Result → Shared → Prop} {b l1 l2 : Nat} {xs ys : Array Value}
theorem z2_loop {n : Nat} (hh : A.handled = none) (h1 : l1 < b) (h2 : l2 < b) (ex : xs.size = n) (ey : ys.size = n) (hn : n ≤ sizeLine) (res : Value) {g : Heap}
    (hR : ∀ h' tk acc c as, (∀ (a : Nat) (o : Obj), a < b → g.get? a = some o → h'.get? a = some o) → h'.get? (b + 5) = some { cls := .type "list", dict := none, data := .seq acc c, slots := #[] } → as.length = n → Z2G xs ys (b + 5) h' as →
      (acc.toList = as.map Value.ref) → R (.ok (.ret res)) { s with heap := h', toks := tk }) :
    ∀ (k i : Nat) (h : Heap) (tk c : Nat) (acc : Array Value) (as : List Nat), n - i = k → i ≤ n → Z2 b l1 l2 xs ys i h → (∀ (a : Nat) (o : Obj), a < b → g.get? a = some o → h.get? a = some o) →
      h.get? (b + 5) = some { cls := .type "list", dict := none, data := .seq acc c, slots := #[] } → acc.toList = as.map Value.ref → as.length = i → Z2G xs ys (b + 5) h as → b + 5 < h.objs.size →
      codeAny (model prog w) A (.builtin "list.extend.loop" ⟨[.ref (b + 5), .ref (b + 4), res], []⟩) R { s with heap := h, toks := tk } := by
  intro k
  induction k with
  | zero =>
    intro i h tk c acc as hk hi st kp at6 hacc hal G big
    (refine codeAny_builtin F.entry_extend_loop ?_)
    (rw [Around.under_plainId F.plain_extend_loop _])
    show wpAny _ A.in1 (pyNext (.ref (b + 4)) >>= _) _ _ _
    refine wpAny_bind (z2_end (s := { s with heap := h, toks := tk }) (A := A.in1) hh h1 h2 st (by omega) (by omega) fun h' tk' he => ?_)
    refine wpAny_pure (hR h' tk' acc c as (fun a o q e => he a o (.inl q) (kp a o q e)) (he _ _ (.inr (Nat.le_refl _)) at6) (by omega) ⟨G.rise, G.above, fun j a hj => ?_⟩ hacc)
    obtain ⟨x, y, e1, e2, e4⟩ := G.tups j a hj
    have q := G.above a (List.mem_of_getElem? hj)
    exact ⟨x, y, e1, e2, he a _ (.inr (by omega)) e4⟩
  | succ k ih =>
    intro i h tk c acc as hk hi st kp at6 hacc hal G big
    have lt : i < n := by omega
    have accsz : acc.size = i := by rw [← Array.length_toList, hacc, List.length_map, hal]
    (refine codeAny_builtin F.entry_extend_loop ?_)
    (rw [Around.under_plainId F.plain_extend_loop _])
    show wpAny _ A.in1 (pyNext (.ref (b + 4)) >>= _) _ _ _
    refine wpAny_bind (z2_item (s := { s with heap := h, toks := tk }) (A := A.in1) hh h1 h2 st big (arr_at ex lt) (arr_at ey lt) fun h' tk' st' tt sz kk => ?_)
    dsimp only at tt sz kk ⊢
    have at6' := kk _ _ (.inr (Nat.le_refl _)) at6
    have up : ∀ (a : Nat) (o : Obj), a ≠ b + 5 → h'.get? a = some o → (h'.update (b + 5) (Obj.mapSeq (·.push (Value.ref h.objs.size)))).get? a = some o := fun a o hb e => (Heap.get?_update_other _ _ (Ne.symm hb)).trans e
    show wpAny _ A.in1 (updateSeq (b + 5) (·.push (Value.ref h.objs.size)) >>= _) _ _ _
    refine wpAny_bind ?_
    have nlt : (h.objs.size : Nat) ≠ b + 5 := by first | omega | exact nat_ne (by omega)
    refine wpAny_updateSeq at6' rfl (wpAny_pure ⟨plainId_quiet F.plain_extend_loop _, ih (i + 1) _ tk' _ (acc.push (Value.ref h.objs.size)) (as ++ [h.objs.size]) (by omega) lt (z2_keep st' up h1 h2)
      (fun a o q e => up a o (by omega) (kk a o (.inl q) (kp a o q e))) (Heap.get?_update_self _ at6' rfl) (by rw [Array.toList_push, hacc, List.map_append]; rfl) (by rw [List.length_append, hal]; rfl) ⟨?_, ?_, ?_⟩ ?_⟩) (by rw [accsz]; omega) (by show (acc.push (Value.ref h.objs.size)).size ≤ sizeLine + 1; rw [Array.size_push, accsz]; omega)
    · refine List.pairwise_append.mpr ⟨G.rise, List.pairwise_singleton _ _, fun a ha d hd => ?_⟩
      rw [List.mem_singleton.mp hd]
      (obtain ⟨j, hj⟩ := List.mem_iff_getElem?.mp ha)
      obtain ⟨_, _, _, _, e⟩ := G.tups j a hj
      exact Heap.lt_size e
    · intro a ha
      (rcases List.mem_append.mp ha with ha | ha)
      · exact G.above a ha
      · (rw [List.mem_singleton.mp ha])
        exact big
    · intro j a hj
      rcases Nat.lt_trichotomy j as.length with q | q | q
      · rw [List.getElem?_append_left q] at hj
        obtain ⟨x, y, e1, e2, e4⟩ := G.tups j a hj
        have ab := G.above a (List.mem_of_getElem? hj)
        exact ⟨x, y, e1, e2, up a _ (by omega) (kk a _ (.inr (by omega)) e4)⟩
      · subst q
        have ha : h.objs.size = a := by simpa using hj
        subst ha
        rw [hal]
        exact ⟨_, _, arr_at ex lt, arr_at ey lt, up _ _ nlt tt⟩
      · have hno : (as ++ [h.objs.size])[j]? = none := List.getElem?_eq_none (by rw [List.length_append, List.length_singleton]; omega)
        rw [hno] at hj
        cases hj
    · have e : (h'.update (b + 5) (Obj.mapSeq (·.push (Value.ref h.objs.size)))).get? h.objs.size = _ := up _ _ nlt tt
      exact Nat.lt_trans big (Heap.lt_size e)
theorem z2_extend {n : Nat} (hh : A.handled = none) (h1 : l1 < b) (h2 : l2 < b) (ex : xs.size = n) (ey : ys.size = n) (hn : n ≤ sizeLine) (res : Value) (c₀ : Nat)
    (hz : IsZip s.heap (b + 4) (b + 2) (b + 3) .none) (st : Z2 b l1 l2 xs ys 0 s.heap) (at6 : s.heap.get? (b + 5) = some { cls := .type "list", data := .seq #[] c₀ })
    (hR : ∀ h' tk acc c as, (∀ (a : Nat) (o : Obj), a < b → s.heap.get? a = some o → h'.get? a = some o) → h'.get? (b + 5) = some { cls := .type "list", dict := none, data := .seq acc c, slots := #[] } → as.length = n → Z2G xs ys (b + 5) h' as →
      (acc.toList = as.map Value.ref) → R (.ok (.ret res)) { s with heap := h', toks := tk }) :
    wpAny (model prog w) A.in1 (Builtin.List.listExtendWith (.ref (b + 5)) (.ref (b + 4)) res)
      (fun fi s' => match fi with | .done f => R (.ok f) s' | .again c' => c'.quiet = true ∧ codeAny (model prog w) A c' R s') (fun e s' => R (.error e) s') s := by
  have go : ∀ (h : Heap) (c₁ tk : Nat), (∀ (a : Nat) (o : Obj), a ≠ b + 5 → s.heap.get? a = some o → h.get? a = some o) → h.get? (b + 5) = some { cls := .type "list", data := .seq #[] c₁ } →
      codeAny (model prog w) A (.builtin "list.extend.loop" ⟨[.ref (b + 5), .ref (b + 4), res], []⟩) R { s with heap := h, toks := tk } := by
    intro h c₁ tk kp at6'
    exact z2_loop (s := s) (g := s.heap) hh h1 h2 ex ey hn res hR n 0 h tk c₁ #[] [] (Nat.sub_zero _) (Nat.zero_le _) (z2_keep st kp h1 h2) (fun a o q e => kp a o (by omega) e) at6' rfl rfl
      ⟨List.Pairwise.nil, (fun _ ha => nomatch ha), (fun j a hj => by simp at hj)⟩ (Heap.lt_size at6')
  have ty : s.TypeIs (.ref (b + 4)) "zip" := ⟨_, hz, rfl⟩
  (unfold Builtin.List.listExtendWith)
  refine wpAny_bind (wpAny_typeOf (T := "zip") ty ?_)
  have q1 : Builtin.List.listSameRef (.ref (b + 5)) (.ref (b + 4)) = false := by simp [Builtin.List.listSameRef]
  have q2 : (Value.type "zip" == Value.type "list") = false := by decide
  have q3 : (Value.type "zip" == Value.type "tuple") = false := by decide
  simp only [q1, q2, q3, Bool.or_false, Bool.false_eq_true, if_false]
  refine wpAny_bind (wpAny_pyIter_zip hz ?_)
  refine wpAny_bind (wpAny_holding (z3_hint ty ?_))
  refine wpAny_ite_split (fun _ => ?_) (fun _ => wpAny_pure ⟨plainId_quiet F.plain_extend_loop _, go _ c₀ _ (fun a o _ e => e) at6⟩)
  (refine wpAny_bind (wpAny_rule ?_))
  refine wpAny_bind ?_
  show wpAny _ _ (updateSeq (b + 5) (·.push .none) >>= fun _ => updateSeq (b + 5) (·.pop)) _ _ _
  refine wpAny_bind (wpAny_updateSeq at6 rfl ?_)
  have at6b := Heap.get?_update_self (Obj.mapSeq (·.push Value.none)) at6 rfl
  refine wpAny_updateSeq (hz := by seq_fits) at6b rfl ?_
  have at6c := Heap.get?_update_self (Obj.mapSeq (·.pop)) at6b rfl
  refine wpAny_pure ⟨plainId_quiet F.plain_extend_loop _, go _ _ _ (fun a o hb e => ?_) at6c⟩
  (exact (Heap.get?_update_other _ _ (Ne.symm hb)).trans ((Heap.get?_update_other _ _ (Ne.symm hb)).trans e))
theorem z2_init {n : Nat} (hh : A.handled = none) (h1 : l1 < b) (h2 : l2 < b) (ex : xs.size = n) (ey : ys.size = n) (hn : n ≤ sizeLine)
    (hz : IsZip s.heap (b + 4) (b + 2) (b + 3) .none) (st : Z2 b l1 l2 xs ys 0 s.heap) (at6 : s.heap.get? (b + 5) = some { cls := .type "list", data := .seq #[] })
    (hR : ∀ h' tk acc c as, (∀ (a : Nat) (o : Obj), a < b → s.heap.get? a = some o → h'.get? a = some o) → h'.get? (b + 5) = some { cls := .type "list", dict := none, data := .seq acc c, slots := #[] } → as.length = n → Z2G xs ys (b + 5) h' as →
      acc.toList = as.map Value.ref → R (.ok (.ret .none)) { s with heap := h', toks := tk }) :
    wpAny (model prog w) A.in1 (Builtin.«list.__init__» ⟨[.ref (b + 5), .ref (b + 4)], []⟩)
      (fun fi s' => match fi with | .done f => R (.ok f) s' | .again c' => c'.quiet = true ∧ codeAny (model prog w) A c' R s') (fun e s' => R (.error e) s') s := by
  show wpAny _ _ (do let old ← Builtin.List.listItems (.ref (b + 5)); Builtin.List.listUpdate (.ref (b + 5)) (fun _ => #[]); letGo old.toList.reverse; Builtin.List.listExtendWith (.ref (b + 5)) (.ref (b + 4)) .none) _ _ s
  refine wpAny_bind ?_
  unfold Builtin.List.listItems
  refine wpAny_bind (wpAny_seqItems at6 rfl (wpAny_pure ?_))
  show wpAny _ _ (updateSeq (b + 5) (fun _ => #[]) >>= fun _ => letGo (#[] : Array Value).toList.reverse >>= fun _ => Builtin.List.listExtendWith (.ref (b + 5)) (.ref (b + 4)) .none) _ _ s
  refine wpAny_bind (wpAny_updateSeq at6 rfl ?_)
  have at6b := Heap.get?_update_self (Obj.mapSeq (fun _ => (#[] : Array Value))) at6 rfl
  have oth : ∀ (a : Nat) (o : Obj), a ≠ b + 5 → s.heap.get? a = some o → (s.heap.update (b + 5) (Obj.mapSeq (fun _ => (#[] : Array Value)))).get? a = some o :=
    fun a o hb e => (Heap.get?_update_other _ _ (Ne.symm hb)).trans e
  (refine wpAny_bind (wpAny_letGo ?_))
  refine z2_extend hh h1 h2 ex ey hn .none _ (oth _ _ (by omega) hz) (z2_keep st oth h1 h2) at6b fun h' tk acc c as hk hS' hl hG hacc => ?_
  exact hR h' tk acc c as (fun a o q e => hk a o q (oth a o (by omega) e)) hS' hl hG hacc
theorem z2_call {n : Nat} {Q : Value → Shared → Prop} (hh : A.handled = none) (h1 : l1 < b) (h2 : l2 < b) (ex : xs.size = n) (ey : ys.size = n) (hn : n ≤ sizeLine)
    (hz : IsZip s.heap (b + 4) (b + 2) (b + 3) .none) (st : Z2 b l1 l2 xs ys 0 s.heap) (sz : s.heap.objs.size = b + 5)
    (hQ : ∀ h' tk acc c as, (∀ (a : Nat) (o : Obj), a < b → s.heap.get? a = some o → h'.get? a = some o) → h'.get? (b + 5) = some { cls := .type "list", dict := none, data := .seq acc c, slots := #[] } → as.length = n → Z2G xs ys (b + 5) h' as →
      acc.toList = as.map Value.ref → Q (.ref (b + 5)) { s with heap := h', toks := tk }) :
    wpAny (model prog w) A (call (.type "list") [.ref (b + 4)]) Q E s := by
  refine callType_codes (Q₁ := fun obj s₁ => obj = .ref (b + 5) ∧ s₁ = { s with heap := s.heap.push { cls := .type "list", data := .seq #[] } }) F.called_list (F.typeCall_list_1 _) F.entry_list_init
    (by rw [← sz]; exact code_list_new _ ⟨rfl, rfl⟩) fun obj s₁ q => ?_
  obtain ⟨rfl, rfl⟩ := q
  have at6 : (s.heap.push { cls := .type "list", data := .seq #[] }).get? (b + 5) = some { cls := .type "list", data := .seq #[] } := by rw [← sz]; exact Heap.get?_push_size _ rfl
  refine ⟨⟨_, at6, rfl⟩, F.args_list_init_2 _ _, z2_init (A := A.in1) hh h1 h2 ex ey hn (Heap.get?_push_of_some _ hz) (z2_keep st (fun a o _ e => Heap.get?_push_of_some _ e) h1 h2) at6 fun h' tk acc c as hk hS' hl hG hacc => ?_⟩
  exact ⟨rfl, hQ h' tk acc c as (fun a o q e => hk a o q (Heap.get?_push_of_some _ e)) hS' hl hG hacc⟩
end
end K17

namespace K17
open L2 PySem PySem.Spec PyProof.Rows
/-! the rule for list(zip(a, t)), a list, t a tuple -/
def rows2 : List Addr → List V → List V → List (Addr × List V)
  | a :: as, x :: xs, y :: ys => (a, [x, y]) :: rows2 as xs ys
  | _, _, _ => []
theorem rows2_mem : ∀ {as : List Addr} {xs ys : List V} {p : Addr × List V}, p ∈ rows2 as xs ys → ∃ (j : Nat) (x y : V), as[j]? = some p.1 ∧ xs[j]? = some x ∧ ys[j]? = some y ∧ p.2 = [x, y]
  | a :: as, x :: xs, y :: ys, p, h => by
    (rcases List.mem_cons.mp h with e | h)
    · subst e
      exact ⟨0, x, y, rfl, rfl, rfl, rfl⟩
    · obtain ⟨j, x', y', e1, e2, e3, e5⟩ := rows2_mem h
      exact ⟨j + 1, x', y', e1, e2, e3, e5⟩
  | [], _, _, _, h => nomatch h
  | _ :: _, [], _, _, h => nomatch h
  | _ :: _, _ :: _, [], _, h => nomatch h
theorem rows2_at : ∀ {as : List Addr} {xs ys : List V} {j : Nat} {a : Addr} {x y : V}, as[j]? = some a → xs[j]? = some x → ys[j]? = some y → (a, [x, y]) ∈ rows2 as xs ys
  | a :: as, x :: xs, y :: ys, 0, _, _, _, h1, h2, h3 => by
    cases h1
    cases h2
    cases h3
    exact List.mem_cons_self
  | a :: as, x :: xs, y :: ys, j + 1, _, _, _, h1, h2, h3 => List.mem_cons_of_mem _ (rows2_at (j := j) h1 h2 h3)
  | [], _, _, _, _, _, _, h, _, _ => nomatch h
  | _ :: _, [], _, _, _, _, _, _, h, _ => nomatch h
  | _ :: _, _ :: _, [], _, _, _, _, _, _, h => nomatch h
theorem rows2_first {as : List Addr} {xs ys : List V} {p : Addr × List V} (h : p ∈ rows2 as xs ys) : p.1 ∈ as := by
  obtain ⟨j, _, _, e, _⟩ := rows2_mem h
  exact List.mem_of_getElem? e
theorem layR_at2 : ∀ {as : List Addr} {xs ys : List V} (H : Hp), as.Nodup → ∀ p ∈ rows2 as xs ys, layR H (rows2 as xs ys) p.1 = some (.tup p.2)
  | a :: as, x :: xs, y :: ys, H, nd, p, h => by
    (obtain ⟨n1, n2⟩ := List.nodup_cons.mp nd)
    show layR (upd H a (.tup [x, y])) (rows2 as xs ys) p.1 = _
    (rcases List.mem_cons.mp h with e | h)
    · subst e
      show layR (upd H a (.tup [x, y])) (rows2 as xs ys) a = _
      rw [layR_off _ _ fun q hq e => n1 (by rw [← e]; exact rows2_first hq), upd_same]
    · exact layR_at2 _ n2 p h
  | [], _, _, _, _, _, h => nomatch h
  | _ :: _, [], _, _, _, _, h => nomatch h
  | _ :: _, _ :: _, [], _, _, _, h => nomatch h
def Duo (H : Hp) (ts : List Addr) (xs ys : List V) : Prop := ts.length = xs.length ∧ ∀ (j : Nat) (t : Addr), ts[j]? = some t → ∃ x y, xs[j]? = some x ∧ ys[j]? = some y ∧ H t = some (.tup [x, y])
def tListZip2 (K : PySem.W.Frag) (ta : TA) : TE := fun σ H Q => ta σ H fun vs H1 => ∃ (a b : Addr) (xs ys : List V), vs = [.ref a, .ref b] ∧ H1 a = some (.lst xs) ∧ SqT K H1 b ys ∧ xs.length = ys.length ∧
  ∀ (H' : Hp) (p : Addr) (ts : List Addr), Same H1 H' → H1 p = none → (∀ t ∈ ts, H1 t = none) → p ∉ ts → H' p = some (.lst (ts.map V.ref)) → Duo H' ts xs ys → Q (.ref p) H'
section
variable {X : Cx} {e1 e2 : Expr} {ta : TA} {p p' cpos pos : Pos}
theorem z2_laid {pins : List (Addr × Obj)} {σ : L2.St} {H : Hp} {s : Shared} {h' : Heap} {tk : Nat} {xs ys : List V} {us vs : List Value} {acc : Array Value} {c : Nat} {as : List Nat} (I : Inv X pins σ H s) (hz : xs.length ≤ sizeLine) (rx : Vals xs us) (ry : Vals ys vs)
    (hk : ∀ (a : Nat) (o : Obj), a < s.heap.objs.size → s.heap.get? a = some o → h'.get? a = some o) (hS : h'.get? (s.heap.objs.size + 5) = some { cls := .type "list", dict := none, data := .seq acc c, slots := #[] }) (hl : as.length = xs.length) (G : Z2G us.toArray vs.toArray (s.heap.objs.size + 5) h' as) (hacc : acc.toList = as.map Value.ref) :
    ∃ H' : Hp, Same H H' ∧ H (s.heap.objs.size + 5) = none ∧ (∀ t ∈ as, H t = none) ∧ (s.heap.objs.size + 5) ∉ as ∧ H' (s.heap.objs.size + 5) = some (.lst (as.map V.ref)) ∧ Duo H' as xs ys ∧ Inv X pins σ H' { s with heap := h', toks := tk } := by
  have big : ∀ t ∈ as, s.heap.objs.size + 5 < t := G.above
  have nin : (s.heap.objs.size + 5) ∉ as := fun z => Nat.lt_irrefl _ (big _ z)
  have nd : as.Nodup := List.Pairwise.imp (fun {a b} (h : a < b) => Nat.ne_of_lt h) G.rise
  have new : ∀ t ∈ as, H t = none := fun t ht => I.hok.fresh (by have := big t ht; show s.heap.objs.size ≤ t; omega)
  have newS : H (s.heap.objs.size + 5) = none := I.hok.fresh (Nat.le_add_right _ _)
  have off : ∀ b, b ∉ as → b ≠ s.heap.objs.size + 5 → layR (upd H (s.heap.objs.size + 5) (.lst (as.map V.ref))) (rows2 as xs ys) b = H b := fun b n1 n2 => by
    rw [layR_off _ _ fun q hq e => n1 (by rw [← e]; exact rows2_first hq), upd_ne n2]
  have kp : Same H (layR (upd H (s.heap.objs.size + 5) (.lst (as.map V.ref))) (rows2 as xs ys)) := fun b u e => by
    (rw [off b (fun z => by rw [new b z] at e; cases e) (fun z => by rw [z, newS] at e; cases e)])
    exact e
  have low : ∀ b o, s.heap.get? b = some o → h'.get? b = some o := fun b o e => hk b o (Heap.lt_size e) e
  have eS : layR (upd H (s.heap.objs.size + 5) (.lst (as.map V.ref))) (rows2 as xs ys) (s.heap.objs.size + 5) = some (.lst (as.map V.ref)) := by
    rw [layR_off _ _ fun q hq e => nin (by rw [← e]; exact rows2_first hq), upd_same]
  have row : ∀ (j : Nat) (t : Addr), as[j]? = some t → ∃ x y u v, xs[j]? = some x ∧ ys[j]? = some y ∧ RelV x u ∧ RelV y v ∧ IsTupOf2 h' t u v := fun j t ht => by
    obtain ⟨u, v, f1, f2, f4⟩ := G.tups j t ht
    have back : ∀ {qs : List V} {rs : List Value} {r : Value}, Vals qs rs → rs.toArray[j]? = some r → ∃ q, qs[j]? = some q ∧ RelV q r := fun {qs rs r} R e => by
      have e' : rs[j]? = some r := by simpa using e
      have lt : j < qs.length := by
        rw [R.length]
        rcases Nat.lt_or_ge j rs.length with q | q
        · exact q
        · rw [List.getElem?_eq_none q] at e'
          cases e'
      obtain ⟨r', a1, a2⟩ := R.get (List.getElem?_eq_getElem lt)
      rw [e'] at a1
      cases a1
      exact ⟨_, List.getElem?_eq_getElem lt, a2⟩
    obtain ⟨x, a1, b1⟩ := back rx f1
    obtain ⟨y, a2, b2⟩ := back ry f2
    exact ⟨x, y, u, v, a1, a2, b1, b2, f4⟩
  refine ⟨layR (upd H (s.heap.objs.size + 5) (.lst (as.map V.ref))) (rows2 as xs ys), kp, newS, new, nin, eS, ⟨hl, fun j t ht => ?_⟩, ?_⟩
  · obtain ⟨x, y, _, _, a1, a2, _⟩ := row j t ht
    exact ⟨x, y, a1, a2, layR_at2 _ nd _ (rows2_at ht a1 a2)⟩
  · refine I.call' (ch := []) rfl ⟨fun b o q _ _ _ => low b o q, fun b o q _ _ _ => ⟨o.slots, low b o q⟩, fun b o q n _ => ?_, fun b o q _ => ⟨o, low b o q⟩, fun b xs q => kp b _ q, fun b o u q => kp b _ q, fun b ps q => ⟨#[], by rw [kp b _ q]; simp⟩⟩ (fun b u q => ?_) I.bare fun b z => by simp at z
    · rw [off b (fun z => Nat.lt_irrefl _ (Nat.lt_trans (Nat.lt_of_lt_of_le (Heap.lt_size q) (Nat.le_add_right _ 5)) (big b z))) (Nat.ne_of_lt (Nat.lt_of_lt_of_le (Heap.lt_size q) (Nat.le_add_right _ 5)))]
      exact n
    · by_cases hb : b ∈ as
      · obtain ⟨j, hj⟩ := List.mem_iff_getElem?.mp hb
        obtain ⟨x, y, u1, v1, a1, a2, b1, b2, f4⟩ := row j b hj
        rw [layR_at2 _ nd _ (rows2_at hj a1 a2)] at q
        cases q
        exact ⟨by show 2 ≤ sizeLine; decide, [u1, v1], .cons b1 (.cons b2 .nil), ⟨_, f4, rfl, _, rfl⟩⟩
      · by_cases hb2 : b = s.heap.objs.size + 5
        · rw [hb2] at q ⊢
          rw [eS] at q
          cases q
          refine ⟨by rw [List.length_map]; omega, acc.toList, c, by rw [hacc]; exact refs_vals as, ?_⟩
          rw [Array.toArray_toList]
          exact hS
        · rw [off b hb hb2] at q
          exact (I.hok b u q).stay (fun d v _ y => low d v y) (fun d y => kp d _ y) fun d xs y => kp d _ y
theorem pe_listZip2 (hc : X.calm = true) (ha : PA X [e1, e2] ta) (gL : Gl X "list") (mL : X.mg "list" = none) (gZ : Gl X "zip") (mZ : X.mg "zip" = none) (bL : bootBuiltins "list" = some (.type "list"))
    (hs : starEach [.Call (.Name "zip" p') [e1, e2] [] cpos] X.env = (false, eval (.Call (.Name "zip" p') [e1, e2] [] cpos) X.env) :: starEach [] X.env := by rfl)
    (hs' : starEach [e1, e2] X.env = (false, eval e1 X.env) :: starEach [e2] X.env := by rfl) (hpl : (backTo cpos (starEach [e2] X.env)).any (·.1) = false := by rfl) :
    PE X (.Call (.Name "list" p) [.Call (.Name "zip" p') [e1, e2] [] cpos] [] pos) (tListZip2 X.K ta) := by
  (refine ⟨fun pins s σ H Q I hq => ?_⟩)
  refine wpAny_Call_Name_kw (ld_blt I gL mL bL ?_)
  (refine PyProof.Rows.callWith_type1 ?_ hs rfl)
  rw [hs]
  show wpAny _ _ (spliced ((false, eval (.Call (.Name "zip" p') [e1, e2] [] cpos) X.env) :: backTo pos (starEach [] X.env))) _ _ s
  refine Calls.spliced_cons ?_
  refine Call_ (ld_blt I gZ mZ PyProof.Rows.boot_zip (PyProof.Rows.callWith_type1 (thn (ha.run cpos pins s σ H _ I hq) fun rs s1 ⟨vs0, H1, I1, r1, q1⟩ => ?_) hs' hpl))
  obtain ⟨a, b, xs, ys, ex, h1, h2, ly, q⟩ := q1
  subst ex
  cases r1 with
  | cons ra r2 =>
  cases r2 with
  | cons rb r4 =>
  cases r4
  cases ra
  cases rb
  obtain ⟨us, rx, p1, _⟩ := I1.list (.inl (.inl h1))
  obtain ⟨vs, ry, p2, _⟩ := I1.tuple h2
  have bnd : xs.length ≤ sizeLine := (I1.hok a _ h1).1
  have lx := rx.length
  have ly' := ry.length
  obtain ⟨o2, ho2, _⟩ := id p2
  refine zip_begins2 (begins_list a us.toArray) (begins_tuple b vs.toArray) p1.isList p2 fun g gz gT gO g1 g2 gs gk => ?_
  refine Calls.spliced_nil ?_
  have n1 : (a : Nat) < s1.heap.objs.size := p1.lt
  have n2 : (b : Nat) < s1.heap.objs.size := Heap.lt_size ho2
  have st : Z2 s1.heap.objs.size a b us.toArray vs.toArray 0 g := ⟨gT, ⟨_, g1, rfl, rfl⟩, ⟨_, g2, rfl, rfl⟩, p1.isList.at fun o => gk a o, (show s1.heap.IsTuple b vs.toArray from p2).at fun o => gk b o, .inl ⟨gz, _, _, gO⟩⟩
  refine z2_call (n := xs.length) (s := { s1 with heap := g }) (I1.ok.hd hc) n1 n2 (by simp; omega) (by simp; omega) bnd gz st gs fun h' tk acc cc as hk hS hl hG hacc => ?_
  obtain ⟨H', k1, k2, k3, k4, k5, k6, J⟩ := z2_laid (tk := tk) I1 bnd rx ry (fun d o lt e => hk d o lt (gk d o e)) hS hl hG hacc
  (exact ⟨.ref _, H', J, rfl, q H' _ as k1 k2 k3 k4 k5 k6⟩)
end
end K17

namespace K17
open L2 PySem PySem.Spec PyProof.Rows
/-! enumerate(t), zip(t, a), t a tuple, a a list -/
def IteT (K : PySem.W.Frag) (a : Addr) : It :=
  ⟨fun i H => ∃ (xs : List V) (x : V), SqT K H a xs ∧ xs[i]? = some x, fun i H v H' => ∃ T x, v = .ref T ∧ H T = none ∧ H' = upd H T (.tup [.int (i : Nat), x]) ∧ ∀ xs, SqT K H a xs → xs[i]? = some x, fun i H => ∃ xs : List V, SqT K H a xs ∧ xs.length = i⟩
theorem turn_enumT {P : Program} {w : World} {K : PySem.W.Frag} {elts : List Expr} {kk : Nat} {tpos : Pos} (a e it : Addr) :
    Turn P w K (.Tuple elts kk tpos) (IteT K a) [e, it] e (fun i h => (∃ old, IsEnum h e it ((i : Nat) : Int) old) ∧ h.IsTupleIter it a i ∧ e ≠ it ∧ a ≠ it ∧ e ≠ a) where
  mem := by simp
  obj := fun i h st b hb => by
    obtain ⟨⟨old, he⟩, ⟨o, ho, hc, hd⟩, _⟩ := st
    have e' : b = e ∨ b = it := by simpa using hb
    rcases e' with z | z
    · rw [z]; exact ⟨_, he, fun v q => nomatch q⟩
    · rw [z]; exact ⟨o, ho, fun v q => by rw [hd] at q; cases q⟩
  keep := fun i h h' st k => let ⟨⟨old, he⟩, hi, hne⟩ := st; ⟨⟨old, k e (by simp) _ he⟩, hi.at fun o q => k it (by simp) o q, hne⟩
  item := by
    intro X hP hw hK hc i pins s σ H E I hf st hg
    subst hP hw hK
    obtain ⟨⟨old, he⟩, hit, hne, hai, hea⟩ := st
    obtain ⟨xs, x, hq, hx⟩ := hg
    obtain ⟨its, rv, p, hz⟩ := I.tuple hq
    obtain ⟨u, hu, ru⟩ := rv.get hx
    have hlt : i < its.toArray.size := by
      rw [List.size_toArray]
      exact (List.getElem?_eq_some_iff.mp hu).1
    have z0 : (0 : Int) + (i : Int) = (i : Int) := Int.zero_add _
    have hel : e < s.heap.objs.size := Heap.lt_size he
    have hil : it < s.heap.objs.size := by obtain ⟨_, q, _⟩ := hit; exact Heap.lt_size q
    have W := GoesN.enumFrom (elts := elts) (x1 := kk) (pos := tpos) 0 (Draws.tuple (prog := X.prog) (w := X.w) (A := X.A.in1) (show X.A.in1.handled = none from I.ok.hd hc) it a hai its.toArray) e hne (by simp [hne, hea]) (by simp)
    refine W.goes i s (fun v s2 => ∃ x H', Inv X pins σ H' s2 ∧ RelV x v ∧ (IteT X.K a).yld i H x H' ∧ ((∃ old, IsEnum s2.heap e it ((i + 1 : Nat) : Int) old) ∧ s2.heap.IsTupleIter it a (i + 1) ∧ e ≠ it ∧ a ≠ it ∧ e ≠ a) ∧ ∀ b ∈ [e, it], H' b = none) E hlt ⟨⟨old, by rw [z0]; exact he⟩, hit, p⟩ fun v h' tk hY st' hk htk => ?_
    obtain ⟨T, t, y, rfl, hT, hy, hTt⟩ := hY
    have ey : y = u := by
      have h1 : its[i]? = some y := by simpa using hy
      rw [hu] at h1
      exact (Option.some.inj h1).symm
    subst ey
    rw [z0] at hTt
    have new : ObjOk X.prog X.w (upd H T (.tup [.int (i : Nat), x])) h' T (.tup [.int (i : Nat), x]) :=
      ⟨by show 2 ≤ sizeLine; decide, [.int i t, y], .cons ⟨_, rfl⟩ (.cons ru .nil), hTt⟩
    have I1 : Inv X pins σ (upd H T (.tup [.int (i : Nat), x])) { s with heap := h', toks := tk } :=
      I.turnedNew (ch := [e, it]) hk hf hT new
    obtain ⟨⟨old', he'⟩, hit', _⟩ := st'
    refine ⟨.ref T, _, I1, rfl, ⟨_, x, rfl, I.hok.fresh hT, rfl, fun ys hy => by rw [I.tuple_inj hy hq]; exact hx⟩, ⟨⟨old', ?_⟩, hit', hne, hai, hea⟩, fun b hb => ?_⟩
    · rw [← Int.zero_add ((i + 1 : Nat) : Int)]
      exact he'
    · have hb' : b < s.heap.objs.size := by
        have e' : b = e ∨ b = it := by simpa using hb
        rcases e' with z | z
        · rw [z]; exact hel
        · rw [z]; exact hil
      rw [upd_ne (Nat.ne_of_lt (Nat.lt_of_lt_of_le hb' hT))]
      exact (hf b hb).1
  done := by
    intro X hP hw hK hc i pins s σ H E I hf st hg
    subst hP hw hK
    obtain ⟨⟨old, he⟩, hit, hne, hai, hea⟩ := st
    obtain ⟨xs, hq, hx⟩ := hg
    obtain ⟨its, rv, p, hz⟩ := I.tuple hq
    have hl := rv.length
    have z0 : (0 : Int) + (i : Int) = (i : Int) := Int.zero_add _
    have en : its.toArray.size = i := by rw [List.size_toArray]; omega
    have W := GoesN.enumFrom (elts := elts) (x1 := kk) (pos := tpos) 0 (Draws.tuple (prog := X.prog) (w := X.w) (A := X.A.in1) (show X.A.in1.handled = none from I.ok.hd hc) it a hai its.toArray) e hne (by simp [hne, hea]) (by simp)
    exact W.stops s (fun s1 => Inv X pins σ H s1) E ⟨⟨old, by rw [en, z0]; exact he⟩, by rw [en]; exact hit, p⟩ fun h' tk hk htk => I.turnedL (ch := [e, it]) hk hf
  self := fun A i s Q E st h => let ⟨⟨_, he⟩, _⟩ := st; wpAny_pyIter_enum he h
def iEnumT (K : PySem.W.Frag) (ta : TA) : TI := fun σ H R => ta σ H fun vs H1 => ∃ a xs, vs = [.ref a] ∧ SqT K H1 a xs ∧ R (IteT K a) H1
theorem walk_enumT {K : PySem.W.Frag} {a : Addr} {xs : List V} : Walk (IteT K a) xs.length (fun H => SqT K H a xs) (YPair (fun i => some (.int (i : Nat))) (fun i => xs[i]?)) where
  goes := fun i H hi h => ⟨xs, _, h, List.getElem?_eq_getElem hi⟩
  stops := fun H h => ⟨xs, h, rfl⟩
  yields := fun i H x H' hi h y => by
    obtain ⟨T, x, rfl, hT, rfl, f⟩ := y
    exact ⟨T, .int (i : Nat), x, rfl, hT, rfl, rfl, f xs h⟩
/-! zip of a tuple and a list -/
def ItzM (K : PySem.W.Frag) (a b : Addr) : It :=
  ⟨fun i H => ∃ (xs ys : List V) (x y : V), SqT K H a xs ∧ SqL K H b ys ∧ xs[i]? = some x ∧ ys[i]? = some y,
    fun i H v H' => ∃ T x y, v = .ref T ∧ H T = none ∧ H' = upd H T (.tup [x, y]) ∧ (∀ xs, SqT K H a xs → xs[i]? = some x) ∧ ∀ ys, SqL K H b ys → ys[i]? = some y,
    fun i H => ∃ xs ys : List V, SqT K H a xs ∧ SqL K H b ys ∧ xs.length = i ∧ ys.length = i⟩
theorem turn_zipM {P : Program} {w : World} {K : PySem.W.Frag} {elts : List Expr} {kk : Nat} {tpos : Pos} {a b z TI TO i1 i2 : Addr} (S : ZipSep2 z TI TO i1 i2 [i1, a] [i2, b]) (h1n : a ≠ i1) (h2n : b ≠ i2) (h12 : i1 ≠ z) (h22 : i2 ≠ z) :
    Turn P w K (.Tuple elts kk tpos) (ItzM K a b) [z, TI, TO, i1, i2] z (fun i h => IsZip h z TI TO .none ∧ IsTupOf2 h TI (.ref i1) (.ref i2) ∧ (∃ x y, IsTupOf2 h TO x y) ∧ h.IsTupleIter i1 a i ∧ h.IsListIter i2 b i) where
  mem := by simp
  obj := fun i h st c hc => by
    obtain ⟨hz, hTI, ⟨x, y, hTO⟩, ⟨o1, e1, _, d1⟩, ⟨o2, e2, _, d2⟩⟩ := st
    have e' : c = z ∨ c = TI ∨ c = TO ∨ c = i1 ∨ c = i2 := by simpa using hc
    rcases e' with q | q | q | q | q
    · rw [q]; exact ⟨_, hz, fun v q => nomatch q⟩
    · rw [q]; exact ⟨_, hTI, fun v q => nomatch q⟩
    · rw [q]; exact ⟨_, hTO, fun v q => nomatch q⟩
    · rw [q]; exact ⟨o1, e1, fun v q => by rw [d1] at q; cases q⟩
    · rw [q]; exact ⟨o2, e2, fun v q => by rw [d2] at q; cases q⟩
  keep := fun i h h' st k => by
    obtain ⟨hz, hTI, ⟨x, y, hTO⟩, h1, h2⟩ := st
    exact ⟨k z (by simp) _ hz, k TI (by simp) _ hTI, ⟨x, y, k TO (by simp) _ hTO⟩, h1.at fun o q => k i1 (by simp) o q, h2.at fun o q => k i2 (by simp) o q⟩
  item := by
    intro X hP hw hK hc i pins s σ H E I hf st hg
    subst hP hw hK
    obtain ⟨hz, hTI, ⟨x0, y0, hTO⟩, h1, h2⟩ := st
    obtain ⟨xs, ys, x, y, hqx, hqy, hx, hy⟩ := hg
    obtain ⟨its, rv, p, _⟩ := I.tuple hqx
    obtain ⟨its2, rv2, p2, _⟩ := I.list hqy
    obtain ⟨u, hu, ru⟩ := rv.get hx
    obtain ⟨u2, hu2, ru2⟩ := rv2.get hy
    have l1 : i < its.toArray.size := by rw [List.size_toArray]; exact (List.getElem?_eq_some_iff.mp hu).1
    have l2 : i < its2.toArray.size := by rw [List.size_toArray]; exact (List.getElem?_eq_some_iff.mp hu2).1
    have W := GoesN.zip2 (elts := elts) (x1 := kk) (pos := tpos) S (Draws.tuple (prog := X.prog) (w := X.w) (A := X.A.in1) (show X.A.in1.handled = none from I.ok.hd hc) i1 a h1n its.toArray) (Draws.list (prog := X.prog) (w := X.w) (A := X.A.in1) (show X.A.in1.handled = none from I.ok.hd hc) i2 b h2n its2.toArray)
    refine W.goes i s (fun v s2 => ∃ x H', Inv X pins σ H' s2 ∧ RelV x v ∧ (ItzM X.K a b).yld i H x H' ∧ (IsZip s2.heap z TI TO .none ∧ IsTupOf2 s2.heap TI (.ref i1) (.ref i2) ∧ (∃ x y, IsTupOf2 s2.heap TO x y) ∧ s2.heap.IsTupleIter i1 a (i + 1) ∧ s2.heap.IsListIter i2 b (i + 1)) ∧ ∀ b ∈ [z, TI, TO, i1, i2], H' b = none) E (by omega) ⟨hz, hTI, ⟨_, _, hTO⟩, ⟨h1, p⟩, ⟨h2, p2.isList⟩⟩ fun v h' tk hY st' hk htk => ?_
    obtain ⟨T, v1, v2, rfl, hT, e1, e2, hTt⟩ := hY
    have ev1 : v1 = u := by
      have q : its[i]? = some v1 := by simpa using e1
      rw [hu] at q
      exact (Option.some.inj q).symm
    have ev2 : v2 = u2 := by
      have q : its2[i]? = some v2 := by simpa using e2
      rw [hu2] at q
      exact (Option.some.inj q).symm
    subst ev1
    subst ev2
    have new : ObjOk X.prog X.w (upd H T (.tup [x, y])) h' T (.tup [x, y]) := ⟨by show 2 ≤ sizeLine; decide, [v1, v2], .cons ru (.cons ru2 .nil), hTt⟩
    have I1 : Inv X pins σ (upd H T (.tup [x, y])) { s with heap := h', toks := tk } :=
      I.turnedNew (ch := [z, TI, TO, i1, i2]) (fun c o hb q => hk c o (fun q' => hb (by simp at q'; simp; rcases q' with q' | q' | q' | q' <;> simp [q'])) q) hf hT new
    obtain ⟨z1, z2, z3, ⟨z4, _⟩, ⟨z5, _⟩⟩ := st'
    refine ⟨.ref T, _, I1, rfl, ⟨_, x, y, rfl, I.hok.fresh hT, rfl, fun l hl => by rw [I.tuple_inj hl hqx]; exact hx, fun l hl => by rw [I.list_inj hl hqy]; exact hy⟩, ⟨z1, z2, z3, z4, z5⟩, fun c hcm => ?_⟩
    have hlt : c < s.heap.objs.size := by
      have e' : c = z ∨ c = TI ∨ c = TO ∨ c = i1 ∨ c = i2 := by simpa using hcm
      rcases e' with q | q | q | q | q
      · rw [q]; exact Heap.lt_size hz
      · rw [q]; exact Heap.lt_size hTI
      · rw [q]; exact Heap.lt_size hTO
      · rw [q]; obtain ⟨_, e1, _⟩ := h1; exact Heap.lt_size e1
      · rw [q]; obtain ⟨_, e1, _⟩ := h2; exact Heap.lt_size e1
    rw [upd_ne (Nat.ne_of_lt (Nat.lt_of_lt_of_le hlt hT))]
    exact (hf c hcm).1
  done := by
    intro X hP hw hK hc i pins s σ H E I hf st hg
    subst hP hw hK
    obtain ⟨hz, hTI, ⟨x0, y0, hTO⟩, h1, h2⟩ := st
    obtain ⟨xs, ys, hqx, hqy, ex, ey⟩ := hg
    obtain ⟨its, rv, p, _⟩ := I.tuple hqx
    obtain ⟨its2, rv2, p2, _⟩ := I.list hqy
    have l1 := rv.length
    have l2 := rv2.length
    have e1 : its.toArray.size = i := by rw [List.size_toArray]; omega
    have e2 : its2.toArray.size = i := by rw [List.size_toArray]; omega
    have em : min its.toArray.size its2.toArray.size = i := by rw [e1, e2]; omega
    have W := GoesN.zip2 (elts := elts) (x1 := kk) (pos := tpos) S (Draws.tuple (prog := X.prog) (w := X.w) (A := X.A.in1) (show X.A.in1.handled = none from I.ok.hd hc) i1 a h1n its.toArray) (Draws.list (prog := X.prog) (w := X.w) (A := X.A.in1) (show X.A.in1.handled = none from I.ok.hd hc) i2 b h2n its2.toArray)
    rw [em] at W
    exact W.stops s (fun s1 => Inv X pins σ H s1) E ⟨hz, hTI, ⟨_, _, hTO⟩, ⟨h1, p⟩, ⟨h2, p2.isList⟩⟩ fun h' tk hk htk => I.turnedL (ch := [z, TI, TO, i1, i2]) (fun c o hb q => hk c o (fun q' => hb (by simp at q'; simp; rcases q' with q' | q' | q' | q' <;> simp [q'])) q) hf
  self := fun A i s Q E st h => wpAny_pyIter_zip st.1 h
def iZipM (K : PySem.W.Frag) (ta : TA) : TI := fun σ H R => ta σ H fun vs H1 => ∃ a b xs ys, vs = [.ref a, .ref b] ∧ SqT K H1 a xs ∧ SqL K H1 b ys ∧ R (ItzM K a b) H1
theorem PI.or {X : Cx} {tg it : Expr} {w1 w2 : TI} (h1 : PI X tg it w1) (h2 : PI X tg it w2) : PI X tg it (fun σ H R => w1 σ H R ∨ w2 σ H R) :=
  ⟨fun pins s σ H R I h => h.elim (h1.run pins s σ H R I) (h2.run pins s σ H R I)⟩
theorem pi_zipM {X : Cx} {e e2 : Expr} {ta : TA} {p pos tpos : Pos} {elts : List Expr} {kk : Nat} (hg : Gl X "zip") (hm : X.mg "zip" = none) (ha : PA X [e, e2] ta)
    (hs : starEach [e, e2] X.env = (false, eval e X.env) :: starEach [e2] X.env := by rfl) (hpl : (backTo pos (starEach [e2] X.env)).any (·.1) = false := by rfl) :
    PI X (.Tuple elts kk tpos) (.Call (.Name "zip" p) [e, e2] [] pos) (iZipM X.K ta) := by
  refine ⟨fun pins s σ H R I h => ?_⟩
  refine Call_ (ld_blt I hg hm PyProof.Rows.boot_zip (PyProof.Rows.callWith_type1 (thn (ha.run pos pins s σ H _ I h) fun us s1 ⟨vs, H1, I1, r1, q1⟩ => ?_) hs hpl))
  obtain ⟨a, b, xs, ys, ex, hqx, hqy, q⟩ := q1
  subst ex
  cases r1 with
  | cons r rr =>
    cases rr with
    | cons r' rr =>
      cases rr
      cases r
      cases r'
      obtain ⟨its, rv, p1, _⟩ := I1.tuple hqx
      obtain ⟨its2, rv2, p2, _⟩ := I1.list hqy
      obtain ⟨o1, ho1, _⟩ := id p1
      have la : (a : Nat) < s1.heap.objs.size := Heap.lt_size ho1
      have lb : (b : Nat) < s1.heap.objs.size := p2.lt
      refine zip_begins2 (begins_tuple a its.toArray) (begins_list b its2.toArray) p1 p2.isList fun h' hz hTI hTO h1 h2 hsz hk => wpAny_pyIter_zip hz ?_
      have I2 : Inv X pins σ H1 { s1 with heap := h' } := I1.kept (t' := s1.toks) hk
      refine ⟨s1.heap.objs.size + 4, [s1.heap.objs.size + 4, s1.heap.objs.size + 2, s1.heap.objs.size + 3, s1.heap.objs.size, s1.heap.objs.size + 1], _, _, H1, rfl, I2, turn_zipM (zip_sep2 (N := s1.heap.objs.size) (fp1 := [a]) (fp2 := [b]) (by simpa using la) (by simpa using lb)) (Nat.ne_of_lt la) (Nat.ne_of_lt (Nat.lt_succ_of_lt lb)) (Nat.ne_of_lt (Nat.lt_add_of_pos_right (by decide))) (Nat.ne_of_lt (Nat.add_lt_add_left (by decide) _)), ⟨hz, hTI, ⟨_, _, hTO⟩, ⟨_, h1, rfl, rfl⟩, ⟨_, h2, rfl, rfl⟩⟩, fun c hcm => ?_, q⟩
      have e' : c = s1.heap.objs.size + 4 ∨ c = s1.heap.objs.size + 2 ∨ c = s1.heap.objs.size + 3 ∨ c = s1.heap.objs.size ∨ c = s1.heap.objs.size + 1 := by simpa using hcm
      have hle : s1.heap.objs.size ≤ c := by
        rcases e' with z | z | z | z | z
        · rw [z]; exact Nat.le_add_right _ _
        · rw [z]; exact Nat.le_add_right _ _
        · rw [z]; exact Nat.le_add_right _ _
        · rw [z]; exact Nat.le_refl _
        · rw [z]; exact Nat.le_add_right _ _
      exact I1.fpOk hle (I1.hok.fresh hle)
theorem enum_newT (a : Addr) (items : Array Value) :
    Meets (Builtin.«enumerate.__new__» ⟨[.type "enumerate", .ref a], []⟩) (fun _ R s => s.heap.IsTuple a items ∧
      R (.ok (.ret (.ref (s.heap.push { cls := .type "tuple_iterator", data := .fields #[.ref a, .int 0 0] }).objs.size)))
        { s with heap := (s.heap.push { cls := .type "tuple_iterator", data := .fields #[.ref a, .int 0 0] }).push { cls := .type "enumerate", data := .fields #[.none, .bool false, .ref s.heap.objs.size, rawInt 0, .none, .none] } }) :=
  .of_wp fun prog w A R s h => by
    (obtain ⟨hp, g, d, tk, os⟩ := s)
    (obtain ⟨h1, h⟩ := h)
    have hsub := sub_enumerate
    have q1 : ∀ {A1 : Around} {E : Value → Shared → Prop} {Q : Value → Shared → Prop}, Q (.ref hp.objs.size) ⟨hp.push { cls := .type "tuple_iterator", data := .fields #[.ref a, .int 0 0] }, g, d, tk, os⟩ → wpAny (model prog w) A1 (pyIter (.ref a)) Q E ⟨hp, g, d, tk, os⟩ :=
      fun q => (begins_tuple a items).iter prog w _ _ ⟨hp, g, d, tk, os⟩ _ h1 q
    wp_walk using q1
    refine wpAny_stack_any fun st => wpAny_pure ?_
    split
    · rename_i c _ _ _ _ _
      cases (c == Value.type "enumerate")
      · wp_walk using q1
        exact ⟨_, rfl, h⟩
      · wp_walk using q1
        exact ⟨_, rfl, h⟩
    · wp_walk using q1
      exact ⟨_, rfl, h⟩
theorem call_enumerate_tup {prog : Program} {w : World} {A : Around} {E : Value → Shared → Prop} {s : Shared} {a : Addr} {items : Array Value} {Q : Value → Shared → Prop} (ht : s.heap.IsTuple a items)
    (h : ∀ h', IsEnum h' (s.heap.objs.size + 1) s.heap.objs.size 0 .none → h'.IsTupleIter s.heap.objs.size a 0 → h'.objs.size = s.heap.objs.size + 2 → (∀ b o, s.heap.get? b = some o → h'.get? b = some o) → Q (.ref (s.heap.objs.size + 1)) { s with heap := h' }) :
    wpAny (model prog w) A (call (.type "enumerate") [.ref a]) Q E s := by
  refine callType_new F.called_enumerate (by decide) (F.typeCall_enumerate_1 _) (F.newCall_enumerate_1 _) (fun obj => F.args_object_init_2 obj _) F.entry_enumerate_new (enum_newT a items) ⟨ht, ?_⟩
  have sz : (s.heap.push { cls := .type "tuple_iterator", data := .fields #[.ref a, .int 0 0] }).objs.size = s.heap.objs.size + 1 := Heap.size_push ..
  show _ ∧ _
  rw [sz]
  have he : IsEnum ((s.heap.push { cls := .type "tuple_iterator", data := .fields #[.ref a, .int 0 0] }).push { cls := .type "enumerate", data := .fields #[.none, .bool false, .ref s.heap.objs.size, rawInt 0, .none, .none] }) (s.heap.objs.size + 1) s.heap.objs.size 0 .none := by
    have q := Heap.get?_push_size (s.heap.push { cls := .type "tuple_iterator", data := .fields #[.ref a, .int 0 0] }) (o := { cls := .type "enumerate", data := .fields #[.none, .bool false, .ref s.heap.objs.size, rawInt 0, .none, .none] }) rfl
    rw [sz] at q
    exact q
  exact ⟨⟨_, he, rfl⟩, h _ he ⟨_, Heap.get?_push_of_some _ (Heap.get?_push_size _ rfl), rfl, rfl⟩ (by rw [Heap.size_push, sz]) fun b o x => Heap.get?_push_of_some _ (Heap.get?_push_of_some _ x)⟩
theorem pi_enumT {X : Cx} {e : Expr} {ta : TA} {p pos tpos : Pos} {elts : List Expr} {kk : Nat} (hg : Gl X "enumerate") (hm : X.mg "enumerate" = none) (ha : PA X [e] ta) (hs : starEach [e] X.env = [(false, eval e X.env)] := by rfl) :
    PI X (.Tuple elts kk tpos) (.Call (.Name "enumerate" p) [e] [] pos) (iEnumT X.K ta) := by
  refine ⟨fun pins s σ H R I h => ?_⟩
  refine Call_ (ld_blt I hg hm boot_enumerate (PyProof.Rows.callWith_type1 (thn (ha.run pos pins s σ H _ I h) fun us s1 ⟨vs, H1, I1, r1, q1⟩ => ?_) hs rfl))
  obtain ⟨a, xs, ex, hq, q⟩ := q1
  subst ex
  cases r1 with
  | cons r rr =>
    cases rr
    cases r
    obtain ⟨its, rv, p', hz⟩ := I1.tuple hq
    obtain ⟨o1, ho1, _⟩ := id p'
    have la : (a : Nat) < s1.heap.objs.size := Heap.lt_size ho1
    refine call_enumerate_tup p' fun h' he hit hsz hk => wpAny_pyIter_enum he ?_
    have I2 : Inv X pins σ H1 { s1 with heap := h' } := I1.kept (t' := s1.toks) hk
    refine ⟨s1.heap.objs.size + 1, [s1.heap.objs.size + 1, s1.heap.objs.size], _, _, H1, rfl, I2, turn_enumT a (s1.heap.objs.size + 1) s1.heap.objs.size, ⟨⟨.none, he⟩, hit, Nat.succ_ne_self _, Nat.ne_of_lt la, fun z => absurd (z ▸ la : (s1.heap.objs.size + 1 : Nat) < s1.heap.objs.size) (by omega)⟩, fun b hb => ?_, q⟩
    have e' : b = s1.heap.objs.size + 1 ∨ b = s1.heap.objs.size := by simpa using hb
    have hle : s1.heap.objs.size ≤ b := by
      rcases e' with z | z
      · rw [z]; exact Nat.le_add_right _ _
      · rw [z]; exact Nat.le_refl _
    exact I1.fpOk hle (I1.hok.fresh hle)
end K17

namespace K17
open PySem L2
abbrev sPlan : Stmt := top 54
/-- a drawn plan: names, ways, who takes -/
structure Three (ws ys : List Str) (bs : List Bool) : Prop where
  one : 1 ≤ ws.length
  four : ws.length ≤ 4
  ly : ys.length = ws.length
  lb : bs.length = ws.length
  nd : ws.Nodup
  nm : ∀ x ∈ ws, IsNm x
  wy : ∀ y ∈ ys, y ∈ ways4
structure PlanAt (H : Hp) (j d : Addr) (ws ys : List Str) (bs : List Bool) : Prop where
  ex : ∃ p1 p2 p3 : Addr, d ≠ j ∧ p1 ≠ j ∧ p2 ≠ j ∧ p3 ≠ j ∧ H d = some (.dK [(.inr "names", .ref p1), (.inr "ways", .ref p2), (.inr "takes", .ref p3)]) ∧
    H p1 = some (.lst (ws.map V.str)) ∧ H p2 = some (.lst (ys.map V.str)) ∧ H p3 = some (.lst (bs.map V.bl))
theorem PlanAt.keep {H H' : Hp} {j d : Addr} {ws ys : List Str} {bs : List Bool} (h : PlanAt H j d ws ys bs) (k : Keep j H H') : PlanAt H' j d ws ys bs := by
  obtain ⟨p1, p2, p3, n0, n1, n2, n3, e0, e1, e2, e3⟩ := h.ex
  exact ⟨p1, p2, p3, n0, n1, n2, n3, k _ _ n0 e0, k _ _ n1 e1, k _ _ n2 e2, k _ _ n3 e3⟩
section
variable {base : Heap} {P : Program} {w : World} {K : PySem.W.Frag} {mg : Str → Option Value}
def spPlan : Sp := fun vs H Q _ => ∃ (j : Addr) (n m : Nat), vs = [.ref j, .int m] ∧ Jar H j n ∧ n ≤ 7000 ∧ 1 ≤ m ∧ m ≤ 4 ∧
  ∀ (d : Addr) (H' : Hp) (ws ys : List Str) (bs : List Bool), H d = none → (∀ p1 p2 p3 : Addr, H' d = some (.dK [(.inr "names", .ref p1), (.inr "ways", .ref p2), (.inr "takes", .ref p3)]) → H p2 = none ∧ p1 ≠ p2) → Three ws ys bs → Jar H' j (n + 30) → Keep j H H' → PlanAt H' j d ws ys bs → Q (.ref d) H'
abbrev nPlan : List Str := ["_law_jar_here", "_law_most", "_law_names_here", "_law_ways", "_law_name"]
theorem scPlan : FnScope nPlan ["_law_jar_here", "_law_most"] (defScope sPlan) := ⟨rfl, rfl, rfl, by decide +kernel, rfl, by decide +kernel, by decide +kernel⟩
theorem way_of {y : V} (h : y ∈ ([.str "fresh", .str "once", .str "handed", .str "kept"] : List V)) : ∃ z : Str, y = .str z ∧ z ∈ ways4 := by
  have e : ([.str "fresh", .str "once", .str "handed", .str "kept"] : List V) = ways4.map V.str := rfl
  rw [e] at h
  (obtain ⟨z, hz, rfl⟩ := List.mem_map.mp h)
  exact ⟨z, rfl, hz⟩
theorem merge3 (a b c : V) : mergeK [] [(.inr "names", a), (.inr "ways", b), (.inr "takes", c)] = [(.inr "names", a), (.inr "ways", b), (.inr "takes", c)] := rfl
theorem ok_plan {f : Addr} {fd : FuncData} (F : Fun K "_law_plan" "_law_plan" sPlan f fd) (GN : Has P w K mg base "_law_names" 3 ["_law_jar_here", "_law_many"] spNames) (G : jarTake P w K mg base) (GO : jarOf P w K mg base) : FnOk P w K mg base CX0 4 f fd ["_law_jar_here", "_law_most"] spPlan := by
  refine F.ok scPlan (fun vs H Q E h => ?_) (fun cdv A outer s H vs Q E hr h => ?_)
  · obtain ⟨j, n, m, rfl, _⟩ := h
    rfl
  · obtain ⟨j, n, m, rfl, hj, hn, m1, m4, k⟩ := h
    have hr2 : Room 2 _ := (hr.mono (by decide))
    have hr1 : Room 1 _ := (hr.mono (by decide))
    refine ⟨_, pss_cons (ps_set (i := 2) scPlan.nd rfl (.inl rfl) (pe_has GN hr (pa_cons (pv 0) (pa_cons (pe_op op_add pe_int (pe_has G hr1 (pa_cons (pv 0) (pa_cons (pv 1) pa_nil)))) pa_nil))))
      (pss_cons (ps_setLc (i := 3) (own := [("_law_name", 4)]) (g := gName 4) (tt := tYes) rfl scPlan.nd rfl rfl rfl (pi_list (pv 2))
          (blkOk_by (N := nPlan) (sc := defScope sPlan) (by decide +kernel)) (fun _ _ _ _ _ => pg_name (i := 4) scPlan.nd rfl (Or.inl rfl)) (fun _ _ _ _ _ => pts_nil)
          (fun _ _ _ _ _ => pe_has GO hr2 (pa_cons (pv 0) (pa_cons (pe_lst (pa_cons pe_str (pa_cons pe_str (pa_cons pe_str (pa_cons pe_str pa_nil))))) pa_nil))))
      (pss_one (ps_ret (pe_disp (pps_cons pe_str (pv 2) (pps_cons pe_str (pv 3) (pps_cons pe_str
          (pe_lc (own := [("_law_name", 4)]) (g := gName 4) (tt := tYes) rfl scPlan.nd (pi_list (pv 2))
            (blkOk_by (N := nPlan) (sc := defScope sPlan) (by decide +kernel)) (fun _ _ _ _ _ => pg_name (i := 4) scPlan.nd rfl (Or.inl rfl)) (fun _ _ _ _ _ => pts_nil)
            (fun _ _ _ _ _ => pe_cmpR op_eq (pe_has G hr1 (pa_cons (pv 0) (pa_cons pe_int pa_nil))) pe_int (nomark _))) pps_nil))) rfl rfl (by simp) (by decide))))), ?_⟩
    refine ⟨.ref j, rfl, .ref j, rfl, .int m, rfl, j, m, n, rfl, hj, by omega, by omega, by omega, fun d0 H1 z0 z1 hj1 kp1 => ?_⟩
    obtain ⟨d, rfl⟩ := Int.eq_ofNat_of_zero_le z0
    refine ⟨_, _, rfl, rfl, j, n + 1, 1 + d, ?_, hj1, by omega, by omega, fun p1 H2 ws lw nd_ nm hj2 kp2 f1 e1 => ?_⟩
    · show [V.ref j, V.int (1 + (d : Int))] = [V.ref j, V.int ((1 + d : Nat) : Int)]
      rw [Int.natCast_add]
      rfl
    have np1 : p1 ≠ j := kp1 |> fun _ => hj1.ne f1
    have kp2' := kp1.trans kp2
    have hj2' : Jar H2 j (n + 11) := hj2.mono (by omega)
    dsimp only [tAsg, tLc, iList, List.map]
    refine ⟨_, rfl, p1, rfl, ⟨_, SqL.of e1⟩, fun p2 nP2 => ?_⟩
    have np2 := hj2.ne nP2
    have np21 : p2 ≠ p1 := fun e => by
      rw [e, e1] at nP2
      cases nP2
    have lw' : ws.length ≤ 4 := by omega
    refine lc_list (xs := ws.map V.str) (fun i H3 => ∃ ys : List Str, ys.length = i ∧ (∀ y ∈ ys, y ∈ ways4) ∧ H3 p2 = some (.lst (ys.map V.str)) ∧ H3 p1 = some (.lst (ws.map V.str)) ∧ Jar H3 j (n + 11 + i) ∧ Keep j H H3 ∧ i ≤ 4)
      ⟨[], rfl, (fun c hc => (List.not_mem_nil hc).elim), upd_same, by rw [upd_ne np21.symm]; exact e1, hj2'.upd np2, kp2'.upd_new (kp2'.free nP2 np2), by decide⟩ (fun i H3 _ ⟨_, _, _, _, q, _⟩ => SqL.of q) ?_ ?_
    · rintro i x H3 hx ⟨ys, ly, wy, hp2, hp1, hj3, kp3, i4⟩
      have ilt : i < ws.length := by
        have := (List.getElem?_eq_some_iff.mp hx).1
        rwa [List.length_map] at this
      refine ⟨rfl, .ref j, rfl, (by show 4 ≤ sizeLine; decide), fun q nq => ?_⟩
      have nqj := hj3.ne nq
      refine ⟨j, n + 11 + i, .ref q, rfl, hj3.upd nqj, by omega, .inl ⟨q, _, rfl, nqj, SqL.of upd_same, by decide, by decide, fun y H4 hy hj4 kp4 => ?_⟩⟩
      obtain ⟨z, rfl, hz⟩ := way_of hy
      have kq : Keep j H3 H4 := (Keep.new nq).trans kp4
      have a2 := kq _ _ np2 hp2
      have a1 := kq _ _ np1 hp1
      refine ⟨_, a2, by rw [List.length_map]; exact small1000 (by omega), ys ++ [z], by rw [List.length_append, ly]; rfl, fun u hu => ?_, ?_, ?_, hj4.upd np2, ?_, by omega⟩
      · rcases List.mem_append.mp hu with hu | hu
        · exact wy u hu
        · rw [List.mem_singleton.mp hu]
          exact hz
      · rw [upd_same, List.map_append]
        rfl
      · rw [upd_ne np21.symm]
        exact a1
      · exact (kp3.trans kq).upd_new (kp2'.free nP2 np2)
    · rintro H3 ⟨ys, ly, wy, hp2, hp1, hj3, kp3, i4⟩
      rw [List.length_map] at ly hj3 i4
      refine fun dd nd => ?_
      have ndj := hj3.ne nd
      have nd1 : dd ≠ p1 := fun e => by
        rw [e, hp1] at nd
        cases nd
      have nd2 : dd ≠ p2 := fun e => by
        rw [e, hp2] at nd
        cases nd
      refine ⟨.ref p1, rfl, .ref p2, rfl, ?_⟩
      refine ⟨_, rfl, p1, rfl, ⟨_, SqL.of (by rw [upd_ne nd1.symm]; exact hp1)⟩, fun p3 nP3 => ?_⟩
      have hjd : Jar (upd H3 dd (.dK [])) j (n + 11 + ws.length) := hj3.upd ndj
      have np3 := hjd.ne nP3
      have np31 : p3 ≠ p1 := fun e => by
        rw [e, upd_ne nd1.symm, hp1] at nP3
        cases nP3
      have np32 : p3 ≠ p2 := fun e => by
        rw [e, upd_ne nd2.symm, hp2] at nP3
        cases nP3
      have np3d : p3 ≠ dd := fun e => by
        rw [e, upd_same] at nP3
        cases nP3
      have kpd : Keep j H (upd H3 dd (.dK [])) := kp3.upd_new (kp3.free nd ndj)
      refine lc_list (xs := ws.map V.str) (fun i H4 => ∃ bs : List Bool, bs.length = i ∧ H4 p3 = some (.lst (bs.map V.bl)) ∧ H4 p2 = some (.lst (ys.map V.str)) ∧ H4 p1 = some (.lst (ws.map V.str)) ∧ H4 dd = some (.dK []) ∧ Jar H4 j (n + 15 + i) ∧ Keep j H H4 ∧ i ≤ 4)
        ⟨[], rfl, upd_same, by rw [upd_ne np32.symm, upd_ne nd2.symm]; exact hp2, by rw [upd_ne np31.symm, upd_ne nd1.symm]; exact hp1, by rw [upd_ne np3d.symm, upd_same], (hjd.upd np3).mono (by omega), kpd.upd_new (kpd.free nP3 np3), by decide⟩ (fun i H4 _ ⟨_, _, _, _, q, _⟩ => SqL.of q) ?_ ?_
      · rintro i x H4 hx ⟨bs, lb, hp3, hp2', hp1', hpd, hj4, kp4, i4'⟩
        have ilt : i < ws.length := by
          have := (List.getElem?_eq_some_iff.mp hx).1
          rwa [List.length_map] at this
        refine ⟨rfl, .ref j, rfl, j, 3, n + 15 + i, rfl, hj4, by omega, by decide, by decide, fun d H5 d0 d1 hj5 kp5 => ?_⟩
        refine ⟨rfl, _, kp5 _ _ np3 hp3, by rw [List.length_map]; exact small1000 (by omega), bs ++ [decide (V.int d = V.int 0)], by rw [List.length_append, lb]; rfl, ?_, ?_, ?_, ?_, ?_, ?_, by omega⟩
        · rw [upd_same, List.map_append]
          rfl
        · rw [upd_ne np32.symm]
          exact kp5 _ _ np2 hp2'
        · rw [upd_ne np31.symm]
          exact kp5 _ _ np1 hp1'
        · rw [upd_ne np3d.symm]
          exact kp5 _ _ ndj hpd
        · exact (hj5.upd np3).mono (by omega)
        · exact (kp4.trans kp5).upd_new (kpd.free nP3 np3)
      · rintro H4 ⟨bs, lb, hp3, hp2', hp1', hpd, hj4, kp4, i4'⟩
        rw [List.length_map] at lb hj4 i4'
        refine ⟨hpd, [(.inr "names", .ref p1), (.inr "ways", .ref p2), (.inr "takes", .ref p3)], rfl, (by show 3 ≤ 15; decide), ?_⟩
        rw [merge3]
        have ddn := kp3.free nd ndj
        refine k dd _ ws ys bs ddn (fun q1 q2 q3 z => by
          rw [upd_same] at z
          cases z
          exact ⟨kp2'.free nP2 np2, np21.symm⟩) ⟨by omega, by omega, ly, lb, nd_, nm, wy⟩ ((hj4.upd ndj).mono (by omega)) (kp4.upd_new ddn) ⟨p1, p2, p3, ndj, np1, np2, np3, upd_same, ?_, ?_, ?_⟩
        · rw [upd_ne nd1.symm]
          exact hp1'
        · rw [upd_ne nd2.symm]
          exact hp2'
        · rw [upd_ne np3d]
          exact hp3
end
end K17

namespace K17
open PySem L2
abbrev sPLines : Stmt := top 55
/-! ### the lines of a drawn plan -/
def lineOf (w y : Str) (b : Bool) : Str := ((((("part " : Str) ++ w) ++ (" " : Str)) ++ y) ++ (if b = true then (" takes" : Str) else ⟨#[]⟩))
def drawn : List Str → List Str → List Bool → List Str
  | w :: ws, y :: ys, b :: bs => lineOf w y b :: drawn ws ys bs
  | _, _, _ => []
theorem drawn_at : ∀ {ws ys : List Str} {bs : List Bool} {j : Nat} {w y : Str} {b : Bool}, ws[j]? = some w → ys[j]? = some y → bs[j]? = some b → (drawn ws ys bs)[j]? = some (lineOf w y b)
  | w :: ws, y :: ys, b :: bs, 0, _, _, _, h1, h2, h3 => by
    cases h1
    cases h2
    cases h3
    rfl
  | w :: ws, y :: ys, b :: bs, j + 1, _, _, _, h1, h2, h3 => drawn_at (j := j) (ws := ws) (ys := ys) (bs := bs) h1 h2 h3
  | [], _, _, _, _, _, _, h, _, _ => nomatch h
  | _ :: _, [], _, _, _, _, _, _, h, _ => nomatch h
  | _ :: _, _ :: _, [], _, _, _, _, _, _, h => nomatch h
theorem drawn_len : ∀ {ws ys : List Str} {bs : List Bool}, ys.length = ws.length → bs.length = ws.length → (drawn ws ys bs).length = ws.length
  | [], _, _, _, _ => rfl
  | w :: ws, y :: ys, b :: bs, h1, h2 => congrArg (· + 1) (drawn_len (ws := ws) (ys := ys) (bs := bs) (Nat.succ.inj h1) (Nat.succ.inj h2))
  | _ :: _, [], _, h, _ => nomatch h
  | _ :: _, _ :: _, [], _, h => nomatch h
/-- a text as often as a bit tells -/
def rSB : R2 := fun x y H Q => ∃ (z : Str) (k : Bool), x = .str z ∧ y = .int (if k = true then 1 else 0) ∧ z.length ≤ 1000 ∧ Q (.str (if k = true then z else ⟨#[]⟩)) H
theorem op_strBit {X : Cx} : OpR X (binaryOp .Mult) rSB := by
  (intro pins s σ H x y v u Q I rx ry h)
  obtain ⟨z, k, rfl, rfl, hz, q⟩ := h
  obtain ⟨t, rfl⟩ := rx
  obtain ⟨t', rfl⟩ := ry
  cases k with
  | true =>
    refine PySem.P.mul_str (by decide) (fun _ c => by simp at c) (fun _ _ => ?_) ?_
    · have e : (sizeLine : Nat) = 16777216 := by decide
      exact decide_eq_false (show ¬ (z.length * 1 > sizeLine) by omega)
    · exact ⟨.str z, H, I, ⟨t, rfl⟩, q⟩
  | false =>
    exact PySem.P.mul_str_none (by decide) (by decide) ⟨.str ⟨#[]⟩, H, I.tok _, ⟨_, rfl⟩, q⟩
structure Txt5 (K : PySem.W.Frag) (mg : Str → Option Value) : Prop extends Txt4 K mg where
  list : mg "list" = none
  zip : mg "zip" = none
section
variable {base : Heap} {P : Program} {w : World} {K : PySem.W.Frag} {mg : Str → Option Value}
def spPLines : Sp := fun vs H Q _ => ∃ (j d : Addr) (ws ys : List Str) (bs : List Bool), vs = [.ref d] ∧ PlanAt H j d ws ys bs ∧ Three ws ys bs ∧
  ∀ H' p, Same H H' → H p = none → H' p = some (.lst ((drawn ws ys bs).map V.str)) → Q (.ref p) H'
abbrev nPLines : List Str := ["_law_plan_here", "_law_rows", "_law_name", "_law_way", "_law_takes"]
theorem scPLines : FnScope nPLines ["_law_plan_here"] (defScope sPLines) := ⟨rfl, rfl, rfl, by decide +kernel, rfl, by decide +kernel, by decide +kernel⟩
theorem units1 {k : Nat} {A : Around} (hr : Room k A) : A.units + 1 < cLine := by
  have := units65 hr
  omega
theorem ok_plines {f : Addr} {fd : FuncData} (F : Fun K "_law_plan_lines" "_law_plan_lines" sPLines f fd) (T : Txt5 K mg) : FnOk P w K mg base CX0 1 f fd ["_law_plan_here"] spPLines := by
  refine F.ok scPLines (fun vs H Q E h => ?_) (fun cdv A outer s H vs Q E hr h => ?_)
  · obtain ⟨j, d, ws, ys, bs, rfl, _⟩ := h
    rfl
  · obtain ⟨j, d, ws, ys, bs, rfl, pa, th, k⟩ := h
    refine ⟨_, pss_cons (ps_set (i := 1) scPLines.nd rfl (.inl rfl) (pe_listZip3 rfl (pa_cons (pe_dget (units1 hr) (pv 0) pe_str (fun _ _ => rfl)) (pa_cons (pe_dget (units1 hr) (pv 0) pe_str (fun _ _ => rfl)) (pa_cons (pe_dget (units1 hr) (pv 0) pe_str (fun _ _ => rfl)) pa_nil)))
        (by rfl) T.list (by rfl) T.zip (by decide +kernel)))
      (pss_one (ps_ret (pe_lc (own := [("_law_name", 2), ("_law_way", 3), ("_law_takes", 4)]) (g := gTup K 3 (gCons (gName 2) (gCons (gName 3) (gCons (gName 4) gNil)))) (tt := tYes) rfl scPLines.nd (pi_list (pv 1))
          (blkOk_by (N := nPLines) (sc := defScope sPLines) (by decide +kernel)) (fun _ _ _ _ _ => pg_tup rfl (pgs_cons (pg_name (i := 2) scPLines.nd rfl (Or.inl rfl)) (pgs_cons (pg_name (i := 3) scPLines.nd rfl (Or.inl rfl)) (pgs_cons (pg_name (i := 4) scPLines.nd rfl (Or.inl rfl)) pgs_nil)))) (fun _ _ _ _ _ => pts_nil)
          (fun _ _ _ _ _ => pe_op op_add_str (pe_op op_add_str (pe_op op_add_str (pe_op op_add_str pe_str (pv 2)) pe_str) (pv 3)) (pe_op op_strBit pe_str (pe_callTy call_int1 (by rfl) T.int (by decide +kernel) (pa_cons (pv 4) pa_nil))))))), ?_⟩
    obtain ⟨p1, p2, p3, n0, n1, n2, n3, e0, e1, e2, e3⟩ := pa.ex
    refine ⟨V.ref d, rfl, d, _, rfl, .inl ⟨_, .inr "names", .inl e0, rfl, rfl⟩, V.ref d, rfl, d, _, rfl, .inl ⟨_, .inr "ways", .inl e0, rfl, rfl⟩, V.ref d, rfl, d, _, rfl, .inl ⟨_, .inr "takes", .inl e0, rfl, rfl⟩, ?_⟩
    refine ⟨p1, p2, p3, _, _, _, rfl, e1, e2, e3, by rw [List.length_map, List.length_map, th.ly], by rw [List.length_map, List.length_map, th.lb], fun H1 p ts s1 np nts pts hp tri => ?_⟩
    have four := th.four
    dsimp only [tCons, List.map]
    refine ⟨.ref p, rfl, p, rfl, ⟨_, SqL.of hp⟩, fun D nD => ?_⟩
    have nDp : D ≠ p := fun e => by
      rw [e, hp] at nD
      cases nD
    have ld := drawn_len th.ly th.lb
    refine lc_list (xs := ts.map V.ref) (fun i H2 => Same H1 H2 ∧ i ≤ 4 ∧ H2 D = some (.lst (((drawn ws ys bs).take i).map V.str))) ⟨same_upd nD, by decide, upd_same⟩ (fun i H2 _ ⟨q, _⟩ => SqL.of (q _ _ hp)) ?_ ?_
    · rintro i x H2 hx ⟨s2, i4, hD⟩
      rw [List.getElem?_map] at hx
      obtain ⟨t, ht, rfl⟩ := Option.map_eq_some_iff.mp hx
      obtain ⟨x1, x2, x3, q1, q2, q3, q4⟩ := tri.2 i t ht
      rw [List.getElem?_map] at q1 q2 q3
      obtain ⟨w1, r1, rfl⟩ := Option.map_eq_some_iff.mp q1
      obtain ⟨y1, r2, rfl⟩ := Option.map_eq_some_iff.mp q2
      obtain ⟨b1, r3, rfl⟩ := Option.map_eq_some_iff.mp q3
      have da := drawn_at r1 r2 r3
      have ilt : i < ws.length := (List.getElem?_eq_some_iff.mp r1).1
      have nw := th.nm _ (List.mem_of_getElem? r1)
      have ly4 : y1.length ≤ 6 := by
        have hy := th.wy _ (List.mem_of_getElem? r2)
        have all : ∀ z ∈ ways4, z.length ≤ 6 := by decide +kernel
        exact all _ hy
      have lw8 := nw.len
      have l5 : ("part " : Str).length = 5 := by decide +kernel
      have l1 : (" " : Str).length = 1 := by decide +kernel
      have l6 : (" takes" : Str).length = 6 := by decide +kernel
      have sl : (sizeLine : Nat) = 16777216 := by decide
      refine ⟨t, _, rfl, SqT.of (s2 _ _ q4), rfl, .str w1, _, rfl, .str y1, _, rfl, .bl b1, _, rfl, rfl, ?_⟩
      refine ⟨rfl, _, rfl, _, _, rfl, rfl, by omega, _, _, rfl, rfl, by rw [Str.length_append]; omega, .str y1, rfl, _, _, rfl, rfl, by rw [Str.length_append, Str.length_append]; omega, .bl b1, rfl, .inr ⟨b1, rfl, _, b1, rfl, rfl, by omega, ?_⟩⟩
      have lb6 : (if b1 = true then (" takes" : Str) else ⟨#[]⟩).length ≤ 6 := by
        cases b1
        · exact Nat.zero_le _
        · exact Nat.le_of_eq l6
      refine ⟨_, _, rfl, rfl, by rw [Str.length_append, Str.length_append, Str.length_append]; omega, _, hD, by rw [List.length_map, List.length_take]; omega, same_new s2 nD, by omega, ?_⟩
      rw [upd_same, List.take_succ, da]
      show some (HO.lst (List.map V.str (List.take i (drawn ws ys bs)) ++ [V.str (lineOf w1 y1 b1)])) = _
      rw [List.map_append]
      rfl
    · rintro H2 ⟨s2, i4, hD⟩
      refine k H2 D (s1.trans s2) (s1.free nD) ?_
      rw [hD, List.take_of_length_le (by rw [List.length_map, tri.1, List.length_map, ld]; exact Nat.le_refl _)]
end
end K17

namespace K17
open PySem L2
/-- the jar at j, and all else as in H0 -/
def JK (H0 H : Hp) (j : Addr) (n : Nat) : Prop := Jar H j n ∧ Keep j H0 H
theorem JK.new {H0 H : Hp} {j p : Addr} {n : Nat} {o : HO} (h : JK H0 H j n) (hn : H p = none) : JK H0 (upd H p o) j n := ⟨h.1.upd (h.1.ne hn), h.2.upd_new (h.2.free hn (h.1.ne hn))⟩
theorem get_new {H : Hp} {p q : Addr} {o u : HO} (h : H q = some u) (hn : H p = none) : upd H p o q = some u := by
  rw [upd_ne (ne_of_none h hn)]
  exact h
theorem asc_cat {a b : Str} (ha : Asc a) (hb : Asc b) : Asc (a ++ b) := fun c hc => by
  have e : c ∈ TL.tl (a ++ b) := hc
  rw [TL.tl_append, List.mem_append] at e
  rcases e with e | e
  · exact ha c e
  · exact hb c e
/-! ### what the drawn lines tell -/
theorem wayB_of {y : Str} (h : y ∈ ways4) : wayB y = true := by
  have all : ∀ z ∈ ways4, wayB z = true := by decide +kernel
  exact all y h
def lineWords (w y : Str) (b : Bool) : List Str := if b = true then [wPart, w, y, wTakes] else [wPart, w, y]
theorem way_tx {y : Str} (h : y ∈ ways4) : ∀ c ∈ TL.tl y, Low c := by
  have all : ∀ z ∈ ways4, (TL.tl z).all (fun c => decide (97 ≤ c ∧ c ≤ 122)) = true := by decide +kernel
  exact fun c hc => show 97 ≤ c ∧ c ≤ 122 from of_decide_eq_true (List.all_eq_true.mp (all y h) c hc)
theorem lit_low {z : Str} (h : (TL.tl z).all (fun c => decide (97 ≤ c ∧ c ≤ 122)) = true) : ∀ c ∈ TL.tl z, Low c := fun c hc => show 97 ≤ c ∧ c ≤ 122 from of_decide_eq_true (List.all_eq_true.mp h c hc)
theorem words_low {w y : Str} {b : Bool} (hw : IsNm w) (hy : y ∈ ways4) : ∀ p ∈ lineWords w y b, ∀ c ∈ TL.tl p, Low c := by
  intro p hp
  have l1 : ∀ c ∈ TL.tl wPart, Low c := lit_low (by decide +kernel)
  have l2 : ∀ c ∈ TL.tl wTakes, Low c := lit_low (by decide +kernel)
  unfold lineWords at hp
  split at hp
  · simp only [List.mem_cons, List.not_mem_nil, or_false] at hp
    rcases hp with rfl | rfl | rfl | rfl
    · exact l1
    · exact hw.low
    · exact way_tx hy
    · exact l2
  · simp only [List.mem_cons, List.not_mem_nil, or_false] at hp
    rcases hp with rfl | rfl | rfl
    · exact l1
    · exact hw.low
    · exact way_tx hy
theorem line_join (w y : Str) (b : Bool) : lineOf w y b = Txt.join blank (lineWords w y b) := by
  refine TL.ext_tl ?_
  rw [TL.join_eq, TL.tl_join]
  have e1 : TL.tl ("part " : Str) = TL.tl wPart ++ TL.tl blank := by decide +kernel
  have e2 : TL.tl (" takes" : Str) = TL.tl blank ++ TL.tl wTakes := by decide +kernel
  have e3 : TL.tl (" " : Str) = TL.tl blank := by decide +kernel
  unfold lineOf lineWords
  cases b
  · rw [if_neg Bool.false_ne_true, if_neg Bool.false_ne_true]
    rw [TL.tl_append, TL.tl_append, TL.tl_append, TL.tl_append, e1, e3]
    show _ ++ [] = TL.tl wPart ++ (TL.tl blank ++ (TL.tl w ++ (TL.tl blank ++ TL.tl y)))
    simp only [List.append_assoc, List.append_nil]
  · rw [if_pos rfl, if_pos rfl]
    rw [TL.tl_append, TL.tl_append, TL.tl_append, TL.tl_append, e1, e2, e3]
    show _ = TL.tl wPart ++ (TL.tl blank ++ (TL.tl w ++ (TL.tl blank ++ (TL.tl y ++ (TL.tl blank ++ TL.tl wTakes)))))
    simp only [List.append_assoc]
theorem line_words {w y : Str} {b : Bool} (hw : IsNm w) (hy : y ∈ ways4) : wordsOf (lineOf w y b) = lineWords w y b := by
  unfold wordsOf
  rw [line_join]
  refine TL.split_join (s := 32) (S := []) (by decide +kernel) (by decide +kernel) (by unfold lineWords; split <;> simp) fun p hp hc => ?_
  have := words_low hw hy p hp 32 hc
  exact absurd this.1 (by decide)
theorem line_part {w y : Str} {b : Bool} (hw : IsNm w) (hy : y ∈ ways4) : partOf (wordsOf (lineOf w y b)) = some (w, y, b) := by
  rw [line_words hw hy]
  have n := nameB_of hw
  have v := wayB_of hy
  unfold lineWords
  cases b
  · rw [if_neg Bool.false_ne_true]
    have e : partOf [wPart, w, y] = some (w, y, decide (([] : List Str) = [wTakes])) := if_pos ⟨rfl, n, v, .inl rfl⟩
    rw [e]
    simp
  · rw [if_pos rfl]
    have e : partOf [wPart, w, y, wTakes] = some (w, y, decide ([wTakes] = [wTakes])) := if_pos ⟨rfl, n, v, .inr rfl⟩
    rw [e]
    simp
def rowsOf : List Str → List Str → List Bool → List Row
  | w :: ws, y :: ys, b :: bs => (w, y, b) :: rowsOf ws ys bs
  | _, _, _ => []
theorem rows_read : ∀ (ws ys : List Str) (bs : List Bool) (k : Nat) (acc : List Row), ys.length = ws.length → bs.length = ws.length → k + ws.length ≤ 4 → (∀ x ∈ ws, IsNm x) → (∀ y ∈ ys, y ∈ ways4) → ws.Nodup → (∀ x ∈ ws, x ∉ acc.map (fun r : Row => r.1)) →
    readR k acc (drawn ws ys bs) = .inr (acc ++ rowsOf ws ys bs)
  | [], _, _, _, acc, _, _, _, _, _, _, _ => by
    show Sum.inr acc = Sum.inr (acc ++ [])
    rw [List.append_nil]
  | w :: ws, y :: ys, b :: bs, k, acc, h1, h2, h3, h4, h5, h6, h7 => by
    have e := line_part (b := b) (h4 w List.mem_cons_self) (h5 y List.mem_cons_self)
    have l3 : k + (ws.length + 1) ≤ 4 := h3
    show (match partOf (wordsOf (lineOf w y b)) with | none => Sum.inl k | some p => if k = 4 ∨ p.1 ∈ acc.map (·.1) then Sum.inl k else readR (k + 1) (acc ++ [p]) (drawn ws ys bs) : Sum Nat (List Row)) = _
    rw [e]
    show (if k = 4 ∨ w ∈ acc.map (fun r : Row => r.1) then Sum.inl k else readR (k + 1) (acc ++ [(w, y, b)]) (drawn ws ys bs) : Sum Nat (List Row)) = _
    rw [if_neg (fun z => by
      rcases z with z | z
      · omega
      · exact h7 w List.mem_cons_self z)]
    have nd := List.nodup_cons.mp h6
    rw [rows_read ws ys bs (k + 1) (acc ++ [(w, y, b)]) (Nat.succ.inj h1) (Nat.succ.inj h2) (by omega) (fun x hx => h4 x (List.mem_cons_of_mem _ hx)) (fun x hx => h5 x (List.mem_cons_of_mem _ hx)) nd.2 (fun x hx z => ?_)]
    · show Sum.inr (acc ++ [(w, y, b)] ++ rowsOf ws ys bs) = Sum.inr (acc ++ (w, y, b) :: rowsOf ws ys bs)
      rw [List.append_assoc]
      rfl
    · rw [List.map_append, List.mem_append] at z
      rcases z with z | z
      · exact h7 x (List.mem_cons_of_mem _ hx) z
      · have z' : x = w := List.mem_singleton.mp z
        exact nd.1 (by rw [← z']; exact hx)
  | _ :: _, [], _, _, _, h, _, _, _, _, _, _ => nomatch h
  | _ :: _, _ :: _, [], _, _, _, h, _, _, _, _, _ => nomatch h
theorem rows_cols : ∀ (ws ys : List Str) (bs : List Bool), ys.length = ws.length → bs.length = ws.length → (rowsOf ws ys bs).map (fun r => V.str r.1) = ws.map V.str ∧ (rowsOf ws ys bs).map (fun r => V.str r.2.1) = ys.map V.str ∧ (rowsOf ws ys bs).map (fun r => V.bl r.2.2) = bs.map V.bl
  | [], [], [], _, _ => ⟨rfl, rfl, rfl⟩
  | w :: ws, y :: ys, b :: bs, h1, h2 => by
    obtain ⟨a1, a2, a3⟩ := rows_cols ws ys bs (Nat.succ.inj h1) (Nat.succ.inj h2)
    exact ⟨congrArg (V.str w :: ·) a1, congrArg (V.str y :: ·) a2, congrArg (V.bl b :: ·) a3⟩
  | _ :: _, [], _, h, _ => nomatch h
  | _ :: _, _ :: _, [], _, h => nomatch h
  | [], _ :: _, _, h, _ => nomatch h
  | [], [], _ :: _, _, h => nomatch h
/-! ### the drawn text -/
theorem drawn_mem : ∀ {ws ys : List Str} {bs : List Bool} {l : Str}, l ∈ drawn ws ys bs → ∃ w y b, w ∈ ws ∧ y ∈ ys ∧ l = lineOf w y b
  | w :: ws, y :: ys, b :: bs, l, h => by
    (rcases List.mem_cons.mp h with rfl | h)
    · exact ⟨w, y, b, List.mem_cons_self, List.mem_cons_self, rfl⟩
    · obtain ⟨w', y', b', h1, h2, e⟩ := drawn_mem h
      exact ⟨w', y', b', List.mem_cons_of_mem _ h1, List.mem_cons_of_mem _ h2, e⟩
  | [], _, _, _, h => nomatch h
  | _ :: _, [], _, _, h => nomatch h
  | _ :: _, _ :: _, [], _, h => nomatch h
theorem line_ok {w y : Str} {b : Bool} (hw : IsNm w) (hy : y ∈ ways4) : (lineOf w y b).length ≤ 50 ∧ Asc (lineOf w y b) ∧ 10 ∉ TL.tl (lineOf w y b) := by
  have ly : y.length ≤ 6 := by
    have all : ∀ z ∈ ways4, z.length ≤ 6 := by decide +kernel
    exact all y hy
  have lw := hw.len
  have l5 : ("part " : Str).length = 5 := by decide +kernel
  have l1 : (" " : Str).length = 1 := by decide +kernel
  have l6 : (" takes" : Str).length = 6 := by decide +kernel
  have lb : (if b = true then (" takes" : Str) else ⟨#[]⟩).length ≤ 6 := by
    cases b
    · exact Nat.zero_le _
    · exact Nat.le_of_eq l6
  have al : Asc (lineOf w y b) ∧ 10 ∉ TL.tl (lineOf w y b) := by
    have ch : ∀ c ∈ TL.tl (lineOf w y b), Low c ∨ c = 32 := by
      intro c hc
      rw [line_join, TL.join_eq, TL.tl_join] at hc
      have key : ∀ ps : List (List Nat), (∀ p ∈ ps, ∀ c ∈ p, Low c) → ∀ c ∈ TL.joinL (TL.tl blank) ps, Low c ∨ c = 32 := by
        intro ps
        induction ps with
        | nil => exact fun _ c hc => nomatch hc
        | cons p r ih =>
          intro h c hc
          cases r with
          | nil => exact .inl (h p List.mem_cons_self c hc)
          | cons q t =>
            have hc' : c ∈ p ++ (TL.tl blank ++ TL.joinL (TL.tl blank) (q :: t)) := hc
            rcases List.mem_append.mp hc' with hc' | hc'
            · exact .inl (h p List.mem_cons_self c hc')
            · rcases List.mem_append.mp hc' with hc' | hc'
              · have e : TL.tl blank = [32] := by decide +kernel
                rw [e] at hc'
                exact .inr (List.mem_singleton.mp hc')
              · exact ih (fun u hu => h u (List.mem_cons_of_mem _ hu)) c hc'
      refine key _ (fun p hp => ?_) c hc
      (obtain ⟨q, hq, rfl⟩ := List.mem_map.mp hp)
      exact words_low hw hy q hq
    refine ⟨fun c hc => ?_, fun hc => ?_⟩
    · rcases ch c hc with h | h
      · have := h.2
        omega
      · omega
    · rcases ch 10 hc with h | h
      · exact absurd h.1 (by decide)
      · exact absurd h (by decide)
  refine ⟨?_, al⟩
  unfold lineOf
  rw [Str.length_append, Str.length_append, Str.length_append, Str.length_append]
  omega
/-- texts joined by line feeds -/
def joined (ls : List Str) : Str := Txt.join nl ls
theorem joined_asc {ls : List Str} (h : ∀ l ∈ ls, Asc l) : Asc (joined ls) := by
  intro c hc
  have hc' : c ∈ TL.tl (Txt.join nl ls) := hc
  rw [TL.join_eq, TL.tl_join] at hc'
  have key : ∀ ps : List (List Nat), (∀ p ∈ ps, ∀ c ∈ p, c < 128) → ∀ c ∈ TL.joinL (TL.tl nl) ps, c < 128 := by
    intro ps
    induction ps with
    | nil => exact fun _ c hc => nomatch hc
    | cons p r ih =>
      intro h c hc
      cases r with
      | nil => exact h p List.mem_cons_self c hc
      | cons q t =>
        have hc' : c ∈ p ++ (TL.tl nl ++ TL.joinL (TL.tl nl) (q :: t)) := hc
        rcases List.mem_append.mp hc' with hc' | hc'
        · exact h p List.mem_cons_self c hc'
        · rcases List.mem_append.mp hc' with hc' | hc'
          · have e : TL.tl nl = [10] := by decide +kernel
            rw [e] at hc'
            rw [List.mem_singleton.mp hc']
            decide
          · exact ih (fun u hu => h u (List.mem_cons_of_mem _ hu)) c hc'
  refine key _ (fun p hp => ?_) c hc'
  (obtain ⟨q, hq, rfl⟩ := List.mem_map.mp hp)
  exact h q hq
theorem joined_len {ls : List Str} {m n : Nat} (hl : ls.length ≤ n) (h : ∀ l ∈ ls, l.length ≤ m) : (joined ls).length ≤ n * (m + 1) := by
  have e : (joined ls).length = (TL.joinL (TL.tl nl) (ls.map TL.tl)).length := by
    rw [← TL.tl_join, ← TL.join_eq]
    show (Txt.join nl ls).cps.size = (Txt.join nl ls).cps.toList.length
    simp
  have key : ∀ ps : List (List Nat), (∀ p ∈ ps, p.length ≤ m) → (TL.joinL (TL.tl nl) ps).length ≤ ps.length * (m + 1) := by
    intro ps
    induction ps with
    | nil => exact fun _ => Nat.zero_le _
    | cons p r ih =>
      intro h
      cases r with
      | nil =>
        have := h p List.mem_cons_self
        show p.length ≤ 1 * (m + 1)
        omega
      | cons q t =>
        have a := h p List.mem_cons_self
        have b := ih fun u hu => h u (List.mem_cons_of_mem _ hu)
        have en : (TL.tl nl).length = 1 := by decide +kernel
        show (p ++ (TL.tl nl ++ TL.joinL (TL.tl nl) (q :: t))).length ≤ ((q :: t).length + 1) * (m + 1)
        rw [List.length_append, List.length_append, en, Nat.add_mul]
        omega
  rw [e]
  refine Nat.le_trans (key _ fun p hp => ?_) ?_
  · obtain ⟨q, hq, rfl⟩ := List.mem_map.mp hp
    have := h q hq
    have e2 : (TL.tl q).length = q.length := by
      show q.cps.toList.length = q.cps.size
      simp
    omega
  · rw [List.length_map]
    exact Nat.mul_le_mul_right _ hl
theorem drawn_lines {ws ys : List Str} {bs : List Bool} (t : Three ws ys bs) : linesOf (joined (drawn ws ys bs)) = drawn ws ys bs := by
  unfold linesOf joined
  refine TL.split_join (s := 10) (S := []) (by decide +kernel) (by decide +kernel) (fun e => ?_) fun p hp => ?_
  · have l := drawn_len t.ly t.lb
    rw [e] at l
    have := t.one
    rw [← l] at this
    exact absurd this (by decide)
  · obtain ⟨w, y, b, h1, h2, rfl⟩ := drawn_mem hp
    exact (line_ok (t.nm w h1) (t.wy y h2)).2.2
theorem drawn_read {ws ys : List Str} {bs : List Bool} (t : Three ws ys bs) : readR 0 [] (linesOf (joined (drawn ws ys bs))) = .inr (rowsOf ws ys bs) := by
  rw [drawn_lines t, rows_read ws ys bs 0 [] t.ly t.lb (by have := t.four; omega) t.nm t.wy t.nd (fun _ _ h => nomatch h)]
  rfl
theorem drawn_text {ws ys : List Str} {bs : List Bool} (t : Three ws ys bs) : (joined (drawn ws ys bs)).length ≤ 204 ∧ Asc (joined (drawn ws ys bs)) := by
  have ok : ∀ l ∈ drawn ws ys bs, l.length ≤ 50 ∧ Asc l := fun l hl => by
    obtain ⟨w, y, b, h1, h2, rfl⟩ := drawn_mem hl
    have := line_ok (b := b) (t.nm w h1) (t.wy y h2)
    exact ⟨this.1, this.2.1⟩
  refine ⟨?_, joined_asc fun l hl => (ok l hl).2⟩
  exact joined_len (n := 4) (m := 50) (by rw [drawn_len t.ly t.lb]; exact t.four) fun l hl => (ok l hl).1
end K17

namespace K17
open PySem L2
def MadeAt (H : Hp) (C m : Addr) (z : Str) (rows : List Row) : Prop := ∃ dx a b c : Addr, H m = some (.ins C dx (pf z a b c)) ∧ TupD H a (rows.map fun r => V.str r.1) ∧ TupD H b (rows.map fun r => V.str r.2.1) ∧ TupD H c (rows.map fun r => V.bl r.2.2)
theorem MadeAt.same {H H' : Hp} {C m : Addr} {z : Str} {rows : List Row} (h : MadeAt H C m z rows) (s : Same H H') : MadeAt H' C m z rows := by
  obtain ⟨dx, a, b, c, e0, e1, e2, e3⟩ := h
  exact ⟨dx, a, b, c, s _ _ e0, e1.same s, e2.same s, e3.same s⟩
theorem not_jar {H : Hp} {j x : Addr} {n : Nat} {o : HO} (hj : Jar H j n) (h : H x = some o) (no : ∀ xs, o ≠ .lst xs) : x ≠ j := fun e => by
  obtain ⟨a, b, c, q, _⟩ := hj
  rw [e, q] at h
  exact no _ (Option.some.inj h).symm
theorem TupD.ne_jar {H : Hp} {j p : Addr} {n : Nat} {xs : List V} (h : TupD H p xs) (hj : Jar H j n) : p ≠ j := by
  obtain ⟨o, e, _⟩ := h
  exact not_jar hj e (fun _ q => nomatch q)
theorem MadeAt.keep {H H' : Hp} {C m j : Addr} {n : Nat} {z : Str} {rows : List Row} (h : MadeAt H C m z rows) (hj : Jar H j n) (k : Keep j H H') : MadeAt H' C m z rows := by
  obtain ⟨dx, a, b, c, e0, e1, e2, e3⟩ := h
  exact ⟨dx, a, b, c, k _ _ (not_jar hj e0 (fun _ q => nomatch q)) e0, e1.keep (e1.ne_jar hj) k, e2.keep (e2.ne_jar hj) k, e3.keep (e3.ne_jar hj) k⟩
theorem mk_same {H H1 : Hp} {xp dx C : Addr} (nx : H xp = none) (ndx : H dx = none) (nex : dx ≠ xp) (k : Keep xp (upd (upd H dx (.own xp)) xp (.ins C dx [])) H1) : Same H H1 := fun b o q =>
  k b o (ne_of_none q nx) ((same_upd ndx).trans (same_upd (by rw [upd_ne nex.symm]; exact nx)) _ _ q)
theorem inr_ne {z : Str} {rows : List Row} {n : Nat} {p : Prop} (h : readR 0 [] (linesOf z) = .inr rows) (e : readR 0 [] (linesOf z) = .inl n) : p := by
  rw [h] at e
  cases e
theorem sum_le : ∀ {ls : List Str} {m : Nat}, (∀ l ∈ ls, l.length ≤ m) → (ls.map (·.length)).sum ≤ ls.length * m
  | [], _, _ => Nat.zero_le _
  | l :: ls, m, h => by
    have a := h l List.mem_cons_self
    have b := sum_le (ls := ls) (m := m) fun x hx => h x (List.mem_cons_of_mem _ hx)
    rw [List.map_cons, List.sum_cons, List.length_cons, Nat.add_mul]
    omega
theorem Jar.same {H H' : Hp} {j : Addr} {n : Nat} (h : Jar H j n) (s : Same H H') : Jar H' j n := by
  obtain ⟨a, b, c, e, r⟩ := h
  exact ⟨a, b, c, s _ _ e, r⟩
end K17

namespace K17
open L2 PySem PySem.Spec PyProof.Rows
/-- t.index(z), any flat things: the first place -/
theorem mt_tup_indexV {X : Cx} : MtR X "tuple.index" (fun x xs H Q => ∃ p, ∃ ys : List V, ∃ z j, x = .ref p ∧ xs = [z] ∧ SqT X.K H p ys ∧ ys.all flatV = true ∧ flatV z = true ∧ (∃ y, ys[j]? = some y ∧ eqV y z = true) ∧ (∀ m y, m < j → ys[m]? = some y → eqV y z = false) ∧ Q (.int (j : Nat)) H) := by
  intro pins s σ H x xs v us Q I rx rs h
  obtain ⟨p, ys, z, j, rfl, rfl, hq, fy, fz, ⟨y, hy, ey⟩, hno, q⟩ := h
  cases rx
  obtain ⟨u, rfl, rz⟩ := vals1 rs
  obtain ⟨its, r, pl, hz⟩ := I.tuple hq
  (obtain ⟨⟨cls, dd, dt, sl⟩, ho, hc, n, hd⟩ := pl)
  (simp only at hc hd)
  subst hc
  subst hd
  have hl : its.toArray.size = ys.length := by rw [List.size_toArray, ← r.length]
  have hj : j < its.toArray.size := by rw [hl]; exact (List.getElem?_eq_some_iff.mp hy).1
  have at' : ∀ (m : Nat) (hm : m < its.toArray.size), ∃ y, ys[m]? = some y ∧ RelV y its.toArray[m] := fun m hm => by
    have hm' : m < ys.length := by rw [← hl]; exact hm
    obtain ⟨w, hw, rw'⟩ := r.get (i := m) (x := ys[m]) (by simp [hm'])
    refine ⟨ys[m], List.getElem?_eq_getElem hm', ?_⟩
    have e := (List.getElem?_eq_some_iff.mp hw).2
    simpa [← e] using rw'
  have fl : ∀ (m : Nat) (y : V), ys[m]? = some y → flatV y = true := fun m y e => List.all_eq_true.mp fy y (List.mem_of_getElem? e)
  refine call_meets PySem.F.slot_tuple_index ⟨_, ho, rfl⟩ PySem.F.entry_tuple_index (PySem.F.args_tuple_index_2 _ _) (TI.tuple_indexAt p its.toArray n dd sl u (eqU z) j hj ?_ ?_)
    ⟨ho, fun w hw => mem_eqAt rz fz r fy w (by simpa using hw), ⟨.int (j : Nat), H, I.tok _, ⟨_, rfl⟩, q⟩⟩
  · obtain ⟨y', h1, h2⟩ := at' j hj
    rw [hy] at h1
    cases h1
    rw [eqU_of h2 (fl j _ hy)]
    exact ey
  · intro m hm hmj
    obtain ⟨y', h1, h2⟩ := at' m hm
    rw [eqU_of h2 (fl m _ h1)]
    exact hno m y' hmj h1
/-! ### works by a plan: the mathematics -/
abbrev Ys := List Str
def wFresh : Str := "fresh"
def wOnce : Str := "once"
def wHanded : Str := "handed"
def wKept : Str := "kept"
def wayOf (ys : Ys) (p : Nat) : Str := ys.getD p wFresh
/-- the numbers of the kept parts -/
def kpI (ys : Ys) : List Nat := (List.range ys.length).filter fun i => decide (wayOf ys i = wKept)
def idxN (p : Nat) : List Nat → Nat
  | [] => 0
  | a :: r => if a = p then 0 else idxN p r + 1
def keptV (ys : Ys) (kv : List Int) (p : Nat) : Int := if p ∈ kpI ys then kv.getD (idxN p (kpI ys)) 0 else -1
/-- by a way, a number, what is kept, the present one -/
def rdBy (y : Str) (num k now : Int) : Int := if y = wFresh then now else if y = wKept then k else num
def opBy (y : Str) (asked now : Int) : Int := if y = wOnce then now else if y = wHanded then asked else -1
def tkBy (y : Str) (now : Int) : Int := if y = wOnce ∨ y = wHanded then now else -1
def renK (p : Nat) (now : Int) : List Nat → List Int → List Int
  | a :: r, x :: xs => (if a = p then now else x) :: renK p now r xs
  | _, _ => []
structure Ws where
  op : List (Nat × Int × Int)
  kv : List Int
  now : Nat
  rd : List (Nat × Int × Int)
  cnt : Nat
inductive Ev where
  | inst
  | ren (p : Nat)
  | read
  | take
  | back
  | ask (p : Nat)
def rdNow (ys : Ys) (w : Ws) (o : Nat × Int × Int) : Int := rdBy (wayOf ys o.1) o.2.1 (keptV ys w.kv o.1) w.now
/-- the event can come: o the opening that was opened last -/
def Can (ys : Ys) (bs : List Bool) (w : Ws) : Ev → Prop
  | .inst => True
  | .ren p => p ∈ kpI ys ∧ p ∉ w.op.map (·.1)
  | .read => w.op ≠ []
  | .back => w.op ≠ []
  | .take => ∃ r o, w.op = r ++ [o] ∧ bs[o.1]? = some true
  | .ask p => ∃ r o, w.op = r ++ [o] ∧ o.1 < p ∧ p < ys.length
def lastO (w : Ws) : Nat × Int × Int := w.op.getLast?.getD (0, 0, 0)
def stepW (ys : Ys) (w : Ws) : Ev → Ws
  | .inst => { w with now := w.now + 1 }
  | .ren p => { w with kv := renK p w.now (kpI ys) w.kv }
  | .read => { w with rd := w.rd ++ [((lastO w).1, rdNow ys w (lastO w), (lastO w).2.2)] }
  | .back => { w with op := w.op.dropLast }
  | .take => { w with op := w.op.dropLast ++ [((lastO w).1, tkBy (wayOf ys (lastO w).1) w.now, (lastO w).2.2)] }
  | .ask p => { w with op := w.op ++ [(p, opBy (wayOf ys p) (rdNow ys w (lastO w)) w.now, (w.cnt : Int))], cnt := w.cnt + 1 }
/-- begun with part p -/
def begW (ys : Ys) (p : Nat) (kv : List Int) : Ws := ⟨[(p, opBy (wayOf ys p) 0 0, 0)], kv, 0, [], 1⟩
def stepsW (ys : Ys) (w : Ws) : List Ev → Ws
  | [] => w
  | e :: r => stepsW ys (stepW ys w e) r
def CanAll (ys : Ys) (bs : List Bool) (w : Ws) : List Ev → Prop
  | [] => True
  | e :: r => Can ys bs w e ∧ CanAll ys bs (stepW ys w e) r
/-- what holds of all works -/
structure Ok (ys : Ys) (w : Ws) (n : Nat) : Prop where
  kv : w.kv.length = (kpI ys).length
  op : ∀ o ∈ w.op, o.1 < ys.length
  opl : w.op.length ≤ n + 1
  rdl : w.rd.length ≤ n
  now : w.now ≤ n
  rdp : ∀ o ∈ w.rd, o.1 < ys.length
theorem renK_len {p : Nat} {now : Int} : ∀ {l : List Nat} {xs : List Int}, xs.length = l.length → (renK p now l xs).length = l.length
  | [], [], _ => rfl
  | a :: r, x :: xs, h => congrArg (· + 1) (renK_len (l := r) (xs := xs) (Nat.succ.inj h))
theorem last_app {α : Type} {r : List α} {o d : α} : (r ++ [o]).getLast?.getD d = o := by simp
theorem lastO_mem {w : Ws} (h : w.op ≠ []) : ∃ r, w.op = r ++ [lastO w] := by
  rcases List.eq_nil_or_concat w.op with e | ⟨r, o, e⟩
  · exact absurd e h
  · refine ⟨r, ?_⟩
    rw [List.concat_eq_append] at e
    have : lastO w = o := by
      unfold lastO
      rw [e]
      exact last_app
    rw [this]
    exact e
theorem Can.ne {ys : Ys} {bs : List Bool} {w : Ws} {e : Ev} (h : Can ys bs w e) (n : e ≠ .inst) (n2 : ∀ p, e ≠ .ren p) : w.op ≠ [] := by
  cases e with
  | inst => exact absurd rfl n
  | ren p => exact absurd rfl (n2 p)
  | read => exact h
  | back => exact h
  | take =>
    obtain ⟨r, o, e, _⟩ := h
    rw [e]
    simp
  | ask p =>
    obtain ⟨r, o, e, _⟩ := h
    rw [e]
    simp
theorem Ok.step {ys : Ys} {bs : List Bool} {w : Ws} {n : Nat} {e : Ev} (h : Ok ys w n) (c : Can ys bs w e) : Ok ys (stepW ys w e) (n + 1) := by
  obtain ⟨h1, h2, h3, h4, h5, h6⟩ := h
  cases e with
  | inst => exact ⟨h1, h2, Nat.le_succ_of_le h3, Nat.le_succ_of_le h4, Nat.succ_le_succ h5, h6⟩
  | ren p => exact ⟨renK_len h1, h2, Nat.le_succ_of_le h3, Nat.le_succ_of_le h4, Nat.le_succ_of_le h5, h6⟩
  | read =>
    obtain ⟨r, e⟩ := lastO_mem c
    refine ⟨h1, h2, Nat.le_succ_of_le h3, ?_, Nat.le_succ_of_le h5, fun o ho => ?_⟩
    · show (w.rd ++ [_]).length ≤ n + 1
      rw [List.length_append]
      exact Nat.succ_le_succ h4
    · rcases List.mem_append.mp (show o ∈ w.rd ++ [_] from ho) with q | q
      · exact h6 o q
      · rw [List.mem_singleton.mp q]
        exact h2 (lastO w) (by rw [e]; simp)
  | back =>
    refine ⟨h1, fun o ho => h2 o (List.dropLast_subset _ ho), ?_, Nat.le_succ_of_le h4, Nat.le_succ_of_le h5, h6⟩
    show w.op.dropLast.length ≤ _
    rw [List.length_dropLast]
    omega
  | take =>
    obtain ⟨r, e⟩ := lastO_mem (c.ne (fun z => nomatch z) (fun p z => nomatch z))
    refine ⟨h1, fun o ho => ?_, ?_, Nat.le_succ_of_le h4, Nat.le_succ_of_le h5, h6⟩
    · rcases List.mem_append.mp (show o ∈ w.op.dropLast ++ [_] from ho) with q | q
      · exact h2 o (List.dropLast_subset _ q)
      · rw [List.mem_singleton.mp q]
        exact h2 (lastO w) (by rw [e]; simp)
    · show (w.op.dropLast ++ [_]).length ≤ _
      rw [List.length_append, List.length_dropLast]
      have : w.op.length ≠ 0 := by rw [e]; simp
      show w.op.length - 1 + 1 ≤ _
      omega
  | ask p =>
    obtain ⟨r, o, e, lt, lp⟩ := c
    refine ⟨h1, fun u ho => ?_, ?_, Nat.le_succ_of_le h4, Nat.le_succ_of_le h5, h6⟩
    · rcases List.mem_append.mp (show u ∈ w.op ++ [_] from ho) with q | q
      · exact h2 u q
      · rw [List.mem_singleton.mp q]
        exact lp
    · show (w.op ++ [_]).length ≤ _
      rw [List.length_append]
      exact Nat.succ_le_succ h3
theorem Ok.beg {ys : Ys} {p : Nat} {kv : List Int} (hp : p < ys.length) (hk : kv.length = (kpI ys).length) : Ok ys (begW ys p kv) 0 :=
  ⟨hk, fun o ho => by rw [List.mem_singleton.mp (show o ∈ [_] from ho)]; exact hp, Nat.le_refl _, Nat.le_refl _, Nat.le_refl _, fun o ho => nomatch ho⟩
theorem steps_snoc {ys : Ys} {bs : List Bool} {e : Ev} : ∀ {l : List Ev} {w : Ws}, stepsW ys w (l ++ [e]) = stepW ys (stepsW ys w l) e ∧ (CanAll ys bs w (l ++ [e]) ↔ CanAll ys bs w l ∧ Can ys bs (stepsW ys w l) e)
  | [], w => ⟨rfl, ⟨fun h => ⟨True.intro, h.1⟩, fun h => ⟨h.2, True.intro⟩⟩⟩
  | a :: l, w => by
    have ih := steps_snoc (ys := ys) (bs := bs) (e := e) (l := l) (w := stepW ys w a)
    refine ⟨ih.1, ⟨fun h => ?_, fun h => ?_⟩⟩
    · have q := ih.2.mp h.2
      exact ⟨⟨h.1, q.1⟩, q.2⟩
    · exact ⟨h.1.1, ih.2.mpr ⟨h.1.2, h.2⟩⟩
theorem Ok.steps {ys : Ys} {bs : List Bool} : ∀ {l : List Ev} {w : Ws} {n : Nat}, Ok ys w n → CanAll ys bs w l → Ok ys (stepsW ys w l) (n + l.length)
  | [], w, n, h, _ => h
  | e :: l, w, n, h, c => by
    have q := (h.step c.1).steps c.2
    have e1 : n + 1 + l.length = n + (e :: l).length := by rw [List.length_cons]; omega
    rw [e1] at q
    exact q
end K17

namespace K17
open L2 PySem PySem.Spec PyProof.Rows RZ
/-! ### lists without doubles -/
theorem nodup_le {α : Type} : ∀ {l D : List α}, l.Nodup → (∀ x ∈ l, x ∈ D) → l.length ≤ D.length
  | [], _, _, _ => Nat.zero_le _
  | a :: l, D, nd, h => by
    obtain ⟨A, B, rfl⟩ := List.append_of_mem (h a List.mem_cons_self)
    have nd' := List.nodup_cons.mp nd
    have ih := nodup_le (l := l) (D := A ++ B) nd'.2 fun x hx => by
      have q := h x (List.mem_cons_of_mem _ hx)
      rcases List.mem_append.mp q with z | z
      · exact List.mem_append_left _ z
      · rcases List.mem_cons.mp z with e | z
        · subst e
          exact absurd hx nd'.1
        · exact List.mem_append_right _ z
    rw [List.length_append] at ih ⊢
    rw [List.length_cons, List.length_cons]
    omega
/-! ### sets of ints -/
def dd (ns : List Int) : List Int := firstMet (fun i => ns.getD i 0) ns.length
theorem dd_pre (ns : List Int) : ∀ i, i ≤ ns.length → (firstMet (fun i => ns.getD i 0) i).Nodup ∧ ∀ x, x ∈ firstMet (fun i => ns.getD i 0) i ↔ x ∈ ns.take i
  | 0, _ => ⟨by rw [firstMet_zero]; exact List.nodup_nil, fun x => by rw [firstMet_zero, List.take_zero]⟩
  | i + 1, h => by
    obtain ⟨h1, h2⟩ := dd_pre ns i (by omega)
    have hi : i < ns.length := by omega
    have e1 : ns.getD i 0 = ns[i] := by
      rw [List.getD_eq_getElem?_getD, List.getElem?_eq_getElem hi]
      rfl
    have e2 : ns.take (i + 1) = ns.take i ++ [ns[i]] := by
      rw [List.take_add_one, List.getElem?_eq_getElem hi]
      rfl
    rw [firstMet_succ, e1, e2]
    show (if (firstMet (fun i => ns.getD i 0) i).any (· == ns[i]) then firstMet (fun i => ns.getD i 0) i else firstMet (fun i => ns.getD i 0) i ++ [ns[i]]).Nodup ∧ ∀ x, x ∈ (if (firstMet (fun i => ns.getD i 0) i).any (· == ns[i]) then firstMet (fun i => ns.getD i 0) i else firstMet (fun i => ns.getD i 0) i ++ [ns[i]]) ↔ _
    by_cases c : (firstMet (fun i => ns.getD i 0) i).any (· == ns[i]) = true
    · rw [if_pos c]
      refine ⟨h1, fun x => ?_⟩
      rw [h2, List.mem_append, List.mem_singleton]
      refine ⟨.inl, fun z => z.elim id fun e => ?_⟩
      obtain ⟨y, hy, ey⟩ := List.any_eq_true.mp c
      rw [e, ← eq_of_beq ey]
      exact (h2 y).mp hy
    · rw [if_neg c]
      refine ⟨?_, fun x => by rw [List.mem_append, List.mem_append, h2]⟩
      rw [List.nodup_append]
      refine ⟨h1, by simp, fun a ha b hb e => c ?_⟩
      rw [List.mem_singleton.mp hb] at e
      exact List.any_eq_true.mpr ⟨a, ha, by rw [e]; exact beq_self_eq_true _⟩
theorem dd_nodup (ns : List Int) : (dd ns).Nodup := (dd_pre ns ns.length (Nat.le_refl _)).1
theorem dd_mem {ns : List Int} {x : Int} : x ∈ dd ns ↔ x ∈ ns := by
  have q := (dd_pre ns ns.length (Nat.le_refl _)).2 x
  rw [List.take_length] at q
  exact q
theorem idxN_at {p : Nat} : ∀ {l : List Nat}, p ∈ l → l[idxN p l]? = some p
  | a :: l, h => by
    unfold idxN
    by_cases c : a = p
    · rw [if_pos c, c]
      rfl
    · rw [if_neg c]
      have h' : p ∈ l := by
        rcases List.mem_cons.mp h with e | h
        · exact absurd e.symm c
        · exact h
      exact idxN_at h'
theorem idxN_first {p : Nat} : ∀ {l : List Nat} {m q : Nat}, m < idxN p l → l[m]? = some q → q ≠ p
  | a :: l, m, q, hm, hq => by
    unfold idxN at hm
    by_cases c : a = p
    · rw [if_pos c] at hm
      exact absurd hm (Nat.not_lt_zero _)
    · rw [if_neg c] at hm
      cases m with
      | zero =>
        cases hq
        exact c
      | succ m => exact idxN_first (l := l) (m := m) (by omega) hq
  | [], m, q, hm, hq => nomatch hq
/-- places -/
theorem way_at {ys : Ys} {p : Nat} (h : p < ys.length) : ys[p]? = some (wayOf ys p) := by
  unfold wayOf
  rw [List.getD_eq_getElem?_getD, List.getElem?_eq_getElem h]
  rfl
end K17

namespace K17
open L2 PySem PySem.Spec PyProof.Rows RZ
/-! ### the rank of a number among those that are held -/
theorem len_eq {α : Type} {l D : List α} (n1 : l.Nodup) (n2 : D.Nodup) (h : ∀ x, x ∈ l ↔ x ∈ D) : l.length = D.length :=
  Nat.le_antisymm (nodup_le n1 fun x hx => (h x).mp hx) (nodup_le n2 fun x hx => (h x).mpr hx)
def below (L : List Int) (x : Int) : List Int := (dd L).filter fun y => decide (y < x)
def rk (L : List Int) (x : Int) : Int := ((below L x).length : Nat)
theorem below_nodup (L : List Int) (x : Int) : (below L x).Nodup := (dd_nodup L).filter _
theorem mem_below {L : List Int} {x y : Int} : y ∈ below L x ↔ y ∈ L ∧ y < x := by
  unfold below
  rw [List.mem_filter, dd_mem, decide_eq_true_eq]
theorem rk_nn (L : List Int) (x : Int) : 0 ≤ rk L x := Int.natCast_nonneg _
theorem rk_mono {L : List Int} {x y : Int} (h : x ≤ y) : rk L x ≤ rk L y := by
  unfold rk
  have := nodup_le (below_nodup L x) (D := below L y) fun z hz => mem_below.mpr ⟨(mem_below.mp hz).1, Int.lt_of_lt_of_le (mem_below.mp hz).2 h⟩
  omega
theorem rk_lt {L : List Int} {x y : Int} (hy : y ∈ L) : rk L y < rk L x ↔ y < x := by
  constructor
  · intro h
    refine Classical.byContradiction fun q => ?_
    have := rk_mono (L := L) (x := x) (y := y) (by omega)
    omega
  · intro h
    unfold rk
    have nd : (y :: below L y).Nodup := List.nodup_cons.mpr ⟨fun q => by have := (mem_below.mp q).2; omega, below_nodup L y⟩
    have := nodup_le nd (D := below L x) fun z hz => by
      rcases List.mem_cons.mp hz with rfl | q
      · exact mem_below.mpr ⟨hy, h⟩
      · exact mem_below.mpr ⟨(mem_below.mp q).1, Int.lt_trans (mem_below.mp q).2 h⟩
    rw [List.length_cons] at this
    omega
theorem rk_inj {L : List Int} {x y : Int} (hx : x ∈ L) (hy : y ∈ L) (e : rk L x = rk L y) : x = y := by
  have h1 := rk_lt (x := y) hx
  have h2 := rk_lt (x := x) hy
  omega
theorem rk_congr {L L' : List Int} (h : ∀ x, x ∈ L ↔ x ∈ L') (x : Int) : rk L x = rk L' x := by
  unfold rk
  rw [len_eq (below_nodup L x) (below_nodup L' x) fun y => by rw [mem_below, mem_below, h]]
theorem nodup_map {α β : Type} {f : α → β} : ∀ {l : List α}, (∀ x ∈ l, ∀ y ∈ l, f x = f y → x = y) → l.Nodup → (l.map f).Nodup
  | [], _, _ => List.nodup_nil
  | a :: l, h, nd => by
    obtain ⟨n1, n2⟩ := List.nodup_cons.mp nd
    rw [List.map_cons]
    refine List.nodup_cons.mpr ⟨fun q => ?_, nodup_map (fun x hx y hy => h x (List.mem_cons_of_mem _ hx) y (List.mem_cons_of_mem _ hy)) n2⟩
    obtain ⟨y, hy, e⟩ := List.mem_map.mp q
    exact n1 (h y (List.mem_cons_of_mem _ hy) a List.mem_cons_self e ▸ hy)
/-- ranks go along with a map that keeps the order -/
theorem rk_map {f : Int → Int} {L M : List Int} {x z : Int} (hM : ∀ u, u ∈ M ↔ ∃ y ∈ L, f y = u) (inj : ∀ y ∈ L, ∀ y' ∈ L, f y = f y' → y = y') (h : ∀ y ∈ L, f y < z ↔ y < x) : rk M z = rk L x := by
  have e : (below M z).length = ((below L x).map f).length := by
    refine len_eq (below_nodup M z) (nodup_map (fun a ha b hb => inj a (mem_below.mp ha).1 b (mem_below.mp hb).1) (below_nodup L x)) fun u => ?_
    rw [mem_below, List.mem_map, hM]
    constructor
    · rintro ⟨⟨y, hy, rfl⟩, hl⟩
      exact ⟨y, mem_below.mpr ⟨hy, (h y hy).mp hl⟩, rfl⟩
    · rintro ⟨y, hy, rfl⟩
      have q := mem_below.mp hy
      exact ⟨⟨y, q.1, rfl⟩, (h y q.1).mpr q.2⟩
  unfold rk
  rw [e, List.length_map]
theorem rk_succ {L : List Int} {n : Int} (hn : n ∈ L) (h : ∀ y ∈ L, y ≤ n) : rk L (n + 1) = rk L n + 1 := by
  have e : (below L (n + 1)).length = (n :: below L n).length := by
    refine len_eq (below_nodup L _) (List.nodup_cons.mpr ⟨fun q => by have := (mem_below.mp q).2; omega, below_nodup L n⟩) fun u => ?_
    rw [mem_below, List.mem_cons, mem_below]
    constructor
    · rintro ⟨h1, h2⟩
      by_cases e : u = n
      · exact .inl e
      · exact .inr ⟨h1, by omega⟩
    · rintro (rfl | ⟨h1, h2⟩)
      · exact ⟨hn, by omega⟩
      · exact ⟨h1, by omega⟩
  unfold rk
  rw [e, List.length_cons]
  omega
theorem rk_len {L : List Int} {x : Int} (hx : x ∈ L) : rk L x + 1 ≤ L.length := by
  have nx : x ∉ below L x := fun q => by have := (mem_below.mp q).2; omega
  have := nodup_le (List.nodup_cons.mpr ⟨nx, below_nodup L x⟩) (D := L) fun z hz => by
    rcases List.mem_cons.mp hz with rfl | q
    · exact hx
    · exact (mem_below.mp q).1
  rw [List.length_cons] at this
  unfold rk
  omega
/-- a number or none, as it is told: -1 none, -2 not held any more -/
def numO (L : List Int) : Option Int → Int
  | none => -1
  | some x => if x ∈ L then rk L x else -2
/-- a number that is told, told anew -/
def pl (L : List Int) (x : Int) : Int := if x = -1 then -1 else if x ∈ L then rk L x else -2
/-- what stays when the held numbers change from L to L': M holds the ranks of L' -/
structure Tr (L L' M : List Int) (n : Int) : Prop where
  top : n ∈ L
  le : ∀ y ∈ L, y ≤ n
  sub : ∀ y ∈ L', y ∈ L ∨ y = n + 1
  mem : ∀ u, u ∈ M ↔ ∃ y ∈ L', rk L y = u
theorem Tr.lt {L L' M : List Int} {n : Int} (T : Tr L L' M n) {x y : Int} (hy : y ∈ L') (hx : x ≤ n + 1) : rk L y < rk L x ↔ y < x := by
  rcases T.sub y hy with q | rfl
  · exact rk_lt q
  · constructor
    · intro h
      have := rk_mono (L := L) hx
      omega
    · intro h
      omega
theorem Tr.bound {L L' M : List Int} {n : Int} (T : Tr L L' M n) {y : Int} (hy : y ∈ L') : y ≤ n + 1 := by
  rcases T.sub y hy with q | rfl
  · have := T.le y q
    omega
  · exact Int.le_refl _
theorem Tr.inj {L L' M : List Int} {n : Int} (T : Tr L L' M n) {x y : Int} (hx : x ∈ L') (hy : y ∈ L') (e : rk L x = rk L y) : x = y := by
  have h1 := T.lt hx (T.bound hy)
  have h2 := T.lt hy (T.bound hx)
  omega
theorem Tr.rkE {L L' M : List Int} {n : Int} (T : Tr L L' M n) {x : Int} (hx : x ≤ n + 1) : rk M (rk L x) = rk L' x :=
  rk_map (f := rk L) T.mem (fun y hy y' hy' e => T.inj hy hy' e) fun y hy => T.lt hy hx
theorem Tr.plE {L L' M : List Int} {n : Int} (T : Tr L L' M n) {x : Int} (hx : x ∈ L') : pl M (rk L x) = rk L' x := by
  unfold pl
  have h0 := rk_nn L x
  rw [if_neg (by omega), if_pos ((T.mem _).mpr ⟨x, hx, rfl⟩)]
  exact T.rkE (T.bound hx)
theorem Tr.num {L L' M : List Int} {n : Int} (T : Tr L L' M n) {o : Option Int} (ho : ∀ x, o = some x → x ≤ n) : pl M (numO L o) = numO L' o := by
  cases o with
  | none => rfl
  | some x =>
    have hx := ho x rfl
    unfold numO
    by_cases c : x ∈ L
    · simp only [if_pos c]
      by_cases c' : x ∈ L'
      · rw [if_pos c', T.plE c']
      · rw [if_neg c']
        unfold pl
        have h0 := rk_nn L x
        rw [if_neg (by omega), if_neg]
        intro q
        obtain ⟨y, hy, e⟩ := (T.mem _).mp q
        have h1 := T.lt hy (x := x) (by omega)
        have h2 := rk_lt (x := y) c
        have : y = x := by omega
        exact c' (this ▸ hy)
    · simp only [if_neg c]
      have c' : x ∉ L' := fun q => by
        rcases T.sub x q with z | z
        · exact c z
        · omega
      rw [if_neg c']
      unfold pl
      rw [if_neg (by decide), if_neg]
      intro q
      obtain ⟨y, hy, e⟩ := (T.mem _).mp q
      have := rk_nn L y
      omega
theorem numO_cases {L : List Int} {o : Option Int} : numO L o = -1 ↔ o = none := by
  cases o with
  | none => exact ⟨fun _ => rfl, fun _ => rfl⟩
  | some x =>
    unfold numO
    have := rk_nn L x
    constructor
    · intro h
      dsimp only at h
      split at h <;> omega
    · intro h
      cases h
theorem numO_eq {L : List Int} {x v : Int} (hv : v ∈ L) : numO L (some x) = rk L v ↔ x = v := by
  unfold numO
  dsimp only
  by_cases c : x ∈ L
  · rw [if_pos c]
    exact ⟨fun e => rk_inj c hv e, fun e => by rw [e]⟩
  · rw [if_neg c]
    have := rk_nn L v
    exact ⟨fun e => by omega, fun e => absurd (e ▸ hv) c⟩
end K17

namespace K17
open L2 PySem PySem.Spec PyProof.Rows RZ
/-! ### works by two plans -/
def kpP (ya yb : Ys) : List Nat := (List.range ya.length).filter fun i => decide (wayOf ya i = wKept) || decide (wayOf yb i = wKept)
def keptP (ya yb : Ys) (kv : List Int) (p : Nat) : Int := if p ∈ kpP ya yb then kv.getD (idxN p (kpP ya yb)) 0 else -1
def rdP (ya yb : Ys) (w : Ws) (o : Nat × Int × Int) : Int × Int := (rdBy (wayOf ya o.1) o.2.1 (keptP ya yb w.kv o.1) w.now, rdBy (wayOf yb o.1) o.2.2 (keptP ya yb w.kv o.1) w.now)
def CanP (ya yb : Ys) (bs : List Bool) (w : Ws) : Ev → Prop
  | .inst => True
  | .ren p => p ∈ kpP ya yb ∧ p ∉ w.op.map (·.1)
  | .read => w.op ≠ []
  | .back => w.op ≠ []
  | .take => ∃ r o, w.op = r ++ [o] ∧ bs[o.1]? = some true
  | .ask p => ∃ r o, w.op = r ++ [o] ∧ o.1 < p ∧ p < ya.length
def stepP (ya yb : Ys) (w : Ws) : Ev → Ws
  | .inst => { w with now := w.now + 1 }
  | .ren p => { w with kv := renK p w.now (kpP ya yb) w.kv }
  | .read => w
  | .back => { w with op := w.op.dropLast }
  | .take => { w with op := w.op.dropLast ++ [((lastO w).1, tkBy (wayOf ya (lastO w).1) w.now, tkBy (wayOf yb (lastO w).1) w.now)] }
  | .ask p => { w with op := w.op ++ [(p, opBy (wayOf ya p) (rdP ya yb w (lastO w)).1 w.now, opBy (wayOf yb p) (rdP ya yb w (lastO w)).2 w.now)] }
def begP (ya yb : Ys) (p : Nat) (kv : List Int) : Ws := ⟨[(p, opBy (wayOf ya p) 0 0, opBy (wayOf yb p) 0 0)], kv, 0, [], 0⟩
def stepsP (ya yb : Ys) (w : Ws) : List Ev → Ws
  | [] => w
  | e :: r => stepsP ya yb (stepP ya yb w e) r
def CanAllP (ya yb : Ys) (bs : List Bool) (w : Ws) : List Ev → Prop
  | [] => True
  | e :: r => CanP ya yb bs w e ∧ CanAllP ya yb bs (stepP ya yb w e) r
def ownB (ys : Ys) (p : Nat) : Bool := decide (wayOf ys p = wOnce ∨ wayOf ys p = wHanded)
def WaysOk (ys : Ys) : Prop := ∀ p, p < ys.length → wayOf ys p = wFresh ∨ wayOf ys p = wKept ∨ ownB ys p = true
structure Two (ya yb : Ys) : Prop where
  len : yb.length = ya.length
  a : WaysOk ya
  b : WaysOk yb
theorem mem_kpP {ya yb : Ys} {p : Nat} : p ∈ kpP ya yb ↔ p < ya.length ∧ (wayOf ya p = wKept ∨ wayOf yb p = wKept) := by
  unfold kpP
  rw [List.mem_filter, List.mem_range, Bool.or_eq_true, decide_eq_true_eq, decide_eq_true_eq]
structure PW (ya yb : Ys) (w : Ws) : Prop where
  kv : w.kv.length = (kpP ya yb).length
  kvn : ∀ x ∈ w.kv, x ≤ w.now
  op : ∀ o ∈ w.op, o.1 < ya.length
  asc : (w.op.map (·.1)).Pairwise (· < ·)
  o1 : ∀ o ∈ w.op, ownB ya o.1 = true → o.2.1 ≤ w.now
  o2 : ∀ o ∈ w.op, ownB yb o.1 = true → o.2.2 ≤ w.now
def hP (ya yb : Ys) (w : Ws) : List Int := (w.now : Int) :: (w.kv ++ ((w.op.filter fun o => ownB ya o.1).map (·.2.1) ++ (w.op.filter fun o => ownB yb o.1).map (·.2.2)))
section
variable {ya yb : Ys} {bs : List Bool} {w : Ws} {o : Nat × Int × Int}
theorem now_h : (w.now : Int) ∈ hP ya yb w := List.mem_cons_self
theorem kv_h {x : Int} (h : x ∈ w.kv) : x ∈ hP ya yb w := List.mem_cons_of_mem _ (List.mem_append_left _ h)
theorem o1_h (h : o ∈ w.op) (b : ownB ya o.1 = true) : o.2.1 ∈ hP ya yb w := List.mem_cons_of_mem _ (List.mem_append_right _ (List.mem_append_left _ (List.mem_map.mpr ⟨o, List.mem_filter.mpr ⟨h, b⟩, rfl⟩)))
theorem o2_h (h : o ∈ w.op) (b : ownB yb o.1 = true) : o.2.2 ∈ hP ya yb w := List.mem_cons_of_mem _ (List.mem_append_right _ (List.mem_append_right _ (List.mem_map.mpr ⟨o, List.mem_filter.mpr ⟨h, b⟩, rfl⟩)))
theorem h_cases {x : Int} (h : x ∈ hP ya yb w) : x = w.now ∨ x ∈ w.kv ∨ (∃ o ∈ w.op, ownB ya o.1 = true ∧ o.2.1 = x) ∨ ∃ o ∈ w.op, ownB yb o.1 = true ∧ o.2.2 = x := by
  rcases List.mem_cons.mp h with e | h
  · exact .inl e
  · rcases List.mem_append.mp h with q | q
    · exact .inr (.inl q)
    · rcases List.mem_append.mp q with q | q
      · obtain ⟨o, ho, e⟩ := List.mem_map.mp q
        obtain ⟨a, b⟩ := List.mem_filter.mp ho
        exact .inr (.inr (.inl ⟨o, a, b, e⟩))
      · obtain ⟨o, ho, e⟩ := List.mem_map.mp q
        obtain ⟨a, b⟩ := List.mem_filter.mp ho
        exact .inr (.inr (.inr ⟨o, a, b, e⟩))
theorem h_le (h : PW ya yb w) : ∀ y ∈ hP ya yb w, y ≤ (w.now : Int) := fun y hy => by
  rcases h_cases hy with e | e | ⟨o, a, b, e⟩ | ⟨o, a, b, e⟩
  · omega
  · exact h.kvn y e
  · rw [← e]
    exact h.o1 o a b
  · rw [← e]
    exact h.o2 o a b
theorem wayne : wFresh ≠ wKept ∧ wFresh ≠ wOnce ∧ wFresh ≠ wHanded ∧ wKept ≠ wOnce ∧ wKept ≠ wHanded ∧ wOnce ≠ wHanded := by decide +kernel
theorem keptP_map {kv : List Int} {f : Int → Int} {p : Nat} (hp : p ∈ kpP ya yb) (hl : kv.length = (kpP ya yb).length) : keptP ya yb (kv.map f) p = f (keptP ya yb kv p) ∧ keptP ya yb kv p ∈ kv := by
  have hi : idxN p (kpP ya yb) < kv.length := by
    rw [hl]
    exact (List.getElem?_eq_some_iff.mp (idxN_at hp)).1
  unfold keptP
  rw [if_pos hp, if_pos hp, List.getD_eq_getElem?_getD, List.getD_eq_getElem?_getD, List.getElem?_map, List.getElem?_eq_getElem hi]
  exact ⟨rfl, List.getElem_mem _⟩
theorem rd1_h (T : Two ya yb) (h : PW ya yb w) (ho : o ∈ w.op) : (rdP ya yb w o).1 ∈ hP ya yb w := by
  show rdBy (wayOf ya o.1) o.2.1 (keptP ya yb w.kv o.1) w.now ∈ _
  unfold rdBy
  by_cases c1 : wayOf ya o.1 = wFresh
  · rw [if_pos c1]
    exact now_h
  · rw [if_neg c1]
    by_cases c2 : wayOf ya o.1 = wKept
    · rw [if_pos c2]
      exact kv_h (keptP_map (f := id) (mem_kpP.mpr ⟨h.op o ho, .inl c2⟩) h.kv).2
    · rw [if_neg c2]
      exact o1_h ho (((T.a o.1 (h.op o ho)).resolve_left c1).resolve_left c2)
theorem rd2_h (T : Two ya yb) (h : PW ya yb w) (ho : o ∈ w.op) : (rdP ya yb w o).2 ∈ hP ya yb w := by
  show rdBy (wayOf yb o.1) o.2.2 (keptP ya yb w.kv o.1) w.now ∈ _
  unfold rdBy
  by_cases c1 : wayOf yb o.1 = wFresh
  · rw [if_pos c1]
    exact now_h
  · rw [if_neg c1]
    by_cases c2 : wayOf yb o.1 = wKept
    · rw [if_pos c2]
      exact kv_h (keptP_map (f := id) (mem_kpP.mpr ⟨h.op o ho, .inr c2⟩) h.kv).2
    · rw [if_neg c2]
      exact o2_h ho (((T.b o.1 (by rw [T.len]; exact h.op o ho)).resolve_left c1).resolve_left c2)
end
end K17

namespace K17
open L2 PySem PySem.Spec PyProof.Rows RZ
/-! ### standings of two plans -/
structure Sd where
  op : List (Nat × Int × Int)
  kv : List Int
  now : Nat
deriving DecidableEq
def stO (ya yb : Ys) (L : List Int) (o : Nat × Int × Int) : Nat × Int × Int := (o.1, if ownB ya o.1 = true then rk L o.2.1 else -1, if ownB yb o.1 = true then rk L o.2.2 else -1)
def standL (ya yb : Ys) (L : List Int) (w : Ws) : Sd := ⟨w.op.map (stO ya yb L), w.kv.map (rk L), (rk L w.now).toNat⟩
def stand (ya yb : Ys) (w : Ws) : Sd := standL ya yb (hP ya yb w) w
def toW (s : Sd) : Ws := ⟨s.op, s.kv, s.now, [], 0⟩
def ofW (w : Ws) : Sd := ⟨w.op, w.kv, w.now⟩
def stepS (ya yb : Ys) (s : Sd) (e : Ev) : Sd := ofW (stepP ya yb (toW s) e)
def heldS (s : Sd) : List Int := (s.now : Int) :: (s.kv ++ ((s.op.map (·.2.1)).filter (fun x => decide (x ≠ -1)) ++ (s.op.map (·.2.2)).filter fun x => decide (x ≠ -1)))
def settle (s : Sd) : Sd := ⟨s.op.map (fun o => (o.1, pl (heldS s) o.2.1, pl (heldS s) o.2.2)), s.kv.map (pl (heldS s)), (pl (heldS s) s.now).toNat⟩
section
variable {ya yb : Ys} {bs : List Bool} {w : Ws} {o : Nat × Int × Int}
theorem toNat_rk (L : List Int) (x : Int) : (((rk L x).toNat : Nat) : Int) = rk L x := Int.toNat_of_nonneg (rk_nn L x)
theorem heldS_mem (L : List Int) (w : Ws) (u : Int) : u ∈ heldS (standL ya yb L w) ↔ ∃ y ∈ hP ya yb w, rk L y = u := by
  unfold heldS
  show u ∈ (((rk L w.now).toNat : Nat) : Int) :: (w.kv.map (rk L) ++ (((w.op.map (stO ya yb L)).map (·.2.1)).filter (fun x => decide (x ≠ -1)) ++ ((w.op.map (stO ya yb L)).map (·.2.2)).filter fun x => decide (x ≠ -1))) ↔ _
  rw [toNat_rk, List.mem_cons, List.mem_append, List.mem_append, List.mem_map, List.mem_filter, List.mem_filter, List.map_map, List.map_map, List.mem_map, List.mem_map]
  constructor
  · rintro (rfl | ⟨x, hx, rfl⟩ | ⟨⟨o, ho, rfl⟩, hn⟩ | ⟨⟨o, ho, rfl⟩, hn⟩)
    · exact ⟨_, now_h, rfl⟩
    · exact ⟨x, kv_h hx, rfl⟩
    · have hn' : ¬ (if ownB ya o.1 = true then rk L o.2.1 else (-1 : Int)) = -1 := of_decide_eq_true hn
      by_cases c : ownB ya o.1 = true
      · exact ⟨o.2.1, o1_h ho c, (if_pos c).symm⟩
      · rw [if_neg c] at hn'
        exact absurd rfl hn'
    · have hn' : ¬ (if ownB yb o.1 = true then rk L o.2.2 else (-1 : Int)) = -1 := of_decide_eq_true hn
      by_cases c : ownB yb o.1 = true
      · exact ⟨o.2.2, o2_h ho c, (if_pos c).symm⟩
      · rw [if_neg c] at hn'
        exact absurd rfl hn'
  · rintro ⟨y, hy, rfl⟩
    rcases h_cases hy with rfl | q | ⟨o, h1, h2, rfl⟩ | ⟨o, h1, h2, rfl⟩
    · exact .inl rfl
    · exact .inr (.inl ⟨y, q, rfl⟩)
    · have e : (((fun x : Nat × Int × Int => x.2.1) ∘ stO ya yb L) o) = rk L o.2.1 := if_pos h2
      refine .inr (.inr (.inl ⟨⟨o, h1, e⟩, decide_eq_true ?_⟩))
      have := rk_nn L o.2.1
      omega
    · have e : (((fun x : Nat × Int × Int => x.2.2) ∘ stO ya yb L) o) = rk L o.2.2 := if_pos h2
      refine .inr (.inr (.inr ⟨⟨o, h1, e⟩, decide_eq_true ?_⟩))
      have := rk_nn L o.2.2
      omega
theorem settle_standL {L : List Int} {n : Int} (top : n ∈ L) (le : ∀ y ∈ L, y ≤ n) (sub : ∀ y ∈ hP ya yb w, y ∈ L ∨ y = n + 1) : settle (standL ya yb L w) = stand ya yb w := by
  have T : Tr L (hP ya yb w) (heldS (standL ya yb L w)) n := ⟨top, le, sub, heldS_mem L w⟩
  unfold settle
  generalize heldS (standL ya yb L w) = M at T
  show Sd.mk ((w.op.map (stO ya yb L)).map _) ((w.kv.map (rk L)).map (pl M)) (pl M (((rk L w.now).toNat : Nat) : Int)).toNat = _
  unfold stand standL
  rw [toNat_rk, T.plE now_h, List.map_map, List.map_map]
  have e1 : w.op.map ((fun o => (o.1, pl M o.2.1, pl M o.2.2)) ∘ stO ya yb L) = w.op.map (stO ya yb (hP ya yb w)) := by
    refine List.map_congr_left fun o ho => ?_
    show (o.1, pl M (if ownB ya o.1 = true then rk L o.2.1 else -1), pl M (if ownB yb o.1 = true then rk L o.2.2 else -1)) = (o.1, if ownB ya o.1 = true then rk (hP ya yb w) o.2.1 else -1, if ownB yb o.1 = true then rk (hP ya yb w) o.2.2 else -1)
    have t1 : pl M (if ownB ya o.1 = true then rk L o.2.1 else -1) = if ownB ya o.1 = true then rk (hP ya yb w) o.2.1 else -1 := by
      by_cases c : ownB ya o.1 = true
      · rw [if_pos c, if_pos c, T.plE (o1_h ho c)]
      · rw [if_neg c, if_neg c]
        rfl
    have t2 : pl M (if ownB yb o.1 = true then rk L o.2.2 else -1) = if ownB yb o.1 = true then rk (hP ya yb w) o.2.2 else -1 := by
      by_cases c : ownB yb o.1 = true
      · rw [if_pos c, if_pos c, T.plE (o2_h ho c)]
      · rw [if_neg c, if_neg c]
        rfl
    rw [t1, t2]
  have e2 : w.kv.map (pl M ∘ rk L) = w.kv.map (rk (hP ya yb w)) := List.map_congr_left fun x hx => T.plE (kv_h hx)
  rw [e1, e2]
theorem rd_stand (T : Two ya yb) (h : PW ya yb w) (ho : o ∈ w.op) : rdP ya yb (toW (stand ya yb w)) (stO ya yb (hP ya yb w) o) = (rk (hP ya yb w) (rdP ya yb w o).1, rk (hP ya yb w) (rdP ya yb w o).2) := by
  have lo := h.op o ho
  have kvm : ∀ p, p ∈ kpP ya yb → keptP ya yb (w.kv.map (rk (hP ya yb w))) p = rk (hP ya yb w) (keptP ya yb w.kv p) := fun p hp => (keptP_map hp h.kv).1
  refine Prod.ext ?_ ?_
  · show rdBy (wayOf ya o.1) (if ownB ya o.1 = true then rk (hP ya yb w) o.2.1 else -1) (keptP ya yb (w.kv.map (rk (hP ya yb w))) o.1) (((rk (hP ya yb w) w.now).toNat : Nat) : Int) = rk (hP ya yb w) (rdBy (wayOf ya o.1) o.2.1 (keptP ya yb w.kv o.1) w.now)
    rw [toNat_rk]
    unfold rdBy
    by_cases c1 : wayOf ya o.1 = wFresh
    · rw [if_pos c1, if_pos c1]
    · rw [if_neg c1, if_neg c1]
      by_cases c2 : wayOf ya o.1 = wKept
      · rw [if_pos c2, if_pos c2]
        exact kvm _ (mem_kpP.mpr ⟨lo, .inl c2⟩)
      · rw [if_neg c2, if_neg c2, if_pos (((T.a o.1 lo).resolve_left c1).resolve_left c2)]
  · show rdBy (wayOf yb o.1) (if ownB yb o.1 = true then rk (hP ya yb w) o.2.2 else -1) (keptP ya yb (w.kv.map (rk (hP ya yb w))) o.1) (((rk (hP ya yb w) w.now).toNat : Nat) : Int) = rk (hP ya yb w) (rdBy (wayOf yb o.1) o.2.2 (keptP ya yb w.kv o.1) w.now)
    rw [toNat_rk]
    unfold rdBy
    by_cases c1 : wayOf yb o.1 = wFresh
    · rw [if_pos c1, if_pos c1]
    · rw [if_neg c1, if_neg c1]
      by_cases c2 : wayOf yb o.1 = wKept
      · rw [if_pos c2, if_pos c2]
        exact kvm _ (mem_kpP.mpr ⟨lo, .inr c2⟩)
      · rw [if_neg c2, if_neg c2, if_pos (((T.b o.1 (by rw [T.len]; exact lo)).resolve_left c1).resolve_left c2)]
theorem renK_map {f : Int → Int} {p : Nat} {now : Int} : ∀ {l : List Nat} {xs : List Int}, renK p (f now) l (xs.map f) = (renK p now l xs).map f
  | [], [] => rfl
  | [], _ :: _ => rfl
  | _ :: _, [] => rfl
  | a :: r, x :: xs => by
    show (if a = p then f now else f x) :: renK p (f now) r (xs.map f) = f (if a = p then now else x) :: (renK p now r xs).map f
    rw [renK_map]
    split <;> rfl
theorem last_map {f : Nat × Int × Int → Nat × Int × Int} {l : List (Nat × Int × Int)} (h : l ≠ []) : (l.map f).getLast?.getD (0, 0, 0) = f (l.getLast?.getD (0, 0, 0)) := by
  rw [List.getLast?_map]
  cases q : l.getLast? with
  | none => exact absurd (List.getLast?_eq_none_iff.mp q) h
  | some a => rfl
theorem opBy_map {ys : Ys} {p : Nat} {L : List Int} {a now : Int} : opBy (wayOf ys p) (rk L a) (rk L now) = if ownB ys p = true then rk L (opBy (wayOf ys p) a now) else -1 := by
  unfold opBy
  by_cases c1 : wayOf ys p = wOnce
  · have hb : ownB ys p = true := decide_eq_true (.inl c1)
    rw [if_pos c1, if_pos hb, if_pos c1]
  · rw [if_neg c1]
    by_cases c2 : wayOf ys p = wHanded
    · have hb : ownB ys p = true := decide_eq_true (.inr c2)
      rw [if_pos c2, if_pos hb, if_neg c1, if_pos c2]
    · rw [if_neg c2, if_neg]
      intro q
      rcases of_decide_eq_true q with z | z
      · exact c1 z
      · exact c2 z
theorem tkBy_map {ys : Ys} {p : Nat} {L : List Int} {now : Int} : tkBy (wayOf ys p) (rk L now) = if ownB ys p = true then rk L (tkBy (wayOf ys p) now) else -1 := by
  unfold tkBy ownB
  by_cases c : wayOf ys p = wOnce ∨ wayOf ys p = wHanded
  · rw [if_pos c, decide_eq_true c, if_pos rfl, if_pos c]
  · rw [if_neg c, decide_eq_false c, if_neg (by decide)]
theorem CanP.ne {e : Ev} (h : CanP ya yb bs w e) (n : e ≠ .inst) (n2 : ∀ p, e ≠ .ren p) : w.op ≠ [] := by
  cases e with
  | inst => exact absurd rfl n
  | ren p => exact absurd rfl (n2 p)
  | read => exact h
  | back => exact h
  | take =>
    obtain ⟨r, o, e, _⟩ := h
    rw [e]
    simp
  | ask p =>
    obtain ⟨r, o, e, _⟩ := h
    rw [e]
    simp
theorem step_stand {e : Ev} (T : Two ya yb) (h : PW ya yb w) (c : CanP ya yb bs w e) : stepS ya yb (stand ya yb w) e = standL ya yb (hP ya yb w) (stepP ya yb w e) := by
  cases e with
  | read => rfl
  | inst =>
    show Sd.mk _ _ ((rk (hP ya yb w) w.now).toNat + 1) = Sd.mk _ _ (rk (hP ya yb w) ((w.now + 1 : Nat) : Int)).toNat
    have : rk (hP ya yb w) ((w.now + 1 : Nat) : Int) = rk (hP ya yb w) w.now + 1 := by
      rw [Int.natCast_add]
      exact rk_succ now_h (h_le h)
    rw [this, Int.toNat_add (rk_nn _ _) (by decide)]
    rfl
  | ren p =>
    show Sd.mk _ (renK p (((rk (hP ya yb w) w.now).toNat : Nat) : Int) (kpP ya yb) (w.kv.map (rk (hP ya yb w)))) _ = Sd.mk _ ((renK p (w.now : Int) (kpP ya yb) w.kv).map (rk (hP ya yb w))) _
    rw [toNat_rk, renK_map]
    rfl
  | back =>
    show Sd.mk (w.op.map (stO ya yb (hP ya yb w))).dropLast _ _ = Sd.mk (w.op.dropLast.map (stO ya yb (hP ya yb w))) _ _
    rw [List.map_dropLast]
    rfl
  | take =>
    have hne := c.ne (fun z => nomatch z) (fun p z => nomatch z)
    have el : lastO (toW (stand ya yb w)) = stO ya yb (hP ya yb w) (lastO w) := last_map hne
    show Sd.mk ((w.op.map (stO ya yb (hP ya yb w))).dropLast ++ [((lastO (toW (stand ya yb w))).1, tkBy (wayOf ya (lastO (toW (stand ya yb w))).1) (((rk (hP ya yb w) w.now).toNat : Nat) : Int), tkBy (wayOf yb (lastO (toW (stand ya yb w))).1) (((rk (hP ya yb w) w.now).toNat : Nat) : Int))]) _ _
      = Sd.mk ((w.op.dropLast ++ [((lastO w).1, tkBy (wayOf ya (lastO w).1) w.now, tkBy (wayOf yb (lastO w).1) w.now)]).map (stO ya yb (hP ya yb w))) _ _
    rw [el, toNat_rk, List.map_append, List.map_dropLast]
    show Sd.mk (_ ++ [((lastO w).1, tkBy (wayOf ya (lastO w).1) (rk (hP ya yb w) w.now), tkBy (wayOf yb (lastO w).1) (rk (hP ya yb w) w.now))]) _ _ = Sd.mk (_ ++ [((lastO w).1, if ownB ya (lastO w).1 = true then rk (hP ya yb w) (tkBy (wayOf ya (lastO w).1) w.now) else -1, if ownB yb (lastO w).1 = true then rk (hP ya yb w) (tkBy (wayOf yb (lastO w).1) w.now) else -1)]) _ _
    rw [tkBy_map, tkBy_map]
    rfl
  | ask p =>
    have hne := c.ne (fun z => nomatch z) (fun p z => nomatch z)
    have el : lastO (toW (stand ya yb w)) = stO ya yb (hP ya yb w) (lastO w) := last_map hne
    obtain ⟨r, er⟩ := lastO_mem hne
    have lm : lastO w ∈ w.op := by rw [er]; simp
    have eq := rd_stand T h lm
    show Sd.mk (w.op.map (stO ya yb (hP ya yb w)) ++ [(p, opBy (wayOf ya p) (rdP ya yb (toW (stand ya yb w)) (lastO (toW (stand ya yb w)))).1 (((rk (hP ya yb w) w.now).toNat : Nat) : Int), opBy (wayOf yb p) (rdP ya yb (toW (stand ya yb w)) (lastO (toW (stand ya yb w)))).2 (((rk (hP ya yb w) w.now).toNat : Nat) : Int))]) _ _
      = Sd.mk ((w.op ++ [(p, opBy (wayOf ya p) (rdP ya yb w (lastO w)).1 w.now, opBy (wayOf yb p) (rdP ya yb w (lastO w)).2 w.now)]).map (stO ya yb (hP ya yb w))) _ _
    rw [el, eq, toNat_rk, List.map_append]
    show Sd.mk (_ ++ [(p, opBy (wayOf ya p) (rk (hP ya yb w) (rdP ya yb w (lastO w)).1) (rk (hP ya yb w) w.now), opBy (wayOf yb p) (rk (hP ya yb w) (rdP ya yb w (lastO w)).2) (rk (hP ya yb w) w.now))]) _ _ = _
    rw [opBy_map, opBy_map]
    rfl
theorem mem_renK {p : Nat} {now x : Int} : ∀ {l : List Nat} {xs : List Int}, x ∈ renK p now l xs → x = now ∨ x ∈ xs
  | [], [], h => nomatch h
  | [], _ :: _, h => nomatch h
  | _ :: _, [], h => nomatch h
  | a :: r, y :: xs, h => by
    rcases List.mem_cons.mp (show x ∈ (if a = p then now else y) :: renK p now r xs from h) with e | h
    · by_cases c : a = p
      · rw [if_pos c] at e
        exact .inl e
      · rw [if_neg c] at e
        exact .inr (by rw [e]; exact List.mem_cons_self)
    · exact (mem_renK h).imp id (List.mem_cons_of_mem _)
theorem opBy_in {ys : Ys} {p : Nat} {a now : Int} {S : List Int} (hb : ownB ys p = true) (h1 : now ∈ S) (h2 : a ∈ S) : opBy (wayOf ys p) a now ∈ S := by
  unfold opBy
  by_cases c1 : wayOf ys p = wOnce
  · rw [if_pos c1]
    exact h1
  · rw [if_neg c1, if_pos ((of_decide_eq_true hb).resolve_left c1)]
    exact h2
theorem tkBy_in {ys : Ys} {p : Nat} {now : Int} {S : List Int} (hb : ownB ys p = true) (h1 : now ∈ S) : tkBy (wayOf ys p) now ∈ S := by
  unfold tkBy
  rw [if_pos (of_decide_eq_true hb)]
  exact h1
theorem h_sub {e : Ev} (T : Two ya yb) (h : PW ya yb w) (c : CanP ya yb bs w e) : ∀ y ∈ hP ya yb (stepP ya yb w e), y ∈ hP ya yb w ∨ y = (w.now : Int) + 1 := by
  intro y hy
  cases e with
  | inst =>
    rcases h_cases hy with e | q | ⟨o, a, b, rfl⟩ | ⟨o, a, b, rfl⟩
    · right
      rw [e]
      show ((w.now + 1 : Nat) : Int) = _
      omega
    · exact .inl (kv_h q)
    · exact .inl (o1_h a b)
    · exact .inl (o2_h a b)
  | read => exact .inl hy
  | ren p =>
    left
    rcases h_cases hy with e | q | ⟨o, a, b, rfl⟩ | ⟨o, a, b, rfl⟩
    · rw [e]
      exact now_h
    · rcases mem_renK q with e | q
      · rw [e]
        exact now_h
      · exact kv_h q
    · exact o1_h a b
    · exact o2_h a b
  | back =>
    left
    rcases h_cases hy with e | q | ⟨o, a, b, rfl⟩ | ⟨o, a, b, rfl⟩
    · rw [e]
      exact now_h
    · exact kv_h q
    · exact o1_h (List.dropLast_subset _ a) b
    · exact o2_h (List.dropLast_subset _ a) b
  | take =>
    left
    rcases h_cases hy with e | q | ⟨o, a, b, rfl⟩ | ⟨o, a, b, rfl⟩
    · rw [e]
      exact now_h
    · exact kv_h q
    · rcases List.mem_append.mp (show o ∈ w.op.dropLast ++ [_] from a) with a | a
      · exact o1_h (List.dropLast_subset _ a) b
      · rw [List.mem_singleton.mp a] at b ⊢
        exact tkBy_in b now_h
    · rcases List.mem_append.mp (show o ∈ w.op.dropLast ++ [_] from a) with a | a
      · exact o2_h (List.dropLast_subset _ a) b
      · rw [List.mem_singleton.mp a] at b ⊢
        exact tkBy_in b now_h
  | ask p =>
    left
    have hne := c.ne (fun z => nomatch z) (fun p z => nomatch z)
    obtain ⟨r, er⟩ := lastO_mem hne
    have lm : lastO w ∈ w.op := by rw [er]; simp
    rcases h_cases hy with e | q | ⟨o, a, b, rfl⟩ | ⟨o, a, b, rfl⟩
    · rw [e]
      exact now_h
    · exact kv_h q
    · rcases List.mem_append.mp (show o ∈ w.op ++ [_] from a) with a | a
      · exact o1_h a b
      · rw [List.mem_singleton.mp a] at b ⊢
        exact opBy_in b now_h (rd1_h T h lm)
    · rcases List.mem_append.mp (show o ∈ w.op ++ [_] from a) with a | a
      · exact o2_h a b
      · rw [List.mem_singleton.mp a] at b ⊢
        exact opBy_in b now_h (rd2_h T h lm)
theorem sim_step {e : Ev} (T : Two ya yb) (h : PW ya yb w) (c : CanP ya yb bs w e) : settle (stepS ya yb (stand ya yb w) e) = stand ya yb (stepP ya yb w e) := by
  rw [step_stand T h c]
  exact settle_standL now_h (h_le h) (h_sub T h c)
theorem step_nil {e : Ev} (T : Two ya yb) (h : PW ya yb w) (c : CanP ya yb bs w e) : (stepS ya yb (stand ya yb w) e).op = [] ↔ (stepP ya yb w e).op = [] := by
  rw [step_stand T h c]
  exact List.map_eq_nil_iff
theorem PW.step {e : Ev} (T : Two ya yb) (h : PW ya yb w) (c : CanP ya yb bs w e) : PW ya yb (stepP ya yb w e) := by
  have hl := h_le h
  cases e with
  | inst => exact ⟨h.kv, fun x hx => by have := h.kvn x hx; show x ≤ ((w.now + 1 : Nat) : Int); omega, h.op, h.asc, fun o ho b => by have := h.o1 o ho b; show _ ≤ ((w.now + 1 : Nat) : Int); omega, fun o ho b => by have := h.o2 o ho b; show _ ≤ ((w.now + 1 : Nat) : Int); omega⟩
  | ren p =>
    refine ⟨renK_len h.kv, fun x hx => ?_, h.op, h.asc, h.o1, h.o2⟩
    rcases mem_renK hx with e | q
    · rw [e]
      exact Int.le_refl _
    · exact h.kvn x q
  | read => exact h
  | back =>
    refine ⟨h.kv, h.kvn, fun o ho => h.op o (List.dropLast_subset _ ho), ?_, fun o ho => h.o1 o (List.dropLast_subset _ ho), fun o ho => h.o2 o (List.dropLast_subset _ ho)⟩
    show (w.op.dropLast.map _).Pairwise _
    rw [List.map_dropLast]
    exact h.asc.sublist (List.dropLast_sublist _)
  | take =>
    have hne := c.ne (fun z => nomatch z) (fun p z => nomatch z)
    obtain ⟨r, er⟩ := lastO_mem hne
    have lm : lastO w ∈ w.op := by rw [er]; simp
    have mem : ∀ {o : Nat × Int × Int}, o ∈ (stepP ya yb w .take).op → o ∈ w.op ∨ o = ((lastO w).1, tkBy (wayOf ya (lastO w).1) w.now, tkBy (wayOf yb (lastO w).1) w.now) := fun {o} ho => by
      rcases List.mem_append.mp (show o ∈ w.op.dropLast ++ [_] from ho) with q | q
      · exact .inl (List.dropLast_subset _ q)
      · exact .inr (List.mem_singleton.mp q)
    refine ⟨h.kv, h.kvn, fun o ho => ?_, ?_, fun o ho b => ?_, fun o ho b => ?_⟩
    · rcases mem ho with q | q
      · exact h.op o q
      · rw [q]
        exact (h.op (lastO w) lm : (lastO w).1 < ya.length)
    · have e : (stepP ya yb w .take).op.map (·.1) = w.op.map (·.1) := by
        show (w.op.dropLast ++ [_]).map _ = _
        conv => rhs; rw [er]
        rw [List.map_append, List.map_append]
        have : w.op.dropLast = r := by rw [er, List.dropLast_concat]
        rw [this]
        rfl
      rw [e]
      exact h.asc
    · rcases mem ho with q | q
      · exact h.o1 o q b
      · rw [q] at b ⊢
        exact hl _ (tkBy_in b now_h)
    · rcases mem ho with q | q
      · exact h.o2 o q b
      · rw [q] at b ⊢
        exact hl _ (tkBy_in b now_h)
  | ask p =>
    have hne := c.ne (fun z => nomatch z) (fun p z => nomatch z)
    obtain ⟨r, o, er, lt, lp⟩ := c
    have lo := last_app (r := r) (o := o) (d := ((0, 0, 0) : Nat × Int × Int))
    have el : lastO w = o := by
      unfold lastO
      rw [er]
      exact lo
    have lm : o ∈ w.op := by rw [er]; simp
    refine ⟨h.kv, h.kvn, fun u hu => ?_, ?_, fun u hu b => ?_, fun u hu b => ?_⟩
    · rcases List.mem_append.mp (show u ∈ w.op ++ [_] from hu) with q | q
      · exact h.op u q
      · rw [List.mem_singleton.mp q]
        exact lp
    · show ((w.op ++ [_]).map _).Pairwise _
      rw [List.map_append, List.pairwise_append]
      refine ⟨h.asc, List.pairwise_singleton _ _, fun a ha b hb => ?_⟩
      rw [List.mem_singleton.mp hb]
      have h5 := h.asc
      rw [er, List.map_append, List.pairwise_append] at h5
      rw [er, List.map_append] at ha
      rcases List.mem_append.mp ha with z | z
      · exact Nat.lt_trans (h5.2.2 a z o.1 (List.mem_singleton.mpr rfl)) lt
      · rw [List.mem_singleton.mp z]
        exact lt
    · rcases List.mem_append.mp (show u ∈ w.op ++ [_] from hu) with q | q
      · exact h.o1 u q b
      · rw [List.mem_singleton.mp q] at b ⊢
        exact hl _ (opBy_in b now_h (rd1_h T h (by rw [el]; exact lm)))
    · rcases List.mem_append.mp (show u ∈ w.op ++ [_] from hu) with q | q
      · exact h.o2 u q b
      · rw [List.mem_singleton.mp q] at b ⊢
        exact hl _ (opBy_in b now_h (rd2_h T h (by rw [el]; exact lm)))
theorem beg_in {ys : Ys} {p : Nat} (hb : ownB ys p = true) : opBy (wayOf ys p) 0 0 = 0 := by
  have := opBy_in (a := 0) (now := 0) (S := [0]) hb (List.mem_singleton.mpr rfl) (List.mem_singleton.mpr rfl)
  exact List.mem_singleton.mp this
theorem PW.beg {p : Nat} {kv : List Int} (hp : p < ya.length) (hk : kv.length = (kpP ya yb).length) (h0 : ∀ x ∈ kv, x ≤ 0) : PW ya yb (begP ya yb p kv) := by
  have one : ∀ o ∈ (begP ya yb p kv).op, o = (p, opBy (wayOf ya p) 0 0, opBy (wayOf yb p) 0 0) := fun o ho => List.mem_singleton.mp ho
  refine ⟨hk, h0, fun o ho => by rw [one o ho]; exact hp, List.pairwise_singleton _ _, fun o ho b => ?_, fun o ho b => ?_⟩
  · rw [one o ho] at b ⊢
    show opBy (wayOf ya p) 0 0 ≤ 0
    rw [beg_in b]
    exact Int.le_refl _
  · rw [one o ho] at b ⊢
    show opBy (wayOf yb p) 0 0 ≤ 0
    rw [beg_in b]
    exact Int.le_refl _
end
end K17

namespace K17
open L2 PySem PySem.Spec PyProof.Rows RZ
/-! ### which events can come to two plans; how many standings there are -/
def canB (ya yb : Ys) (bs : List Bool) (w : Ws) : Ev → Bool
  | .inst => true
  | .ren p => decide (p ∈ kpP ya yb) && decide (p ∉ w.op.map (·.1))
  | .read => !w.op.isEmpty
  | .back => !w.op.isEmpty
  | .take => !w.op.isEmpty && (bs[(lastO w).1]? == some true)
  | .ask p => !w.op.isEmpty && (decide ((lastO w).1 < p) && decide (p < ya.length))
theorem ne_iff {α : Type} {l : List α} : (!l.isEmpty) = true ↔ l ≠ [] := by
  cases l <;> simp
theorem last_of {w : Ws} {r : List (Nat × Int × Int)} {o : Nat × Int × Int} (e : w.op = r ++ [o]) : lastO w = o := by
  unfold lastO
  rw [e]
  exact last_app
theorem canB_iff {ya yb : Ys} {bs : List Bool} {w : Ws} {e : Ev} : canB ya yb bs w e = true ↔ CanP ya yb bs w e := by
  cases e with
  | inst => exact ⟨fun _ => True.intro, fun _ => rfl⟩
  | ren p =>
    show (decide _ && decide _) = true ↔ p ∈ kpP ya yb ∧ p ∉ w.op.map (·.1)
    rw [Bool.and_eq_true, decide_eq_true_eq, decide_eq_true_eq]
  | read => exact ne_iff
  | back => exact ne_iff
  | take =>
    show (!w.op.isEmpty && (bs[(lastO w).1]? == some true)) = true ↔ _
    rw [Bool.and_eq_true, ne_iff, beq_iff_eq]
    constructor
    · rintro ⟨h1, h2⟩
      obtain ⟨r, e⟩ := lastO_mem h1
      exact ⟨r, _, e, h2⟩
    · rintro ⟨r, o, e, h2⟩
      exact ⟨by rw [e]; simp, by rw [last_of e]; exact h2⟩
  | ask p =>
    show (!w.op.isEmpty && (decide _ && decide _)) = true ↔ _
    rw [Bool.and_eq_true, Bool.and_eq_true, ne_iff, decide_eq_true_eq, decide_eq_true_eq]
    constructor
    · rintro ⟨h1, h2, h3⟩
      obtain ⟨r, e⟩ := lastO_mem h1
      exact ⟨r, _, e, h2, h3⟩
    · rintro ⟨r, o, e, h2, h3⟩
      exact ⟨by rw [e]; simp, by rw [last_of e]; exact h2, h3⟩
theorem stand_parts {ya yb : Ys} {w : Ws} : (stand ya yb w).op.map (·.1) = w.op.map (·.1) := by
  show (w.op.map (stO ya yb (hP ya yb w))).map (·.1) = _
  rw [List.map_map]
  rfl
theorem stand_nil {ya yb : Ys} {w : Ws} : (stand ya yb w).op = [] ↔ w.op = [] := List.map_eq_nil_iff
theorem stand_empty {ya yb : Ys} {w : Ws} : (stand ya yb w).op.isEmpty = w.op.isEmpty := by
  show (w.op.map _).isEmpty = _
  rw [List.isEmpty_map]
theorem canB_stand {ya yb : Ys} {bs : List Bool} {w : Ws} {e : Ev} : canB ya yb bs (toW (stand ya yb w)) e = canB ya yb bs w e := by
  have el : w.op ≠ [] → (lastO (toW (stand ya yb w))).1 = (lastO w).1 := fun h => by
    have : lastO (toW (stand ya yb w)) = stO ya yb (hP ya yb w) (lastO w) := last_map h
    rw [this]
    rfl
  have em : (toW (stand ya yb w)).op.isEmpty = w.op.isEmpty := stand_empty
  cases e with
  | inst => rfl
  | ren p =>
    show (_ && decide (p ∉ (stand ya yb w).op.map (·.1))) = _
    rw [stand_parts]
    rfl
  | read => exact congrArg (!·) em
  | back => exact congrArg (!·) em
  | take =>
    show (!(toW (stand ya yb w)).op.isEmpty && _) = (!w.op.isEmpty && _)
    rw [em]
    by_cases h : w.op = []
    · rw [h]
      rfl
    · rw [el h]
  | ask p =>
    show (!(toW (stand ya yb w)).op.isEmpty && _) = (!w.op.isEmpty && _)
    rw [em]
    by_cases h : w.op = []
    · rw [h]
      rfl
    · rw [el h]
def upto (n : Nat) : List Int := (List.range (n + 1)).map fun i : Nat => (i : Int)
theorem mem_upto {n : Nat} {x : Int} : x ∈ upto n ↔ 0 ≤ x ∧ x ≤ n := by
  unfold upto
  rw [List.mem_map]
  constructor
  · rintro ⟨i, hi, rfl⟩
    have := List.mem_range.mp hi
    omega
  · rintro ⟨a, b⟩
    exact ⟨x.toNat, List.mem_range.mpr (by omega), by omega⟩
theorem flat_len {α β : Type} {f : α → List β} {b : Nat} : ∀ {l : List α}, (∀ x ∈ l, (f x).length ≤ b) → (l.flatMap f).length ≤ l.length * b
  | [], _ => Nat.zero_le _
  | a :: l, h => by
    rw [List.flatMap_cons, List.length_append, List.length_cons, Nat.succ_mul]
    have h1 := h a List.mem_cons_self
    have h2 := flat_len (f := f) (b := b) (l := l) fun x hx => h x (List.mem_cons_of_mem _ hx)
    omega
theorem upto_len (n : Nat) : (upto n).length = n + 1 := by
  unfold upto
  rw [List.length_map, List.length_range]
def prodL {α : Type} : List (List α) → List (List α)
  | [] => [[]]
  | c :: cs => c.flatMap fun x => (prodL cs).map (x :: ·)
theorem prod_len {α : Type} {b : Nat} : ∀ {cs : List (List α)}, (∀ c ∈ cs, c.length ≤ b) → (prodL cs).length ≤ b ^ cs.length
  | [], _ => Nat.le_refl _
  | c :: cs, h => by
    have h1 := h c List.mem_cons_self
    have h2 := prod_len (b := b) (cs := cs) fun x hx => h x (List.mem_cons_of_mem _ hx)
    have h3 := flat_len (f := fun x => (prodL cs).map (x :: ·)) (b := b ^ cs.length) (l := c) fun x _ => by rw [List.length_map]; exact h2
    have h4 : c.length * b ^ cs.length ≤ b * b ^ cs.length := Nat.mul_le_mul_right _ h1
    show (c.flatMap fun x => (prodL cs).map (x :: ·)).length ≤ b ^ (cs.length + 1)
    rw [Nat.pow_succ, Nat.mul_comm]
    omega
theorem mem_prod {α : Type} {x : α} {xs : List α} {c : List α} {cs : List (List α)} (h1 : x ∈ c) (h2 : xs ∈ prodL cs) : x :: xs ∈ prodL (c :: cs) :=
  List.mem_flatMap.mpr ⟨x, h1, List.mem_map.mpr ⟨xs, h2, rfl⟩⟩

theorem asc_len {w : Ws} {n : Nat} (a : (w.op.map (·.1)).Pairwise (· < ·)) (h : ∀ o ∈ w.op, o.1 < n) : w.op.length ≤ n := by
  have nd : (w.op.map (·.1)).Nodup := a.imp fun z => Nat.ne_of_lt z
  have := nodup_le nd (D := List.range n) fun p hp => by
    obtain ⟨o, ho, rfl⟩ := List.mem_map.mp hp
    exact List.mem_range.mpr (h o ho)
  rwa [List.length_map, List.length_range] at this
theorem kpP_len {ya yb : Ys} : (kpP ya yb).length ≤ ya.length := by
  have := List.length_filter_le (fun i => decide (wayOf ya i = wKept) || decide (wayOf yb i = wKept)) (List.range ya.length)
  rwa [List.length_range] at this
/-- what a standing or a work has of shape -/
structure OkP (ya yb : Ys) (u : Ws) : Prop where
  kv : u.kv.length = (kpP ya yb).length
  op : ∀ o ∈ u.op, o.1 < ya.length
  opl : u.op.length ≤ 4
theorem PW.okS {ya yb : Ys} {w : Ws} (h4 : ya.length ≤ 4) (h : PW ya yb w) : OkP ya yb (toW (stand ya yb w)) := by
  refine ⟨?_, fun o ho => ?_, ?_⟩
  · show (w.kv.map _).length = _
    rw [List.length_map, h.kv]
  · obtain ⟨o', ho', rfl⟩ := List.mem_map.mp (show o ∈ w.op.map (stO ya yb (hP ya yb w)) from ho)
    exact h.op o' ho'
  · show (w.op.map _).length ≤ 4
    rw [List.length_map]
    exact Nat.le_trans (asc_len h.asc h.op) h4
end K17

namespace K17
open L2 PySem PySem.Spec PyProof.Rows RZ
/-! ### the search: its mathematics -/
def qev (n : Nat) : List Ev := [.take, .back, .inst] ++ ((List.range n).map Ev.ask ++ (List.range n).map Ev.ren)
structure Mv where
  e : Ev
  br : Bool
  raw : Sd
def moveQ (ya yb : Ys) (bs : List Bool) (s : Sd) (e : Ev) : Option Mv := if canB ya yb bs (toW s) e = true then some ⟨e, false, stepS ya yb s e⟩ else none
def unlS (ya yb : Ys) (s : Sd) : Bool := decide ((rdP ya yb (toW s) (lastO (toW s))).1 ≠ (rdP ya yb (toW s) (lastO (toW s))).2)
def moveR (ya yb : Ys) (s : Sd) : Mv := ⟨.read, unlS ya yb s, s⟩
def movesS (ya yb : Ys) (bs : List Bool) (s : Sd) : List Mv := (qev ya.length).filterMap (moveQ ya yb bs s) ++ [moveR ya yb s]
def Sound (ya yb : Ys) (s : Sd) : Prop := ∃ w, PW ya yb w ∧ w.op ≠ [] ∧ stand ya yb w = s
theorem qev_noread {n : Nat} {e : Ev} (h : e ∈ qev n) : e ≠ .read := by
  rintro rfl
  unfold qev at h
  rcases List.mem_append.mp h with q | q
  · simp at q
  · rcases List.mem_append.mp q with q | q <;> (obtain ⟨_, _, z⟩ := List.mem_map.mp q; cases z)
theorem mem_qev {ya yb : Ys} {bs : List Bool} {w : Ws} {e : Ev} (c : CanP ya yb bs w e) (h : e ≠ .read) : e ∈ qev ya.length := by
  unfold qev
  cases e with
  | read => exact absurd rfl h
  | take => simp
  | back => simp
  | inst => simp
  | ask p =>
    obtain ⟨_, _, _, _, lp⟩ := c
    exact List.mem_append_right _ (List.mem_append_left _ (List.mem_map.mpr ⟨p, List.mem_range.mpr lp, rfl⟩))
  | ren p => exact List.mem_append_right _ (List.mem_append_right _ (List.mem_map.mpr ⟨p, List.mem_range.mpr (mem_kpP.mp c.1).1, rfl⟩))
theorem mem_moves {ya yb : Ys} {bs : List Bool} {s : Sd} {v : Mv} : v ∈ movesS ya yb bs s ↔ (∃ e ∈ qev ya.length, canB ya yb bs (toW s) e = true ∧ v = ⟨e, false, stepS ya yb s e⟩) ∨ v = moveR ya yb s := by
  unfold movesS
  rw [List.mem_append, List.mem_singleton, List.mem_filterMap]
  refine or_congr ⟨?_, ?_⟩ Iff.rfl
  · rintro ⟨e, he, q⟩
    unfold moveQ at q
    by_cases c : canB ya yb bs (toW s) e = true
    · rw [if_pos c] at q
      exact ⟨e, he, c, (Option.some.inj q).symm⟩
    · rw [if_neg c] at q
      cases q
  · rintro ⟨e, he, c, rfl⟩
    exact ⟨e, he, if_pos c⟩
theorem settle_stand {ya yb : Ys} {w : Ws} (h : PW ya yb w) : settle (stand ya yb w) = stand ya yb w := settle_standL now_h (h_le h) fun _ q => .inl q
theorem sound_move {ya yb : Ys} {bs : List Bool} {s : Sd} {v : Mv} (W : Two ya yb) (h : Sound ya yb s) (hv : v ∈ movesS ya yb bs s) (hb : v.br = false) (ho : v.raw.op ≠ []) : Sound ya yb (settle v.raw) := by
  obtain ⟨w, hw, hne, rfl⟩ := h
  rcases mem_moves.mp hv with ⟨e, he, c, rfl⟩ | rfl
  · rw [canB_stand] at c
    have c' := canB_iff.mp c
    have hr := qev_noread he
    exact ⟨stepP ya yb w e, hw.step W c', fun z => ho ((step_nil W hw c').mpr z), (sim_step W hw c').symm⟩
  · exact ⟨w, hw, hne, (settle_stand hw).symm⟩
/-- no read breaks here -/
def Unbr (ya yb : Ys) (bs : List Bool) (s : Sd) : Prop := ∀ v ∈ movesS ya yb bs s, v.br = false
theorem unbr_iff {ya yb : Ys} {bs : List Bool} {s : Sd} : Unbr ya yb bs s ↔ unlS ya yb s = false := by
  constructor
  · exact fun h => h (moveR ya yb s) (mem_moves.mpr (.inr rfl))
  · intro h v hv
    rcases mem_moves.mp hv with ⟨_, _, _, rfl⟩ | rfl
    · rfl
    · exact h
inductive Reach (ya yb : Ys) (bs : List Bool) (S : List Sd) : Nat → Sd → Prop
  | zero {s : Sd} : s ∈ S → Reach ya yb bs S 0 s
  | step {k : Nat} {s : Sd} {v : Mv} : Reach ya yb bs S k s → v ∈ movesS ya yb bs s → v.br = false → v.raw.op ≠ [] → Reach ya yb bs S (k + 1) (settle v.raw)
/-- whether the part that was opened last reads unlike editions -/
def unlP (ya yb : Ys) (w : Ws) : Prop := (rdP ya yb w (lastO w)).1 ≠ (rdP ya yb w (lastO w)).2
theorem unl_stand {ya yb : Ys} {w : Ws} (W : Two ya yb) (h : PW ya yb w) (hne : w.op ≠ []) : unlS ya yb (stand ya yb w) = true ↔ unlP ya yb w := by
  obtain ⟨r, er⟩ := lastO_mem hne
  have lm : lastO w ∈ w.op := by rw [er]; simp
  have el : lastO (toW (stand ya yb w)) = stO ya yb (hP ya yb w) (lastO w) := last_map hne
  unfold unlS unlP
  rw [decide_eq_true_eq, el, rd_stand W h lm]
  show ¬ rk _ _ = rk _ _ ↔ _
  refine not_congr ⟨fun q => rk_inj (rd1_h W h lm) (rd2_h W h lm) q, fun q => by rw [q]⟩
theorem reach_step {ya yb : Ys} {bs : List Bool} {S : List Sd} {k : Nat} {w : Ws} {e : Ev} (W : Two ya yb) (h : PW ya yb w) (r : Reach ya yb bs S k (stand ya yb w)) (c : CanP ya yb bs w e) (hr : e ≠ .read) (ho : (stepP ya yb w e).op ≠ []) : Reach ya yb bs S (k + 1) (stand ya yb (stepP ya yb w e)) := by
  rw [← sim_step W h c]
  exact Reach.step (v := ⟨e, false, stepS ya yb (stand ya yb w) e⟩) r (mem_moves.mpr (.inl ⟨e, mem_qev c hr, by rw [canB_stand]; exact canB_iff.mpr c, rfl⟩)) rfl fun z => ho ((step_nil W h c).mp z)
/-- the works that stand so many events behind a beginning -/
inductive Wk (ya yb : Ys) (bs : List Bool) : Nat → Ws → Prop
  | zero {p : Nat} {kv : List Int} : p < ya.length → kv.length = (kpP ya yb).length → (∀ x ∈ kv, x ≤ 0) → Wk ya yb bs 0 (begP ya yb p kv)
  | step {k : Nat} {w : Ws} {e : Ev} : Wk ya yb bs k w → CanP ya yb bs w e → (stepP ya yb w e).op ≠ [] → Wk ya yb bs (k + 1) (stepP ya yb w e)
theorem Wk.ok {ya yb : Ys} {bs : List Bool} (W : Two ya yb) : ∀ {k : Nat} {w : Ws}, Wk ya yb bs k w → PW ya yb w ∧ w.op ≠ []
  | _, _, .zero a b c => ⟨.beg a b c, List.cons_ne_nil _ _⟩
  | _, _, .step r c n => ⟨(r.ok W).1.step W c, n⟩
/-- the starts are those of the beginnings -/
structure Starts (ya yb : Ys) (S : List Sd) : Prop where
  to : ∀ s ∈ S, ∃ p kv, p < ya.length ∧ kv.length = (kpP ya yb).length ∧ (∀ x ∈ kv, x ≤ 0) ∧ s = stand ya yb (begP ya yb p kv)
  of : ∀ p kv, p < ya.length → kv.length = (kpP ya yb).length → (∀ x ∈ kv, x ≤ 0) → stand ya yb (begP ya yb p kv) ∈ S
theorem reach_wk {ya yb : Ys} {bs : List Bool} {S : List Sd} (W : Two ya yb) (hS : Starts ya yb S) : ∀ {k : Nat} {s : Sd}, Reach ya yb bs S k s → ∃ k' w, k' ≤ k ∧ Wk ya yb bs k' w ∧ stand ya yb w = s
  | _, _, .zero h => by
    obtain ⟨p, kv, a, b, c, rfl⟩ := hS.to _ h
    exact ⟨0, _, Nat.le_refl _, .zero a b c, rfl⟩
  | _, _, .step r hv hb ho => by
    obtain ⟨k', w, hk, hw, rfl⟩ := reach_wk W hS r
    have hP := (hw.ok W).1
    rcases mem_moves.mp hv with ⟨e, he, c, rfl⟩ | rfl
    · rw [canB_stand] at c
      have c' := canB_iff.mp c
      exact ⟨k' + 1, _, by omega, .step hw c' (fun z => ho ((step_nil W hP c').mpr z)), (sim_step W hP c').symm⟩
    · exact ⟨k', w, by omega, hw, (settle_stand hP).symm⟩
theorem wk_reach {ya yb : Ys} {bs : List Bool} {S : List Sd} (W : Two ya yb) (hS : Starts ya yb S) : ∀ {k : Nat} {w : Ws}, Wk ya yb bs k w → ∃ k', k' ≤ k ∧ Reach ya yb bs S k' (stand ya yb w)
  | _, _, .zero a b c => ⟨0, Nat.le_refl _, .zero (hS.of _ _ a b c)⟩
  | _, _, .step (e := e) r c n => by
    obtain ⟨k', hk, q⟩ := wk_reach W hS r
    by_cases hr : e = .read
    · subst hr
      exact ⟨k', by omega, q⟩
    · exact ⟨k' + 1, by omega, reach_step W (r.ok W).1 q c hr n⟩
/-! what has been found -/
abbrev Fd := List (Sd × Option (Sd × Ev))
def keysF (F : Fd) : List Sd := F.map (·.1)
inductive Chain (F : Fd) : Nat → Sd → Prop
  | base {s : Sd} : (s, none) ∈ F → Chain F 0 s
  | up {k : Nat} {s t : Sd} {e : Ev} : (s, some (t, e)) ∈ F → Chain F k t → Chain F (k + 1) s
theorem Chain.mono {F F' : Fd} (h : ∀ x ∈ F, x ∈ F') : ∀ {k : Nat} {s : Sd}, Chain F k s → Chain F' k s
  | _, _, .base q => .base (h _ q)
  | _, _, .up q c => .up (h _ q) (c.mono h)
theorem mem_keysF {F : Fd} {s : Sd} : s ∈ keysF F ↔ ∃ o, (s, o) ∈ F := by
  unfold keysF
  rw [List.mem_map]
  exact ⟨fun ⟨x, h, e⟩ => ⟨x.2, by rw [← e]; exact h⟩, fun ⟨o, h⟩ => ⟨_, h, rfl⟩⟩
def ClosedAt (ya yb : Ys) (bs : List Bool) (F : Fd) (s : Sd) : Prop := ∀ v ∈ movesS ya yb bs s, v.br = false ∧ (v.raw.op = [] ∨ settle v.raw ∈ keysF F)
theorem ClosedAt.mono {ya yb : Ys} {bs : List Bool} {F F' : Fd} {s : Sd} (h : ∀ x ∈ F, x ∈ F') (c : ClosedAt ya yb bs F s) : ClosedAt ya yb bs F' s := fun v hv =>
  ⟨(c v hv).1, (c v hv).2.imp id fun q => by obtain ⟨o, z⟩ := mem_keysF.mp q; exact mem_keysF.mpr ⟨o, h _ z⟩⟩
/-- between two levels -/
structure Outer (ya yb : Ys) (bs : List Bool) (S : List Sd) (d : Nat) (F : Fd) (row : List Sd) : Prop where
  nd : (keysF F).Nodup
  st : ∀ s ∈ S, s ∈ keysF F
  snd : ∀ s ∈ keysF F, Sound ya yb s
  rw : ∀ s ∈ row, s ∈ keysF F
  cl : ∀ s ∈ keysF F, s ∉ row → ClosedAt ya yb bs F s
  lv : ∀ k s, k ≤ d → Reach ya yb bs S k s → s ∈ keysF F
  ok : ∀ k s, k < d → Reach ya yb bs S k s → Unbr ya yb bs s
  ch : ∀ s ∈ keysF F, ∃ k, k ≤ d ∧ Chain F k s
  rc : ∀ s ∈ row, Chain F d s ∧ Reach ya yb bs S d s
  rch : ∀ s ∈ keysF F, ∃ k, k ≤ d ∧ Reach ya yb bs S k s
/-- in the row of a level -/
structure Inner (ya yb : Ys) (bs : List Bool) (S : List Sd) (d : Nat) (F0 : Fd) (row : List Sd) (i : Nat) (F : Fd) (later : List Sd) : Prop where
  sub : ∀ x ∈ F0, x ∈ F
  nd : (keysF F).Nodup
  snd : ∀ s ∈ keysF F, Sound ya yb s
  lat : ∀ s ∈ later, s ∈ keysF F ∧ s ∉ keysF F0
  cl : ∀ s ∈ keysF F, s ∉ row.drop i → s ∉ later → ClosedAt ya yb bs F s
  ch : ∀ s ∈ keysF F, ∃ k, k ≤ d + 1 ∧ Chain F k s
  ln : F.length = F0.length + later.length
  lc : ∀ s ∈ later, Chain F (d + 1) s ∧ Reach ya yb bs S (d + 1) s
  rch : ∀ s ∈ keysF F, ∃ k, k ≤ d + 1 ∧ Reach ya yb bs S k s
def Done (ya yb : Ys) (bs : List Bool) (s : Sd) (j : Nat) (F : Fd) : Prop := ∀ v ∈ (movesS ya yb bs s).take j, v.br = false ∧ (v.raw.op = [] ∨ settle v.raw ∈ keysF F)
section
variable {ya yb : Ys} {bs : List Bool} {S : List Sd} {d i j : Nat} {F0 F : Fd} {row later : List Sd} {s : Sd} {v : Mv}
theorem outer_init (nd : (keysF F).Nodup) (h0 : ∀ x ∈ F, x.2 = none) (hs : ∀ s, s ∈ keysF F ↔ s ∈ S) (snd : ∀ s ∈ S, Sound ya yb s) : Outer ya yb bs S 0 F (keysF F) := by
  refine ⟨nd, fun s h => (hs s).mpr h, fun s h => snd s ((hs s).mp h), fun s h => h, fun s h n => absurd h n, fun k s hk r => ?_, fun k s hk => absurd hk (Nat.not_lt_zero _), fun s h => ?_, fun s h => ?_, fun s h => ⟨0, Nat.le_refl _, .zero ((hs s).mp h)⟩⟩
  · obtain rfl : k = 0 := by omega
    cases r with
    | zero h => exact (hs s).mpr h
  · obtain ⟨o, q⟩ := mem_keysF.mp h
    have := h0 _ q
    dsimp only at this
    subst this
    exact ⟨0, Nat.le_refl _, .base q⟩
  · obtain ⟨o, q⟩ := mem_keysF.mp h
    have := h0 _ q
    dsimp only at this
    subst this
    exact ⟨.base q, .zero ((hs s).mp h)⟩
theorem inner_start (O : Outer ya yb bs S d F row) : Inner ya yb bs S d F row 0 F [] :=
  ⟨fun x h => h, O.nd, O.snd, fun s h => (List.not_mem_nil h).elim, fun s h n _ => O.cl s h n, fun s h => by obtain ⟨k, a, b⟩ := O.ch s h; exact ⟨k, by omega, b⟩, rfl, fun s h => (List.not_mem_nil h).elim, fun s h => by obtain ⟨k, a, b⟩ := O.rch s h; exact ⟨k, by omega, b⟩⟩
theorem done_zero : Done ya yb bs s 0 F := fun v h => by rw [List.take_zero] at h; exact (List.not_mem_nil h).elim
theorem take_snoc {α : Type} {l : List α} {j : Nat} {x : α} (h : l[j]? = some x) : l.take (j + 1) = l.take j ++ [x] := by
  rw [List.take_add_one, h]
  rfl
theorem done_old (D : Done ya yb bs s j F) (hj : (movesS ya yb bs s)[j]? = some v) (hb : v.br = false) (h : v.raw.op = [] ∨ settle v.raw ∈ keysF F) : Done ya yb bs s (j + 1) F := fun u hu => by
  rw [take_snoc hj] at hu
  rcases List.mem_append.mp hu with q | q
  · exact D u q
  · rw [List.mem_singleton.mp q]
    exact ⟨hb, h⟩
theorem keysF_snoc {x : Sd × Option (Sd × Ev)} : keysF (F ++ [x]) = keysF F ++ [x.1] := by
  unfold keysF
  rw [List.map_append]
  rfl
theorem inner_new (W : Two ya yb) (O : Outer ya yb bs S d F0 row) (N : Inner ya yb bs S d F0 row i F later) (hi : row[i]? = some s) (D : Done ya yb bs s j F) (hj : (movesS ya yb bs s)[j]? = some v) (hb : v.br = false) (ho : v.raw.op ≠ []) (hn : settle v.raw ∉ keysF F) :
    Inner ya yb bs S d F0 row i (F ++ [(settle v.raw, some (s, v.e))]) (later ++ [settle v.raw]) ∧ Done ya yb bs s (j + 1) (F ++ [(settle v.raw, some (s, v.e))]) := by
  have sub1 : ∀ x ∈ F, x ∈ F ++ [(settle v.raw, some (s, v.e))] := fun x h => List.mem_append_left _ h
  have s0 := O.rw s (List.mem_of_getElem? hi)
  have sF : s ∈ keysF F := by
    obtain ⟨o, q⟩ := mem_keysF.mp s0
    exact mem_keysF.mpr ⟨o, N.sub _ q⟩
  have key : ∀ t, t ∈ keysF (F ++ [(settle v.raw, some (s, v.e))]) → t ∈ keysF F ∨ t = settle v.raw := fun t h => by
    rw [keysF_snoc] at h
    exact (List.mem_append.mp h).imp id List.mem_singleton.mp
  refine ⟨⟨fun x h => sub1 x (N.sub x h), ?_, fun t h => ?_, fun t h => ?_, fun t h n1 n2 => ?_, fun t h => ?_, ?_, fun t h => ?_, fun t h => ?_⟩, ?_⟩
  · rw [keysF_snoc, List.nodup_append]
    refine ⟨N.nd, by simp, fun a ha b hb e => hn ?_⟩
    rw [List.mem_singleton.mp hb] at e
    have e' : a = settle v.raw := e
    rw [← e']
    exact ha
  · rcases key t h with q | rfl
    · exact N.snd t q
    · exact sound_move W (N.snd s sF) (List.mem_of_getElem? hj) hb ho
  · rcases List.mem_append.mp h with q | q
    · obtain ⟨a, b⟩ := N.lat t q
      obtain ⟨o, z⟩ := mem_keysF.mp a
      exact ⟨mem_keysF.mpr ⟨o, sub1 _ z⟩, b⟩
    · rw [List.mem_singleton.mp q]
      refine ⟨by rw [keysF_snoc]; simp, fun z => hn ?_⟩
      obtain ⟨o, z⟩ := mem_keysF.mp z
      exact mem_keysF.mpr ⟨o, N.sub _ z⟩
  · rcases key t h with q | rfl
    · exact (N.cl t q n1 fun z => n2 (List.mem_append_left _ z)).mono sub1
    · exact absurd (List.mem_append_right _ (List.mem_singleton.mpr rfl)) n2
  · rcases key t h with q | rfl
    · obtain ⟨k, a, b⟩ := N.ch t q
      exact ⟨k, a, b.mono sub1⟩
    · obtain ⟨k, a, b⟩ := O.ch s s0
      exact ⟨k + 1, by omega, .up (List.mem_append_right _ (List.mem_singleton.mpr rfl)) (b.mono fun x h => sub1 x (N.sub x h))⟩
  · rw [List.length_append, List.length_append, N.ln]
    show F0.length + later.length + 1 = F0.length + (later.length + 1)
    omega
  · rcases List.mem_append.mp h with q | q
    · exact ⟨(N.lc t q).1.mono sub1, (N.lc t q).2⟩
    · rw [List.mem_singleton.mp q]
      obtain ⟨c, r⟩ := O.rc s (List.mem_of_getElem? hi)
      exact ⟨.up (List.mem_append_right _ (List.mem_singleton.mpr rfl)) (c.mono fun x h => sub1 x (N.sub x h)), .step r (List.mem_of_getElem? hj) hb ho⟩
  · rcases key t h with q | rfl
    · exact N.rch t q
    · obtain ⟨c, r⟩ := O.rc s (List.mem_of_getElem? hi)
      exact ⟨d + 1, Nat.le_refl _, .step r (List.mem_of_getElem? hj) hb ho⟩
  · refine done_old (F := F ++ [(settle v.raw, some (s, v.e))]) (fun u hu => ⟨(D u hu).1, (D u hu).2.imp id fun q => ?_⟩) hj hb (.inr ?_)
    · rw [keysF_snoc]
      exact List.mem_append_left _ q
    · rw [keysF_snoc]
      exact List.mem_append_right _ (List.mem_singleton.mpr rfl)
theorem inner_next (N : Inner ya yb bs S d F0 row i F later) (hi : row[i]? = some s) (D : Done ya yb bs s (movesS ya yb bs s).length F) : Inner ya yb bs S d F0 row (i + 1) F later := by
  refine ⟨N.sub, N.nd, N.snd, N.lat, fun t h n1 n2 => ?_, N.ch, N.ln, N.lc, N.rch⟩
  by_cases c : t = s
  · subst c
    unfold Done at D
    rw [List.take_length] at D
    exact D
  · refine N.cl t h (fun q => n1 ?_) n2
    have e : row.drop i = s :: row.drop (i + 1) := by
      obtain ⟨hlt, e⟩ := List.getElem?_eq_some_iff.mp hi
      rw [List.drop_eq_getElem_cons hlt, e]
    rw [e] at q
    exact (List.mem_cons.mp q).resolve_left c
theorem inner_end (O : Outer ya yb bs S d F0 row) (N : Inner ya yb bs S d F0 row row.length F later) : Outer ya yb bs S (d + 1) F later := by
  have up : ∀ s, s ∈ keysF F0 → s ∈ keysF F := fun s h => by
    obtain ⟨o, z⟩ := mem_keysF.mp h
    exact mem_keysF.mpr ⟨o, N.sub _ z⟩
  have cl : ∀ s ∈ keysF F, s ∉ later → ClosedAt ya yb bs F s := fun s h n => N.cl s h (by rw [List.drop_length]; exact List.not_mem_nil) n
  have cl0 : ∀ s ∈ keysF F0, ClosedAt ya yb bs F s := fun s h => cl s (up s h) fun z => (N.lat s z).2 h
  refine ⟨N.nd, fun s h => up s (O.st s h), N.snd, fun s h => (N.lat s h).1, cl, fun k s hk r => ?_, fun k s hk r => ?_, N.ch, N.lc, N.rch⟩
  · by_cases c : k ≤ d
    · exact up s (O.lv k s c r)
    · obtain rfl : k = d + 1 := by omega
      cases r with
      | step r hv hb ho => exact ((cl0 _ (O.lv d _ (Nat.le_refl _) r)) _ hv).2.resolve_left ho
  · by_cases c : k < d
    · exact O.ok k s c r
    · obtain rfl : k = d := by omega
      exact fun v hv => (cl0 _ (O.lv k _ (Nat.le_refl _) r) v hv).1
/-- when no row is left -/
theorem outer_end (O : Outer ya yb bs S d F []) : (∀ k s, Reach ya yb bs S k s → s ∈ keysF F) ∧ ∀ s ∈ keysF F, Unbr ya yb bs s := by
  have cl : ∀ s ∈ keysF F, ClosedAt ya yb bs F s := fun s h => O.cl s h List.not_mem_nil
  refine ⟨fun k => ?_, fun s h v hv => (cl s h v hv).1⟩
  induction k with
  | zero => exact fun s r => O.lv 0 s (Nat.zero_le _) r
  | succ k ih =>
    intro s r
    cases r with
    | step r hv hb ho => exact (cl _ (ih _ r) _ hv).2.resolve_left ho
end
end K17

namespace K17
open L2 PySem PySem.Spec PyProof.Rows RZ
/-! ### the shortest story that parts two plans -/
def PKd (ya yb : Ys) : Prop := ∃ p, p < ya.length ∧ ¬ (wayOf ya p = wKept ↔ wayOf yb p = wKept)
def PFd (ya yb : Ys) : Prop := ∃ p, p < ya.length ∧ ¬ (wayOf ya p = wFresh ↔ wayOf yb p = wFresh)
def P3d (ya yb : Ys) : Prop := ∃ p q, q < p ∧ p < ya.length ∧ wayOf ya p ≠ wayOf yb p ∧ wayOf ya q = wKept
def P4d (ya yb : Ys) : Prop := ∃ p q, q < p ∧ p < ya.length ∧ wayOf ya p ≠ wayOf yb p ∧ wayOf ya q ≠ wFresh
section
variable {ya yb : Ys} {bs : List Bool} {w : Ws} {S : List Sd}
theorem rd_fresh {y : Str} (h : y = wFresh) {a b c : Int} : rdBy y a b c = c := if_pos h
theorem rd_kept {y : Str} (h : y = wKept) {a b c : Int} : rdBy y a b c = b := by
  unfold rdBy
  rw [if_neg (by rw [h]; exact fun z => wayne.1 z.symm), if_pos h]
theorem rd_own {y : Str} (h1 : y ≠ wFresh) (h2 : y ≠ wKept) {a b c : Int} : rdBy y a b c = a := by
  unfold rdBy
  rw [if_neg h1, if_neg h2]
theorem own_ne {ys : Ys} {p : Nat} (h : ownB ys p = true) : wayOf ys p ≠ wFresh ∧ wayOf ys p ≠ wKept := by
  have q := wayne
  rcases of_decide_eq_true h with e | e <;> rw [e]
  · exact ⟨fun z => q.2.1 z.symm, fun z => q.2.2.2.1 z.symm⟩
  · exact ⟨fun z => q.2.2.1 z.symm, fun z => q.2.2.2.2.1 z.symm⟩
theorem one_last {o : Nat × Int × Int} (h : w.op = [o]) : lastO w = o := by
  unfold lastO
  rw [h]
  rfl
theorem two_last {o u : Nat × Int × Int} (h : w.op = [o, u]) : lastO w = u := by
  unfold lastO
  rw [h]
  rfl
/-- both plans tell of each opening alike -/
def Eqv (ya : Ys) (w : Ws) : Prop := ∀ o ∈ w.op, ownB ya o.1 = true → o.2.1 = o.2.2
structure Like (ya yb : Ys) : Prop where
  k : ∀ p, p < ya.length → (wayOf ya p = wKept ↔ wayOf yb p = wKept)
  f : ∀ p, p < ya.length → (wayOf ya p = wFresh ↔ wayOf yb p = wFresh)
theorem cls_of (h1 : ¬ PKd ya yb) (h2 : ¬ PFd ya yb) : Like ya yb := ⟨fun p hp => Classical.byContradiction fun z => h1 ⟨p, hp, z⟩, fun p hp => Classical.byContradiction fun z => h2 ⟨p, hp, z⟩⟩
theorem Like.own (C : Like ya yb) (T : Two ya yb) {p : Nat} (hp : p < ya.length) : ownB ya p = true ↔ ownB yb p = true := by
  have hp' : p < yb.length := by rw [T.len]; exact hp
  constructor
  · intro h
    obtain ⟨a, b⟩ := own_ne h
    rcases T.b p hp' with e | e | e
    · exact absurd ((C.f p hp).mpr e) a
    · exact absurd ((C.k p hp).mpr e) b
    · exact e
  · intro h
    obtain ⟨a, b⟩ := own_ne h
    rcases T.a p hp with e | e | e
    · exact absurd ((C.f p hp).mp e) a
    · exact absurd ((C.k p hp).mp e) b
    · exact e
theorem Like.rd (C : Like ya yb) (T : Two ya yb) {o : Nat × Int × Int} (hp : o.1 < ya.length) (e : ownB ya o.1 = true → o.2.1 = o.2.2) : (rdP ya yb w o).1 = (rdP ya yb w o).2 := by
  unfold rdP
  dsimp only
  rcases T.a o.1 hp with c | c | c
  · rw [rd_fresh c, rd_fresh ((C.f _ hp).mp c)]
  · rw [rd_kept c, rd_kept ((C.k _ hp).mp c)]
  · obtain ⟨a, b⟩ := own_ne c
    obtain ⟨a', b'⟩ := own_ne ((C.own T hp).mp c)
    rw [rd_own a b, rd_own a' b', e c]
theorem Like.unl (C : Like ya yb) (T : Two ya yb) (h : PW ya yb w) (hne : w.op ≠ []) (E : Eqv ya w) : ¬ unlP ya yb w := by
  obtain ⟨r, er⟩ := lastO_mem hne
  have lm : lastO w ∈ w.op := by rw [er]; simp
  exact fun z => z (C.rd T (h.op _ lm) (E _ lm))
theorem op_zero {ys : Ys} {p : Nat} (h : ownB ys p = true) {x : Int} : opBy (wayOf ys p) x x = x := by
  unfold opBy
  rcases of_decide_eq_true h with e | e
  · rw [if_pos e]
  · rw [if_neg (by rw [e]; exact fun z => wayne.2.2.2.2.2 z.symm), if_pos e]
theorem tk_own {ys : Ys} {p : Nat} (h : ownB ys p = true) {x : Int} : tkBy (wayOf ys p) x = x := by
  unfold tkBy
  rw [if_pos (of_decide_eq_true h)]
theorem Like.beg (C : Like ya yb) (T : Two ya yb) {p : Nat} {kv : List Int} (hp : p < ya.length) : Eqv ya (begP ya yb p kv) := fun o ho b => by
  rw [List.mem_singleton.mp (show o ∈ [(p, opBy (wayOf ya p) 0 0, opBy (wayOf yb p) 0 0)] from ho)] at b ⊢
  show opBy (wayOf ya p) 0 0 = opBy (wayOf yb p) 0 0
  rw [op_zero b, op_zero ((C.own T hp).mp b)]
theorem Like.step (C : Like ya yb) (T : Two ya yb) (h : PW ya yb w) {e : Ev} (c : CanP ya yb bs w e) (E : Eqv ya w) (ha : ∀ p, e = .ask p → wayOf ya p ≠ wayOf yb p → (rdP ya yb w (lastO w)).1 = w.now) : Eqv ya (stepP ya yb w e) := by
  cases e with
  | inst => exact E
  | ren p => exact E
  | read => exact E
  | back => exact fun o ho => E o (List.dropLast_subset _ ho)
  | take =>
    intro o ho b
    rcases List.mem_append.mp (show o ∈ w.op.dropLast ++ [_] from ho) with q | q
    · exact E o (List.dropLast_subset _ q) b
    · have hne := c.ne (fun z => nomatch z) (fun p z => nomatch z)
      obtain ⟨r, er⟩ := lastO_mem hne
      have lm : lastO w ∈ w.op := by rw [er]; simp
      rw [List.mem_singleton.mp q] at b ⊢
      show tkBy (wayOf ya (lastO w).1) w.now = tkBy (wayOf yb (lastO w).1) w.now
      rw [tk_own b, tk_own ((C.own T (h.op _ lm)).mp b)]
  | ask p =>
    intro o ho b
    rcases List.mem_append.mp (show o ∈ w.op ++ [_] from ho) with q | q
    · exact E o q b
    · have hne := c.ne (fun z => nomatch z) (fun p z => nomatch z)
      obtain ⟨r, er⟩ := lastO_mem hne
      have lm : lastO w ∈ w.op := by rw [er]; simp
      obtain ⟨_, _, _, _, lp⟩ := c
      have er2 := C.rd (w := w) T (h.op _ lm) (E _ lm)
      rw [List.mem_singleton.mp q] at b ⊢
      show opBy (wayOf ya p) (rdP ya yb w (lastO w)).1 w.now = opBy (wayOf yb p) (rdP ya yb w (lastO w)).2 w.now
      rw [← er2]
      by_cases cw : wayOf ya p = wayOf yb p
      · rw [cw]
      · rw [ha p rfl cw, op_zero b, op_zero ((C.own T lp).mp b)]
theorem beg_unl (T : Two ya yb) {p : Nat} {kv : List Int} (hp : p < ya.length) (h : (wayOf ya p = wKept ↔ wayOf yb p = wKept)) : ¬ unlP ya yb (begP ya yb p kv) := by
  intro z
  apply z
  rw [one_last (show (begP ya yb p kv).op = [_] from rfl)]
  unfold rdP
  show rdBy (wayOf ya p) (opBy (wayOf ya p) 0 0) (keptP ya yb kv p) 0 = rdBy (wayOf yb p) (opBy (wayOf yb p) 0 0) (keptP ya yb kv p) 0
  have one : ∀ {ys : Ys}, (wayOf ys p = wFresh ∨ wayOf ys p = wKept ∨ ownB ys p = true) → wayOf ys p ≠ wKept → rdBy (wayOf ys p) (opBy (wayOf ys p) 0 0) (keptP ya yb kv p) 0 = 0 := fun {ys} o n => by
    rcases o with c | c | c
    · exact rd_fresh c
    · exact absurd c n
    · obtain ⟨a, b⟩ := own_ne c
      rw [rd_own a b, op_zero c]
  by_cases c : wayOf ya p = wKept
  · rw [rd_kept c, rd_kept (h.mp c)]
  · rw [one (T.a p hp) c, one (T.b p (by rw [T.len]; exact hp)) fun q => c (h.mpr q)]
/-! no story is shorter -/
theorem low0 (T : Two ya yb) (h : Wk ya yb bs 0 w) (u : unlP ya yb w) : PKd ya yb := by
  cases h with
  | zero hp a b => exact ⟨_, hp, fun z => beg_unl T hp z u⟩
theorem lowAll (T : Two ya yb) (C : Like ya yb) (n4 : ¬ P4d ya yb) : ∀ {k : Nat} {w : Ws}, Wk ya yb bs k w → Eqv ya w
  | _, _, .zero hp a b => C.beg T hp
  | _, _, .step (w := w) (e := e) r c n => by
    obtain ⟨hP, hne⟩ := r.ok T
    refine C.step T hP c (lowAll T C n4 r) fun p he cw => ?_
    subst he
    obtain ⟨r', o, er, lt, lp⟩ := c
    have el : lastO w = o := last_of er
    rw [el]
    have : wayOf ya o.1 = wFresh := Classical.byContradiction fun z => n4 ⟨p, o.1, lt, lp, cw, z⟩
    exact rd_fresh this
theorem low1 (T : Two ya yb) (C : Like ya yb) (n3 : ¬ P3d ya yb) {k : Nat} (hk : k ≤ 1) (h : Wk ya yb bs k w) : Eqv ya w := by
  cases h with
  | zero hp a b => exact C.beg T hp
  | step r c n =>
    cases r with
    | zero hp a b =>
      rename_i q kv
      refine C.step T (.beg hp a b) c (C.beg T hp) fun p he cw => ?_
      subst he
      obtain ⟨r', o, er, lt, lp⟩ := c
      have el : lastO (begP ya yb q kv) = (q, opBy (wayOf ya q) 0 0, opBy (wayOf yb q) 0 0) := rfl
      have eo : o = (q, opBy (wayOf ya q) 0 0, opBy (wayOf yb q) 0 0) := by rw [← el]; exact (last_of er).symm
      have hq : q < p := by rw [eo] at lt; exact lt
      rw [el]
      show rdBy (wayOf ya q) (opBy (wayOf ya q) 0 0) (keptP ya yb kv q) 0 = 0
      rcases T.a q hp with c | c | c
      · exact rd_fresh c
      · exact absurd ⟨p, q, hq, lp, cw, c⟩ n3
      · obtain ⟨a, b⟩ := own_ne c
        rw [rd_own a b, op_zero c]
    | step r' c' n' => omega
/-! the stories -/
def lows (ya yb : Ys) : List Int := List.replicate (kpP ya yb).length (-1)
theorem lows_len : (lows ya yb).length = (kpP ya yb).length := List.length_replicate
theorem lows_le : ∀ x ∈ lows ya yb, x ≤ 0 := fun x h => by
  rw [List.eq_of_mem_replicate h]
  decide
theorem lows_kept {p : Nat} : keptP ya yb (lows ya yb) p = -1 := by
  by_cases c : p ∈ kpP ya yb
  · have := (keptP_map (ya := ya) (yb := yb) (kv := lows ya yb) (f := id) c lows_len).2
    exact List.eq_of_mem_replicate this
  · exact if_neg c
theorem upK (T : Two ya yb) (h : PKd ya yb) : ∃ w, Wk ya yb bs 0 w ∧ unlP ya yb w := by
  obtain ⟨p, hp, n⟩ := h
  refine ⟨begP ya yb p (lows ya yb), .zero hp lows_len lows_le, ?_⟩
  unfold unlP
  rw [one_last (show (begP ya yb p (lows ya yb)).op = [_] from rfl)]
  unfold rdP
  show rdBy (wayOf ya p) (opBy (wayOf ya p) 0 0) (keptP ya yb (lows ya yb) p) 0 ≠ rdBy (wayOf yb p) (opBy (wayOf yb p) 0 0) (keptP ya yb (lows ya yb) p) 0
  rw [lows_kept]
  have one : ∀ {ys : Ys}, (wayOf ys p = wFresh ∨ wayOf ys p = wKept ∨ ownB ys p = true) → wayOf ys p ≠ wKept → rdBy (wayOf ys p) (opBy (wayOf ys p) 0 0) (-1) 0 = 0 := fun {ys} o n => by
    rcases o with c | c | c
    · exact rd_fresh c
    · exact absurd c n
    · obtain ⟨a, b⟩ := own_ne c
      rw [rd_own a b, op_zero c]
  by_cases c : wayOf ya p = wKept
  · have c2 : wayOf yb p ≠ wKept := fun z => n ⟨fun _ => z, fun _ => c⟩
    rw [rd_kept c, one (T.b p (by rw [T.len]; exact hp)) c2]
    decide
  · have c2 : wayOf yb p = wKept := Classical.byContradiction fun z => n ⟨fun q => absurd q c, fun q => absurd q z⟩
    rw [rd_kept c2, one (T.a p hp) c]
    decide
theorem beg1 {p : Nat} (hp : p < ya.length) : Wk ya yb bs 1 (stepP ya yb (begP ya yb p (lows ya yb)) .inst) :=
  .step (.zero hp lows_len lows_le) True.intro (List.cons_ne_nil _ _)
theorem upF (T : Two ya yb) (nk : ¬ PKd ya yb) (h : PFd ya yb) : ∃ w, Wk ya yb bs 1 w ∧ unlP ya yb w := by
  obtain ⟨p, hp, n⟩ := h
  have hk : (wayOf ya p = wKept ↔ wayOf yb p = wKept) := Classical.byContradiction fun z => nk ⟨p, hp, z⟩
  refine ⟨_, beg1 hp, ?_⟩
  unfold unlP
  rw [one_last (show (stepP ya yb (begP ya yb p (lows ya yb)) .inst).op = [_] from rfl)]
  unfold rdP
  show rdBy (wayOf ya p) (opBy (wayOf ya p) 0 0) (keptP ya yb (lows ya yb) p) 1 ≠ rdBy (wayOf yb p) (opBy (wayOf yb p) 0 0) (keptP ya yb (lows ya yb) p) 1
  have wa := T.a p hp
  have wb := T.b p (by rw [T.len]; exact hp)
  have q := wayne
  by_cases c : wayOf ya p = wFresh
  · have c2 : wayOf yb p ≠ wFresh := fun z => n ⟨fun _ => z, fun _ => c⟩
    have c3 : wayOf yb p ≠ wKept := fun z => by
      have := hk.mpr z
      rw [c] at this
      exact q.1 this
    rw [rd_fresh c, rd_own c2 c3, op_zero ((wb.resolve_left c2).resolve_left c3)]
    decide
  · have c2 : wayOf yb p = wFresh := Classical.byContradiction fun z => n ⟨fun q => absurd q c, fun q => absurd q z⟩
    have c3 : wayOf ya p ≠ wKept := fun z => by
      have := hk.mp z
      rw [c2] at this
      exact q.1 this
    rw [rd_fresh c2, rd_own c c3, op_zero ((wa.resolve_left c).resolve_left c3)]
    decide
theorem Like.both (C : Like ya yb) (T : Two ya yb) {p : Nat} (hp : p < ya.length) (n : wayOf ya p ≠ wayOf yb p) : (wayOf ya p = wOnce ∧ wayOf yb p = wHanded) ∨ (wayOf ya p = wHanded ∧ wayOf yb p = wOnce) := by
  rcases T.a p hp with c | c | c
  · exact absurd (c.trans ((C.f p hp).mp c).symm) n
  · exact absurd (c.trans ((C.k p hp).mp c).symm) n
  · have c' := (C.own T hp).mp c
    rcases of_decide_eq_true c with e | e <;> rcases of_decide_eq_true c' with e' | e'
    · exact absurd (e.trans e'.symm) n
    · exact .inl ⟨e, e'⟩
    · exact .inr ⟨e, e'⟩
    · exact absurd (e.trans e'.symm) n
theorem op_once {y : Str} (h : y = wOnce) {a b : Int} : opBy y a b = b := if_pos h
theorem op_handed {y : Str} (h : y = wHanded) {a b : Int} : opBy y a b = a := by
  unfold opBy
  rw [if_neg (by rw [h]; exact fun z => wayne.2.2.2.2.2 z.symm), if_pos h]
theorem ask_unl (C : Like ya yb) (T : Two ya yb) {p q : Nat} {n1 n2 r : Int} (hq : q < p) (hp : p < ya.length) (n : wayOf ya p ≠ wayOf yb p) (hw : w.op = [(q, n1, n2)]) (h1 : (rdP ya yb w (q, n1, n2)).1 = r) (h2 : (rdP ya yb w (q, n1, n2)).2 = r) (hr : r ≠ w.now) :
    CanP ya yb bs w (.ask p) ∧ (stepP ya yb w (.ask p)).op ≠ [] ∧ unlP ya yb (stepP ya yb w (.ask p)) := by
  have el : lastO w = (q, n1, n2) := one_last hw
  have e2 : (stepP ya yb w (.ask p)).op = [(q, n1, n2), (p, opBy (wayOf ya p) r w.now, opBy (wayOf yb p) r w.now)] := by
    show w.op ++ [_] = _
    rw [hw, el, h1, h2]
    rfl
  refine ⟨⟨[], _, hw, hq, hp⟩, by rw [e2]; exact List.cons_ne_nil _ _, ?_⟩
  unfold unlP
  rw [two_last e2]
  show rdBy (wayOf ya p) (opBy (wayOf ya p) r w.now) (keptP ya yb w.kv p) w.now ≠ rdBy (wayOf yb p) (opBy (wayOf yb p) r w.now) (keptP ya yb w.kv p) w.now
  rcases C.both T hp n with ⟨e, e'⟩ | ⟨e, e'⟩
  · obtain ⟨a, b⟩ := own_ne (ys := ya) (p := p) (decide_eq_true (.inl e))
    obtain ⟨a', b'⟩ := own_ne (ys := yb) (p := p) (decide_eq_true (.inr e'))
    rw [rd_own a b, rd_own a' b', op_once e, op_handed e']
    exact fun z => hr z.symm
  · obtain ⟨a, b⟩ := own_ne (ys := ya) (p := p) (decide_eq_true (.inr e))
    obtain ⟨a', b'⟩ := own_ne (ys := yb) (p := p) (decide_eq_true (.inl e'))
    rw [rd_own a b, rd_own a' b', op_once e', op_handed e]
    exact hr
theorem up3 (T : Two ya yb) (C : Like ya yb) (h : P3d ya yb) : ∃ w, Wk ya yb bs 1 w ∧ unlP ya yb w := by
  obtain ⟨p, q, hq, hp, n, c⟩ := h
  have hq' : q < ya.length := Nat.lt_trans hq hp
  obtain ⟨a, b, d⟩ := ask_unl (bs := bs) (w := begP ya yb q (lows ya yb)) (n1 := opBy (wayOf ya q) 0 0) (n2 := opBy (wayOf yb q) 0 0) (r := -1) C T hq hp n rfl ((rd_kept c).trans lows_kept) ((rd_kept ((C.k q hq').mp c)).trans lows_kept) (show (-1 : Int) ≠ ((0 : Nat) : Int) by decide)
  exact ⟨_, .step (.zero hq' lows_len lows_le) a b, d⟩
theorem up4 (T : Two ya yb) (C : Like ya yb) (n3 : ¬ P3d ya yb) (h : P4d ya yb) : ∃ w, Wk ya yb bs 2 w ∧ unlP ya yb w := by
  obtain ⟨p, q, hq, hp, n, c⟩ := h
  have hq' : q < ya.length := Nat.lt_trans hq hp
  have c2 : wayOf ya q ≠ wKept := fun z => n3 ⟨p, q, hq, hp, n, z⟩
  have o := ((T.a q hq').resolve_left c).resolve_left c2
  have o' := (C.own T hq').mp o
  obtain ⟨c', c2'⟩ := own_ne o'
  obtain ⟨a, b, d⟩ := ask_unl (bs := bs) (w := stepP ya yb (begP ya yb q (lows ya yb)) .inst) (n1 := opBy (wayOf ya q) 0 0) (n2 := opBy (wayOf yb q) 0 0) (r := 0) C T hq hp n rfl ((rd_own c c2).trans (op_zero o)) ((rd_own c' c2').trans (op_zero o')) (show (0 : Int) ≠ ((1 : Nat) : Int) by decide)
  exact ⟨_, .step (beg1 hq') a b, d⟩
/-- the number of events between the first one and the read that parts two plans -/
inductive Least (ya yb : Ys) : Option Nat → Prop
  | two : PKd ya yb → Least ya yb (some 2)
  | three : ¬ PKd ya yb → PFd ya yb ∨ P3d ya yb → Least ya yb (some 3)
  | four : ¬ PKd ya yb → ¬ PFd ya yb → ¬ P3d ya yb → P4d ya yb → Least ya yb (some 4)
  | none : ¬ PKd ya yb → ¬ PFd ya yb → ¬ P3d ya yb → ¬ P4d ya yb → Least ya yb none
def BrkAt (ya yb : Ys) (bs : List Bool) (S : List Sd) (d : Nat) : Prop := (∃ s, Reach ya yb bs S d s ∧ ¬ Unbr ya yb bs s) ∧ ∀ k s, k < d → Reach ya yb bs S k s → Unbr ya yb bs s
theorem brk_of (T : Two ya yb) (hS : Starts ya yb S) {k : Nat} (h : ∃ w, Wk ya yb bs k w ∧ unlP ya yb w) : ∃ k' s, k' ≤ k ∧ Reach ya yb bs S k' s ∧ ¬ Unbr ya yb bs s := by
  obtain ⟨w, hw, u⟩ := h
  obtain ⟨k', hk, r⟩ := wk_reach T hS hw
  obtain ⟨hP, hne⟩ := hw.ok T
  refine ⟨k', _, hk, r, fun z => ?_⟩
  have := unbr_iff.mp z
  rw [(unl_stand T hP hne).mpr u] at this
  cases this
theorem of_brk (T : Two ya yb) (hS : Starts ya yb S) {k : Nat} {s : Sd} (r : Reach ya yb bs S k s) (u : ¬ Unbr ya yb bs s) : ∃ k' w, k' ≤ k ∧ Wk ya yb bs k' w ∧ unlP ya yb w := by
  obtain ⟨k', w, hk, hw, rfl⟩ := reach_wk T hS r
  obtain ⟨hP, hne⟩ := hw.ok T
  refine ⟨k', w, hk, hw, (unl_stand T hP hne).mp ?_⟩
  cases h : unlS ya yb (stand ya yb w) with
  | true => rfl
  | false => exact absurd (unbr_iff.mpr h) u
theorem least_brk (T : Two ya yb) (hS : Starts ya yb S) {d : Nat} (h : BrkAt ya yb bs S d) {l : Option Nat} (L : Least ya yb l) : l = some (d + 2) := by
  obtain ⟨⟨s, r, u⟩, low⟩ := h
  obtain ⟨k', w, hk, hw, uw⟩ := of_brk T hS r u
  have up : ∀ {k : Nat}, (∃ w, Wk ya yb bs k w ∧ unlP ya yb w) → d ≤ k := fun {k} q => by
    obtain ⟨k', s', hk', r', u'⟩ := brk_of T hS q
    refine Classical.byContradiction fun z => u' (low k' s' (by omega) r')
  have zero : d = 0 → PKd ya yb := fun e => by
    obtain rfl : k' = 0 := by omega
    exact low0 T hw uw
  cases L with
  | two a =>
    have := up (upK T a)
    obtain rfl : d = 0 := by omega
    rfl
  | three a b =>
    have h0 : d ≠ 0 := fun e => a (zero e)
    have h1 : d ≤ 1 := by
      by_cases c : PFd ya yb
      · exact up (upF T a c)
      · exact up (up3 T (cls_of a c) (b.resolve_left c))
    obtain rfl : d = 1 := by omega
    rfl
  | four a b c e =>
    have h2 := up (up4 T (cls_of a b) c e)
    have h1 : ¬ d ≤ 1 := fun z => by
      have C := cls_of a b
      obtain ⟨hP, hne⟩ := hw.ok T
      exact C.unl T hP hne (low1 T C c (by omega) hw) uw
    obtain rfl : d = 2 := by omega
    rfl
  | none a b c e =>
    have C := cls_of a b
    obtain ⟨hP, hne⟩ := hw.ok T
    exact absurd uw (C.unl T hP hne (lowAll T C e hw))
theorem least_tab (T : Two ya yb) (hS : Starts ya yb S) (h : ∀ k s, Reach ya yb bs S k s → Unbr ya yb bs s) {l : Option Nat} (L : Least ya yb l) : l = none := by
  have no : ∀ {k : Nat}, ¬ ∃ w, Wk ya yb bs k w ∧ unlP ya yb w := fun {k} q => by
    obtain ⟨k', s', _, r', u'⟩ := brk_of T hS q
    exact u' (h k' s' r')
  cases L with
  | two a => exact absurd (upK T a) no
  | three a b =>
    by_cases c : PFd ya yb
    · exact absurd (upF T a c) no
    · exact absurd (up3 T (cls_of a c) (b.resolve_left c)) no
  | four a b c e => exact absurd (up4 T (cls_of a b) c e) no
  | none a b c e => rfl
theorem Two.symm (T : Two ya yb) : Two yb ya := ⟨T.len.symm, T.b, T.a⟩
theorem PKd.symm (T : Two ya yb) (h : PKd ya yb) : PKd yb ya := by
  obtain ⟨p, hp, n⟩ := h
  exact ⟨p, by rw [T.len]; exact hp, fun z => n z.symm⟩
theorem PFd.symm (T : Two ya yb) (h : PFd ya yb) : PFd yb ya := by
  obtain ⟨p, hp, n⟩ := h
  exact ⟨p, by rw [T.len]; exact hp, fun z => n z.symm⟩
theorem P3d.symm (T : Two ya yb) (nk : ¬ PKd ya yb) (h : P3d ya yb) : P3d yb ya := by
  obtain ⟨p, q, hq, hp, n, c⟩ := h
  exact ⟨p, q, hq, by rw [T.len]; exact hp, fun z => n z.symm, Classical.byContradiction fun z => nk ⟨q, Nat.lt_trans hq hp, fun i => z (i.mp c)⟩⟩
theorem P4d.symm (T : Two ya yb) (nf : ¬ PFd ya yb) (h : P4d ya yb) : P4d yb ya := by
  obtain ⟨p, q, hq, hp, n, c⟩ := h
  exact ⟨p, q, hq, by rw [T.len]; exact hp, fun z => n z.symm, fun e => nf ⟨q, Nat.lt_trans hq hp, fun i => c (i.mpr e)⟩⟩
theorem Least.symm (T : Two ya yb) {l : Option Nat} (L : Least ya yb l) : Least yb ya l := by
  have T' := T.symm
  cases L with
  | two a => exact .two (a.symm T)
  | three a b => exact .three (fun z => a (z.symm T')) (b.imp (fun z => z.symm T) (fun z => z.symm T a))
  | four a b c e => exact .four (fun z => a (z.symm T')) (fun z => b (z.symm T')) (fun z => c (z.symm T' fun q => a (q.symm T'))) (e.symm T b)
  | none a b c e => exact .none (fun z => a (z.symm T')) (fun z => b (z.symm T')) (fun z => c (z.symm T' fun q => a (q.symm T'))) (fun z => e (z.symm T' fun q => b (q.symm T')))
theorem Least.self : Least ya ya Option.none :=
  .none (fun ⟨_, _, n⟩ => n Iff.rfl) (fun ⟨_, _, n⟩ => n Iff.rfl) (fun ⟨_, _, _, _, n, _⟩ => n rfl) fun ⟨_, _, _, _, n, _⟩ => n rfl
end
end K17

namespace K17
open L2 PySem PySem.Spec PyProof.Rows RZ
/-! ### where works begin -/
theorem full_of {α : Type} {l D : List α} (nd : l.Nodup) (h : ∀ x ∈ l, x ∈ D) (hl : D.length ≤ l.length) : ∀ x ∈ D, x ∈ l := by
  intro x hx
  refine Classical.byContradiction fun q => ?_
  have := nodup_le (List.nodup_cons.mpr ⟨q, nd⟩) (D := D) fun y hy => by
    rcases List.mem_cons.mp hy with rfl | z
    · exact hx
    · exact h y z
  rw [List.length_cons] at this
  omega
theorem rk_surj {L : List Int} {x : Int} {i : Nat} (hi : (i : Int) < rk L x) : ∃ y ∈ L, y < x ∧ rk L y = i := by
  have nd := nodup_map (f := rk L) (l := below L x) (fun a ha b hb e => rk_inj (mem_below.mp ha).1 (mem_below.mp hb).1 e) (below_nodup L x)
  have q := full_of nd (D := (List.range (below L x).length).map fun i : Nat => (i : Int)) (fun u hu => by
    obtain ⟨y, hy, rfl⟩ := List.mem_map.mp hu
    have h1 := (rk_lt (x := x) (mem_below.mp hy).1).mpr (mem_below.mp hy).2
    refine List.mem_map.mpr ⟨(rk L y).toNat, List.mem_range.mpr ?_, toNat_rk L y⟩
    have h2 := toNat_rk L y
    unfold rk at h1 h2 ⊢
    omega) (by rw [List.length_map, List.length_map, List.length_range]; exact Nat.le_refl _)
  have hm := q i (List.mem_map.mpr ⟨i, List.mem_range.mpr (by unfold rk at hi; omega), rfl⟩)
  obtain ⟨y, hy, e⟩ := List.mem_map.mp hm
  exact ⟨y, (mem_below.mp hy).1, (mem_below.mp hy).2, e⟩
/-- of numbers that stand without a gap up to 0, the rank -/
theorem rk_flat {L : List Int} {n : Nat} (h : ∀ y, y ∈ L ↔ -(n : Int) ≤ y ∧ y ≤ 0) {x : Int} (h0 : 0 ≤ x) (h1 : x ≤ n) : rk L (x - n) = x := by
  have e : (below L (x - n)).length = ((List.range x.toNat).map fun i : Nat => (i : Int) - n).length := by
    refine len_eq (below_nodup _ _) (nodup_map (fun a _ b _ e => by omega) List.nodup_range) fun u => ?_
    rw [mem_below, h, List.mem_map]
    constructor
    · rintro ⟨⟨a, b⟩, c⟩
      exact ⟨(u + n).toNat, List.mem_range.mpr (by omega), by omega⟩
    · rintro ⟨i, hi, rfl⟩
      have := List.mem_range.mp hi
      omega
  unfold rk
  rw [e, List.length_map, List.length_range]
  omega
/-- what is kept and the present one, where works begin: all up to the present one are held -/
def KbOk (k : Nat) (kept : List Int) (now : Nat) : Prop := kept.length = k ∧ (∀ x ∈ kept, 0 ≤ x ∧ x ≤ now) ∧ ∀ i, i < now → ((i : Nat) : Int) ∈ kept

def startS (ya yb : Ys) (p : Nat) (kept : List Int) (now : Nat) : Sd := ⟨[(p, opBy (wayOf ya p) now now, opBy (wayOf yb p) now now)], kept, now⟩
theorem opBy_own {ys : Ys} {p : Nat} {a : Int} : opBy (wayOf ys p) a a = if ownB ys p = true then a else -1 := by
  unfold opBy ownB
  by_cases c1 : wayOf ys p = wOnce
  · rw [if_pos c1, if_pos (decide_eq_true (.inl c1))]
  · rw [if_neg c1]
    by_cases c2 : wayOf ys p = wHanded
    · rw [if_pos c2, if_pos (decide_eq_true (.inr c2))]
    · rw [if_neg c2, if_neg]
      intro q
      exact (of_decide_eq_true q).elim c1 c2

theorem held_beg {ya yb : Ys} {p : Nat} {kv : List Int} {x : Int} : x ∈ hP ya yb (begP ya yb p kv) ↔ x = 0 ∨ x ∈ kv := by
  constructor
  · intro h
    rcases h_cases h with e | q | ⟨o, ho, hb, e⟩ | ⟨o, ho, hb, e⟩
    · exact .inl e
    · exact .inr q
    · rw [List.mem_singleton.mp (show o ∈ [(p, opBy (wayOf ya p) 0 0, opBy (wayOf yb p) 0 0)] from ho)] at hb e
      have e' : opBy (wayOf ya p) 0 0 = x := e
      rw [opBy_own, if_pos hb] at e'
      exact .inl e'.symm
    · rw [List.mem_singleton.mp (show o ∈ [(p, opBy (wayOf ya p) 0 0, opBy (wayOf yb p) 0 0)] from ho)] at hb e
      have e' : opBy (wayOf yb p) 0 0 = x := e
      rw [opBy_own, if_pos hb] at e'
      exact .inl e'.symm
  · rintro (e | q)
    · rw [e]
      exact now_h
    · exact kv_h q
theorem stand_beg {ya yb : Ys} {p : Nat} {kv : List Int} : stand ya yb (begP ya yb p kv) = startS ya yb p (kv.map (rk (hP ya yb (begP ya yb p kv)))) (rk (hP ya yb (begP ya yb p kv)) 0).toNat := by
  unfold stand standL startS
  generalize hP ya yb (begP ya yb p kv) = L
  show Sd.mk [(p, if ownB ya p = true then rk L (opBy (wayOf ya p) 0 0) else -1, if ownB yb p = true then rk L (opBy (wayOf yb p) 0 0) else -1)] (kv.map (rk L)) (rk L 0).toNat = Sd.mk _ _ _
  have e1 : ∀ {ys : Ys}, (if ownB ys p = true then rk L (opBy (wayOf ys p) 0 0) else -1) = opBy (wayOf ys p) (((rk L 0).toNat : Nat) : Int) (((rk L 0).toNat : Nat) : Int) := by
    intro ys
    rw [opBy_own, opBy_own, toNat_rk]
    by_cases c : ownB ys p = true
    · rw [if_pos c, if_pos c, if_pos c]
    · rw [if_neg c, if_neg c]
  rw [e1, e1]
theorem kb_of {ya yb : Ys} {p : Nat} {kv : List Int} (h0 : ∀ x ∈ kv, x ≤ 0) : KbOk kv.length (kv.map (rk (hP ya yb (begP ya yb p kv)))) (rk (hP ya yb (begP ya yb p kv)) 0).toNat ∧ (rk (hP ya yb (begP ya yb p kv)) 0).toNat ≤ kv.length := by
  refine ⟨⟨List.length_map _, fun x hx => ?_, fun i hi => ?_⟩, ?_⟩
  · obtain ⟨y, hy, rfl⟩ := List.mem_map.mp hx
    rw [toNat_rk]
    exact ⟨rk_nn _ _, rk_mono (h0 y hy)⟩
  · have q := toNat_rk (hP ya yb (begP ya yb p kv)) 0
    obtain ⟨y, hy, lt, e⟩ := rk_surj (L := hP ya yb (begP ya yb p kv)) (x := 0) (i := i) (by omega)
    rcases held_beg.mp hy with z | z
    · omega
    · exact List.mem_map.mpr ⟨y, z, e⟩
  · have := nodup_le (below_nodup (hP ya yb (begP ya yb p kv)) 0) (D := kv) fun y hy => by
      obtain ⟨q1, q2⟩ := mem_below.mp hy
      rcases held_beg.mp q1 with z | z
      · omega
      · exact z
    unfold rk
    omega
theorem start_beg {ya yb : Ys} {p : Nat} {kept : List Int} {now : Nat} (h : KbOk kept.length kept now) : startS ya yb p kept now = stand ya yb (begP ya yb p (kept.map fun x => x - now)) := by
  rw [stand_beg]
  have flat : ∀ y, y ∈ hP ya yb (begP ya yb p (kept.map fun x => x - now)) ↔ -(now : Int) ≤ y ∧ y ≤ 0 := fun y => by
    rw [held_beg, List.mem_map]
    constructor
    · rintro (rfl | ⟨x, hx, rfl⟩)
      · omega
      · have := h.2.1 x hx
        omega
    · rintro ⟨a, b⟩
      by_cases c : y = 0
      · exact .inl c
      · exact .inr ⟨y + now, by have := h.2.2 (y + now).toNat (by omega); rw [Int.toNat_of_nonneg (by omega)] at this; exact this, by omega⟩
  have e0 : rk (hP ya yb (begP ya yb p (kept.map fun x => x - now))) 0 = (now : Int) := by
    have := rk_flat flat (x := (now : Int)) (by omega) (Int.le_refl _)
    rw [Int.sub_self] at this
    exact this
  have e1 : (kept.map fun x => x - (now : Int)).map (rk (hP ya yb (begP ya yb p (kept.map fun x => x - now)))) = kept := by
    rw [List.map_map]
    conv => rhs; rw [← List.map_id kept]
    refine List.map_congr_left fun x hx => ?_
    exact rk_flat flat (h.2.1 x hx).1 (h.2.1 x hx).2
  rw [e0, e1]
  rfl


def StartsOk (ya yb : Ys) (S : List Sd) : Prop := (∀ s ∈ S, ∃ p kept now, p < ya.length ∧ KbOk (kpP ya yb).length kept now ∧ s = startS ya yb p kept now) ∧ ∀ p kept now, p < ya.length → KbOk (kpP ya yb).length kept now → now ≤ (kpP ya yb).length → startS ya yb p kept now ∈ S
theorem StartsOk.ok {ya yb : Ys} {S : List Sd} (h : StartsOk ya yb S) : Starts ya yb S where
  to := fun s hs => by
    obtain ⟨p, kept, now, hp, kb, rfl⟩ := h.1 s hs
    refine ⟨p, kept.map fun x => x - (now : Int), hp, by rw [List.length_map]; exact kb.1, fun x hx => ?_, start_beg (by rw [kb.1]; exact kb)⟩
    obtain ⟨y, hy, rfl⟩ := List.mem_map.mp hx
    have := (kb.2.1 y hy).2
    omega
  of := fun p kv hp hk h0 => by
    rw [stand_beg]
    obtain ⟨kb, le⟩ := kb_of (ya := ya) (yb := yb) (p := p) h0
    rw [hk] at kb le
    exact h.2 p _ _ hp kb le
theorem StartsOk.sound {ya yb : Ys} {S : List Sd} (h : StartsOk ya yb S) : ∀ s ∈ S, Sound ya yb s := fun s hs => by
  obtain ⟨p, kv, hp, hk, h0, rfl⟩ := h.ok.to s hs
  exact ⟨_, .beg hp hk h0, List.cons_ne_nil _ _, rfl⟩
end K17

namespace K17
open L2 PySem PySem.Spec PyProof.Rows RZ
/-! ### a search finds not too many standings -/
def numsA : List Int := -1 :: upto 4
def chA : List (Option (Int × Int)) := none :: numsA.map fun a => some (a, a)
def rowQ : Nat → List (Option (Int × Int)) → List (Nat × Int × Int)
  | _, [] => []
  | i, c :: cs => (match c with
    | some q => [(i, q.1, q.2)]
    | none => []) ++ rowQ (i + 1) cs
theorem rowQ_of : ∀ (n i : Nat) (op : List (Nat × Int × Int)), (op.map (·.1)).Pairwise (· < ·) → (∀ o ∈ op, i ≤ o.1 ∧ o.1 < i + n ∧ o.2.1 ∈ numsA ∧ o.2.2 = o.2.1) → ∃ row ∈ prodL (List.replicate n chA), rowQ i row = op
  | 0, i, op, _, ho => by
    have e1 : op = [] := by
      cases op with
      | nil => rfl
      | cons o l =>
        obtain ⟨h1, h2, _⟩ := ho o List.mem_cons_self
        omega
    exact ⟨[], List.mem_singleton.mpr rfl, e1.symm⟩
  | n + 1, i, op, asc, ho => by
    obtain ⟨oo, op', eop, asc', ho', hoo⟩ : ∃ (oo : Option (Int × Int)) (op' : List (Nat × Int × Int)), op = (match oo with | some q => [(i, q.1, q.2)] | none => []) ++ op' ∧ (op'.map (·.1)).Pairwise (· < ·) ∧ (∀ o ∈ op', i + 1 ≤ o.1 ∧ o.1 < (i + 1) + n ∧ o.2.1 ∈ numsA ∧ o.2.2 = o.2.1) ∧
        oo ∈ chA := by
      have later : ∀ o ∈ op, o.1 ≠ i → i + 1 ≤ o.1 ∧ o.1 < (i + 1) + n ∧ o.2.1 ∈ numsA ∧ o.2.2 = o.2.1 := fun o h ne => by
        obtain ⟨h1, h2, h3⟩ := ho o h
        exact ⟨by omega, by omega, h3⟩
      cases op with
      | nil => exact ⟨none, [], rfl, List.Pairwise.nil, fun o h => (List.not_mem_nil h).elim, List.mem_cons_self⟩
      | cons o l =>
        rw [List.map_cons] at asc
        obtain ⟨a1, a2⟩ := List.pairwise_cons.mp asc
        have hi := (ho o List.mem_cons_self).1
        have up : ∀ o' ∈ l, o'.1 ≠ i := fun o' h => by
          have := a1 o'.1 (List.mem_map.mpr ⟨o', h, rfl⟩)
          omega
        by_cases c : o.1 = i
        · refine ⟨some o.2, l, by rw [← c]; rfl, a2, fun o' h => later o' (List.mem_cons_of_mem _ h) (up o' h), ?_⟩
          obtain ⟨_, _, h3, h4⟩ := ho o List.mem_cons_self
          exact List.mem_cons_of_mem _ (List.mem_map.mpr ⟨_, h3, congrArg some (Prod.ext rfl h4.symm)⟩)
        · refine ⟨none, o :: l, rfl, by rw [List.map_cons]; exact asc, fun o' h => later o' h ?_, List.mem_cons_self⟩
          rcases List.mem_cons.mp h with rfl | h
          · exact c
          · exact up o' h
    obtain ⟨row, hrow, e1⟩ := rowQ_of n (i + 1) op' asc' ho'
    refine ⟨oo :: row, ?_, ?_⟩
    · rw [List.replicate_succ]
      exact mem_prod hoo hrow
    · rw [eop, ← e1]
      cases oo <;> rfl
theorem kvQ_of {D : List Int} : ∀ (kv : List Int), (∀ x ∈ kv, x ∈ D) → kv ∈ prodL (List.replicate kv.length D)
  | [], _ => List.mem_singleton.mpr rfl
  | x :: kv, h => by
    rw [List.length_cons, List.replicate_succ]
    exact mem_prod (h x List.mem_cons_self) (kvQ_of kv fun y hy => h y (List.mem_cons_of_mem _ hy))

def mostS : Nat := 12800000
def allA (k : Nat) : List Sd := ((prodL (List.replicate 4 chA)).map (rowQ 0)).flatMap fun op => (prodL (List.replicate k (upto 4))).flatMap fun kv => (List.range 5).map fun now => ⟨op, kv, now⟩
theorem rep_len {α : Type} {n b : Nat} {c : List α} (h : c.length ≤ b) : (prodL (List.replicate n c)).length ≤ b ^ n := by
  have := prod_len (b := b) (cs := List.replicate n c) fun x hx => by rw [List.eq_of_mem_replicate hx]; exact h
  rwa [List.length_replicate] at this
theorem allA_len {k : Nat} (hk : k ≤ 4) : (allA k).length ≤ mostS := by
  have h1 : ((prodL (List.replicate 4 chA)).map (rowQ 0)).length ≤ 2401 := by
    rw [List.length_map]
    exact rep_len (b := 7) (Nat.le_of_eq (by decide +kernel))
  have h2 : (prodL (List.replicate k (upto 4))).length ≤ 625 := by
    refine Nat.le_trans (rep_len (b := 5) (by rw [upto_len]; exact Nat.le_refl _)) ?_
    exact Nat.le_trans (Nat.pow_le_pow_right (by omega) hk) (by decide)
  have h3 := flat_len (f := fun op : List (Nat × Int × Int) => (prodL (List.replicate k (upto 4))).flatMap fun kv => (List.range 5).map fun now => (⟨op, kv, now⟩ : Sd)) (b := 625 * 5) (l := (prodL (List.replicate 4 chA)).map (rowQ 0)) fun op _ => by
    have := flat_len (f := fun kv : List Int => (List.range 5).map fun now => (⟨op, kv, now⟩ : Sd)) (b := 5) (l := prodL (List.replicate k (upto 4))) fun kv _ => by rw [List.length_map, List.length_range]; exact Nat.le_refl _
    exact Nat.le_trans this (Nat.mul_le_mul_right _ h2)
  exact Nat.le_trans h3 (Nat.le_trans (Nat.mul_le_mul_right _ h1) (by decide))
section
variable {ya yb : Ys} {bs : List Bool} {S : List Sd}
/-- of plans that are alike, ranks are small -/
theorem rk_small {w : Ws} (h4 : ya.length ≤ 4) (T : Two ya yb) (C : Like ya yb) (h : PW ya yb w) (E : Eqv ya w) {x : Int} (hx : x ≤ w.now) : rk (hP ya yb w) x ≤ 4 := by
  have sub : ∀ y ∈ below (hP ya yb w) x, y ∈ w.kv ++ (w.op.filter fun o => ownB ya o.1).map (·.2.1) := fun y hy => by
    obtain ⟨h1, h2⟩ := mem_below.mp hy
    rcases h_cases h1 with e | q | ⟨o, ho, hb, e⟩ | ⟨o, ho, hb, e⟩
    · omega
    · exact List.mem_append_left _ q
    · exact List.mem_append_right _ (List.mem_map.mpr ⟨o, List.mem_filter.mpr ⟨ho, hb⟩, e⟩)
    · have hb' := (C.own T (h.op o ho)).mpr hb
      exact List.mem_append_right _ (List.mem_map.mpr ⟨o, List.mem_filter.mpr ⟨ho, hb'⟩, by rw [← e]; exact E o ho hb'⟩)
  have h1 := nodup_le (below_nodup (hP ya yb w) x) sub
  have nd2 : ((w.op.filter fun o => ownB ya o.1).map (·.1)).Nodup := by
    have q : ((w.op.filter fun o => ownB ya o.1).map (·.1)).Pairwise (· < ·) := h.asc.sublist ((List.filter_sublist).map _)
    exact q.imp fun z => Nat.ne_of_lt z
  have nd1 : (kpP ya yb).Nodup := List.nodup_range.filter _
  have nd : (kpP ya yb ++ (w.op.filter fun o => ownB ya o.1).map (·.1)).Nodup := by
    rw [List.nodup_append]
    refine ⟨nd1, nd2, fun a ha b hb e => ?_⟩
    obtain ⟨o, ho, rfl⟩ := List.mem_map.mp hb
    obtain ⟨ho1, ho2⟩ := List.mem_filter.mp ho
    have ka := mem_kpP.mp ha
    rw [e] at ka
    have n := own_ne (ys := ya) ho2
    have n' := own_ne (ys := yb) ((C.own T (h.op o ho1)).mp ho2)
    exact ka.2.elim n.2 n'.2
  have h2 := nodup_le nd (D := List.range ya.length) fun p hp => by
    rcases List.mem_append.mp hp with q | q
    · exact List.mem_range.mpr (mem_kpP.mp q).1
    · obtain ⟨o, ho, rfl⟩ := List.mem_map.mp q
      exact List.mem_range.mpr (h.op o (List.mem_filter.mp ho).1)
  rw [List.length_append, List.length_map] at h1
  rw [List.length_append, List.length_map, List.length_range] at h2
  have h3 := h.kv
  unfold rk
  omega
theorem stand_allA {w : Ws} (h4 : ya.length ≤ 4) (T : Two ya yb) (C : Like ya yb) (h : PW ya yb w) (E : Eqv ya w) : stand ya yb w ∈ allA (kpP ya yb).length := by
  have hb : ∀ x, x ∈ hP ya yb w → rk (hP ya yb w) x ∈ upto 4 := fun x hx => mem_upto.mpr ⟨rk_nn _ _, rk_small h4 T C h E (h_le h x hx)⟩
  have hnow := mem_upto.mp (hb _ (now_h (ya := ya) (yb := yb) (w := w)))
  obtain ⟨row, hrow, e1⟩ := rowQ_of 4 0 (w.op.map (stO ya yb (hP ya yb w))) (by rw [List.map_map]; exact h.asc) fun o ho => by
    obtain ⟨o', ho', rfl⟩ := List.mem_map.mp ho
    have lt := h.op o' ho'
    refine ⟨Nat.zero_le _, by show o'.1 < 0 + 4; omega, ?_, ?_⟩
    · show (if ownB ya o'.1 = true then rk (hP ya yb w) o'.2.1 else -1) ∈ numsA
      by_cases c : ownB ya o'.1 = true
      · rw [if_pos c]
        exact List.mem_cons_of_mem _ (hb _ (o1_h ho' c))
      · rw [if_neg c]
        exact List.mem_cons_self
    · show (if ownB yb o'.1 = true then rk (hP ya yb w) o'.2.2 else -1) = if ownB ya o'.1 = true then rk (hP ya yb w) o'.2.1 else -1
      by_cases c : ownB ya o'.1 = true
      · rw [if_pos c, if_pos ((C.own T lt).mp c), E o' ho' c]
      · rw [if_neg c, if_neg fun z => c ((C.own T lt).mpr z)]
  have ekv := kvQ_of (D := upto 4) (w.kv.map (rk (hP ya yb w))) fun x hx => by
    obtain ⟨y, hy, rfl⟩ := List.mem_map.mp hx
    exact hb y (kv_h hy)
  rw [List.length_map, h.kv] at ekv
  refine List.mem_flatMap.mpr ⟨_, List.mem_map.mpr ⟨row, hrow, rfl⟩, List.mem_flatMap.mpr ⟨_, ekv, List.mem_map.mpr ⟨(rk (hP ya yb w) w.now).toNat, List.mem_range.mpr ?_, ?_⟩⟩⟩
  · have := toNat_rk (hP ya yb w) w.now
    omega
  · rw [e1]
    rfl
def lvl (ya yb : Ys) (bs : List Bool) (S : List Sd) : Nat → List Sd
  | 0 => S
  | k + 1 => (lvl ya yb bs S k).flatMap fun s => (movesS ya yb bs s).map fun v => settle v.raw
theorem reach_lvl : ∀ {k : Nat} {s : Sd}, Reach ya yb bs S k s → s ∈ lvl ya yb bs S k
  | _, _, .zero h => h
  | _, _, .step r hv _ _ => List.mem_flatMap.mpr ⟨_, reach_lvl r, List.mem_map.mpr ⟨_, hv, rfl⟩⟩
theorem moves_len {s : Sd} (h4 : ya.length ≤ 4) : (movesS ya yb bs s).length ≤ 12 := by
  have h1 := List.length_filterMap_le (moveQ ya yb bs s) (qev ya.length)
  have h2 : (qev ya.length).length = 3 + (ya.length + ya.length) := by
    unfold qev
    rw [List.length_append, List.length_append, List.length_map, List.length_map, List.length_range]
    rfl
  unfold movesS
  rw [List.length_append]
  show _ + 1 ≤ 12
  omega
theorem lvl_len (h4 : ya.length ≤ 4) (lS : S.length ≤ 4000) : ∀ k, (lvl ya yb bs S k).length ≤ 4000 * 12 ^ k
  | 0 => by rw [Nat.pow_zero, Nat.mul_one]; exact lS
  | k + 1 => by
    have h1 := flat_len (f := fun s => (movesS ya yb bs s).map fun v => settle v.raw) (b := 12) (l := lvl ya yb bs S k) fun s _ => by rw [List.length_map]; exact moves_len h4
    have h2 := Nat.mul_le_mul_right 12 (lvl_len h4 lS k)
    rw [Nat.pow_succ, ← Nat.mul_assoc]
    exact Nat.le_trans h1 h2
theorem lim (T : Two ya yb) (h4 : ya.length ≤ 4) (so : StartsOk ya yb S) (lS : S.length ≤ 4000) {d : Nat} {F : Fd} (nd : (keysF F).Nodup) (rch : ∀ s ∈ keysF F, ∃ k, k ≤ d + 1 ∧ Reach ya yb bs S k s) (ok : ∀ k s, k < d → Reach ya yb bs S k s → Unbr ya yb bs s) : F.length ≤ mostS := by
  have lF : (keysF F).length = F.length := List.length_map _
  have brk : ∀ {k : Nat}, k ≤ 2 → (∃ w, Wk ya yb bs k w ∧ unlP ya yb w) → F.length ≤ mostS := fun {k} hk q => by
    obtain ⟨k', s, hk', r, u⟩ := brk_of T so.ok q
    have hd : d ≤ k' := Classical.byContradiction fun z => u (ok k' s (by omega) r)
    have := nodup_le nd (D := lvl ya yb bs S 0 ++ (lvl ya yb bs S 1 ++ (lvl ya yb bs S 2 ++ lvl ya yb bs S 3))) fun s hs => by
      obtain ⟨j, hj, rj⟩ := rch s hs
      have m := reach_lvl rj
      have j3 : j ≤ 3 := by omega
      match j, j3, m with
      | 0, _, m => exact List.mem_append_left _ m
      | 1, _, m => exact List.mem_append_right _ (List.mem_append_left _ m)
      | 2, _, m => exact List.mem_append_right _ (List.mem_append_right _ (List.mem_append_left _ m))
      | 3, _, m => exact List.mem_append_right _ (List.mem_append_right _ (List.mem_append_right _ m))
    rw [List.length_append, List.length_append, List.length_append, lF] at this
    have l0 := lvl_len (ya := ya) (yb := yb) (bs := bs) h4 lS 0
    have l1 := lvl_len (ya := ya) (yb := yb) (bs := bs) h4 lS 1
    have l2 := lvl_len (ya := ya) (yb := yb) (bs := bs) h4 lS 2
    have l3 := lvl_len (ya := ya) (yb := yb) (bs := bs) h4 lS 3
    simp only [Nat.pow_zero, Nat.pow_one, Nat.reducePow, Nat.reduceMul] at l0 l1 l2 l3
    show F.length ≤ 12800000
    omega
  by_cases c1 : PKd ya yb
  · exact brk (k := 0) (by omega) (upK T c1)
  by_cases c2 : PFd ya yb
  · exact brk (k := 1) (by omega) (upF T c1 c2)
  have C := cls_of c1 c2
  by_cases c3 : P3d ya yb
  · exact brk (k := 1) (by omega) (up3 T C c3)
  by_cases c4 : P4d ya yb
  · exact brk (k := 2) (by omega) (up4 T C c3 c4)
  have := nodup_le nd (D := allA (kpP ya yb).length) fun s hs => by
    obtain ⟨j, _, rj⟩ := rch s hs
    obtain ⟨k', w, _, hw, rfl⟩ := reach_wk T so.ok rj
    exact stand_allA h4 T C (hw.ok T).1 (lowAll T C c4 hw)
  have l := allA_len (k := (kpP ya yb).length) (Nat.le_trans kpP_len h4)
  omega
end
end K17

namespace K17
open L2 PySem PySem.Spec PyProof.Rows
abbrev sReadBy : Stmt := top 17
abbrev sOpenedBy : Stmt := top 18
structure TxtA (K : PySem.W.Frag) (mg : Str → Option Value) : Prop extends Txt5 K mg where
  bool : mg "bool" = none
  tuple : mg "tuple" = none
  none1 : ∃ t, mg "NONE" = some (.int (-1) t)
  owning : ∃ p, mg "OWNING" = some (.ref p) ∧ SqT K (fun _ => none) p ([.str wOnce, .str wHanded] : List V)
section
variable {base : Heap} {P : Program} {w : World} {K : PySem.W.Frag} {mg : Str → Option Value}
theorem sqT_same {K : PySem.W.Frag} {H H' : Hp} {p : Addr} {xs : List V} (s : Same H H') (h : SqT K H p xs) : SqT K H' p xs := by
  rcases h with (h | ⟨o, h⟩) | h
  · exact .inl (.inl (s _ _ h))
  · exact .inl (.inr ⟨o, s _ _ h⟩)
  · exact .inr h
def spIsInt : Sp := fun vs H Q _ => ∃ n : Int, vs = [.int n] ∧ Q (.bl true) H
def spIsRow (K : PySem.W.Frag) : Sp := fun vs H Q _ => ∃ (p : Addr) (xs : List V) (m : Nat), vs = [.ref p, .int m] ∧ TyX K H (.ref p) (.type "tuple") ∧ SqT K H p xs ∧ Q (.bl (decide (xs.length = m))) H
theorem int_dec {a b : Nat} : decide (V.int (a : Int) = V.int (b : Int)) = decide (a = b) := decide_eq_decide.mpr ⟨fun z => by have := V.int.inj z; omega, fun z => by rw [z]⟩
def spIsNumber : Sp := fun vs H Q _ => ∃ n a b : Int, vs = [.int n, .int a, .int b] ∧ a ≤ n ∧ n ≤ b ∧ Q (.bl true) H
def spAreNumbers (K : PySem.W.Frag) : Sp := fun vs H Q _ => ∃ (p : Addr) (ns : List Int) (m : Nat) (a b : Int), vs = [.ref p, .int m, .int a, .int b] ∧ H p = some (.tup (ns.map V.int)) ∧ ns.length = m ∧ m ≤ 1000 ∧ (∀ n ∈ ns, a ≤ n ∧ n ≤ b) ∧ ∀ H', Same H H' → Q (.bl true) H'
/-! ### by a way -/
def spReadBy : Sp := fun vs H Q _ => ∃ (y : Str) (num k now : Int), vs = [.str y, .int num, .int k, .int now] ∧ Q (.int (rdBy y num k now)) H
theorem scReadBy : FnScope ["way", "number", "keeps", "present"] ["way", "number", "keeps", "present"] (defScope sReadBy) := ⟨rfl, rfl, rfl, by decide +kernel, rfl, by decide +kernel, by decide +kernel⟩
theorem str_dec {a b : Str} : decide (V.str a = V.str b) = decide (a = b) := decide_eq_decide.mpr ⟨V.str.inj, congrArg V.str⟩
theorem ok_readBy {f : Addr} {fd : FuncData} (F : Fun K "read_by" "read_by" sReadBy f fd) : FnOk P w K mg base CX0 1 f fd ["way", "number", "keeps", "present"] spReadBy := by
  refine F.ok scReadBy (fun vs H Q E h => ?_) (fun cdv A outer s H vs Q E hr h => ?_)
  · obtain ⟨y, num, k, now, rfl, _⟩ := h
    rfl
  · obtain ⟨y, num, k, now, rfl, q⟩ := h
    refine ⟨_, pss_cons (ps_if (pt_cmpR op_eq (pv 0) pe_str (nomark _)) (pss_one (ps_ret (pv 3))) pss_nil)
      (pss_cons (ps_if (pt_cmpR op_eq (pv 0) pe_str (nomark _)) (pss_one (ps_ret (pv 2))) pss_nil)
      (pss_one (ps_ret (pv 1)))), ?_⟩
    unfold rdBy at q
    refine ⟨_, rfl, rfl, _, rfl, ?_⟩
    refine ite2 (fun z => ?_) (fun z => ?_)
    · have z' := V.str.inj (of_decide_eq_true z)
      rw [if_pos (show y = wFresh from z')] at q
      exact ⟨_, rfl, q⟩
    have z' : ¬ y = wFresh := fun e => z (decide_eq_true (by rw [e]; rfl))
    rw [if_neg z'] at q
    refine ⟨_, rfl, rfl, _, rfl, ?_⟩
    refine ite2 (fun z => ?_) (fun z => ?_)
    · have z' := V.str.inj (of_decide_eq_true z)
      rw [if_pos (show y = wKept from z')] at q
      exact ⟨_, rfl, q⟩
    have z' : ¬ y = wKept := fun e => z (decide_eq_true (by rw [e]; rfl))
    rw [if_neg z'] at q
    exact ⟨_, rfl, q⟩
def spOpenedBy : Sp := fun vs H Q _ => ∃ (y : Str) (asked now : Int), vs = [.str y, .int asked, .int now] ∧ Q (.int (opBy y asked now)) H
theorem scOpenedBy : FnScope ["way", "asked", "present"] ["way", "asked", "present"] (defScope sOpenedBy) := ⟨rfl, rfl, rfl, by decide +kernel, rfl, by decide +kernel, by decide +kernel⟩
theorem ok_openedBy {f : Addr} {fd : FuncData} (F : Fun K "opened_by" "opened_by" sOpenedBy f fd) (T : TxtA K mg) : FnOk P w K mg base CX0 1 f fd ["way", "asked", "present"] spOpenedBy := by
  refine F.ok scOpenedBy (fun vs H Q E h => ?_) (fun cdv A outer s H vs Q E hr h => ?_)
  · obtain ⟨y, asked, now, rfl, _⟩ := h
    rfl
  · obtain ⟨y, asked, now, rfl, q⟩ := h
    obtain ⟨t1, g1⟩ := T.none1
    refine ⟨_, pss_cons (ps_if (pt_cmpR op_eq (pv 0) pe_str (nomark _)) (pss_one (ps_ret (pv 2))) pss_nil)
      (pss_cons (ps_if (pt_cmpR op_eq (pv 0) pe_str (nomark _)) (pss_one (ps_ret (pv 1))) pss_nil)
      (pss_one (ps_ret (pe_glob (v := .int (-1)) (by rfl) g1 ⟨_, rfl⟩)))), ?_⟩
    unfold opBy at q
    refine ⟨_, rfl, rfl, _, rfl, ?_⟩
    refine ite2 (fun z => ?_) (fun z => ?_)
    · have z' := V.str.inj (of_decide_eq_true z)
      rw [if_pos (show y = wOnce from z')] at q
      exact ⟨_, rfl, q⟩
    have z' : ¬ y = wOnce := fun e => z (decide_eq_true (by rw [e]; rfl))
    rw [if_neg z'] at q
    refine ⟨_, rfl, rfl, _, rfl, ?_⟩
    refine ite2 (fun z => ?_) (fun z => ?_)
    · have z' := V.str.inj (of_decide_eq_true z)
      rw [if_pos (show y = wHanded from z')] at q
      exact ⟨_, rfl, q⟩
    have z' : ¬ y = wHanded := fun e => z (decide_eq_true (by rw [e]; rfl))
    rw [if_neg z'] at q
    exact q
end
end K17

namespace K17
open L2 PySem PySem.Spec PyProof.Rows
abbrev sRInit : Stmt := inClass (top 16) 0
section
variable {base : Heap} {P : Program} {w : World} {K : PySem.W.Frag} {mg : Str → Option Value}
/-! ### properties, methods -/
theorem scSelf (st : Stmt) (h : defScope st = defScope sPText) : FnScope ["self"] ["self"] (defScope st) := by
  rw [h]
  exact ⟨rfl, rfl, rfl, by decide +kernel, rfl, by decide +kernel, by decide +kernel⟩
theorem ok_get {x qual fl : Str} {st : Stmt} {f C : Addr} {fd : FuncData} {p1 p2 p3 : Pos} (F : Fun K x qual st f fd) (hs : defScope st = defScope sPText) (hb : defBody st = [.Return (some (.Attribute (.Name "self" p1) fl p2)) p3]) (c : Cls K C) (n : NoAttr K C fl) :
    FnOk P w K mg base CX0 1 f fd ["self"] (getSp C fl) := by
  (obtain ⟨oc, od, kV, doc, pm, an, cdv, ct, osl, rfl, lk, hcd⟩ := F.ex)
  exact fn_getter lk hcd (scSelf st hs) rfl hb c n
/-- a property of a class of the program -/
def HasP (P : Program) (w : World) (K : PySem.W.Frag) (mg : Str → Option Value) (base : Heap) (C : Addr) (nm fl : Str) : Prop :=
  ∃ (p g : Addr) (fd : FuncData), PropOf K C nm p g ∧ FnOk P w K mg base CX0 1 g fd ["self"] (getSp C fl) ∧ Binds K fd ["self"] []
def tGet (C : Addr) (fl : Str) (te : TE) : TE := tProp C (getSp C fl) [] E0 te
theorem pe_get {X : Cx} {C : Addr} {nm fl : Str} {e : Expr} {te : TE} {pos : Pos} (h : HasP X.prog X.w X.K X.mg X.base C nm fl) (c : Cls X.K C) (hr : Room 2 X.A) (he : PE X e te) (hab : attributeBase e nm X.env (eval e X.env) = eval e X.env := by rfl) :
    PE X (.Attribute e nm pos) (tGet C fl te) := by
  obtain ⟨p, g, fd, hp, F, hb⟩ := h
  exact pe_prop he c hp F hr hb .nil pass0 hab
/-- a method of a class of the program -/
def HasM (P : Program) (w : World) (K : PySem.W.Frag) (mg : Str → Option Value) (base : Heap) (C : Addr) (m : Str) (k : Nat) (ps : List Str) (sp : Sp) : Prop :=
  ∃ (f : Addr) (fd : FuncData), Meth K C m f ∧ FnOk P w K mg base CX0 k f fd ps sp ∧ Binds K fd ps []
theorem pe_hasM {X : Cx} {C : Addr} {m : Str} {k : Nat} {ps : List Str} {sp : Sp} {o e : Expr} {es : List Expr} {ta : TE} {t : TA} {apos pos : Pos} {pl : Sem Bool} (h : HasM X.prog X.w X.K X.mg X.base C m k ps sp) (c : Cls X.K C) (hr : Room k X.A) (he : PE X o ta) (ha : PA X (e :: es) t)
    (hst : starEach (e :: es) X.env = (false, eval e X.env) :: starEach es X.env := by rfl) (hpl : (backTo pos (starEach es X.env)).any (·.1) = false := by rfl)
    (ht : eval (.Call (.Attribute o m apos) (e :: es) [] pos) X.env = (do
      let ov ← eval o X.env
      standAt apos.atName
      let (f, first) ← holding [ov] (getMethod ov m pl)
      callWith pos f first (backTo pos (starEach (e :: es) X.env)) (backToKw pos (keywordEach [] X.env))) := by rfl) :
    PE X (.Call (.Attribute o m apos) (e :: es) [] pos) (tMeth C m sp [] E0 ta t) := by
  obtain ⟨f, fd, hm, F, hb⟩ := h
  exact pe_meth (pl := pl) he c hm F hr hb .nil pass0 ha hst hpl ht
theorem pe_hasM0 {X : Cx} {C : Addr} {m : Str} {k : Nat} {ps : List Str} {sp : Sp} {o : Expr} {ta : TE} {apos pos : Pos} {pl : Sem Bool} (h : HasM X.prog X.w X.K X.mg X.base C m k ps sp) (c : Cls X.K C) (hr : Room k X.A) (he : PE X o ta)
    (ht : eval (.Call (.Attribute o m apos) [] [] pos) X.env = (do
      let ov ← eval o X.env
      standAt apos.atName
      let (f, first) ← holding [ov] (getMethod ov m pl)
      callWith pos f first [] (backToKw pos (keywordEach [] X.env))) := by rfl) :
    PE X (.Call (.Attribute o m apos) [] [] pos) (tMeth C m sp [] E0 ta tNil) := by
  obtain ⟨f, fd, hm, F, hb⟩ := h
  exact pe_meth0 (pl := pl) he c hm F hr hb .nil pass0 ht
/-! ### plans and roads in the heap -/
def natV (l : List Nat) : List V := l.map fun (n : Nat) => V.int (n : Int)
structure PlanIs (H : Hp) (C m : Addr) (ws ys : List Str) (bs : List Bool) : Prop where
  ex : ∃ (dx a b c : Addr) (z : Str), H m = some (.ins C dx (pf z a b c)) ∧ TupD H a (ws.map V.str) ∧ TupD H b (ys.map V.str) ∧ TupD H c (bs.map V.bl)
theorem PlanIs.same {H H' : Hp} {C m : Addr} {ws ys : List Str} {bs : List Bool} (h : PlanIs H C m ws ys bs) (s : Same H H') : PlanIs H' C m ws ys bs := by
  obtain ⟨dx, a, b, c, z, e, e1, e2, e3⟩ := h.ex
  exact ⟨dx, a, b, c, z, s _ _ e, e1.same s, e2.same s, e3.same s⟩
def rdf (a c pw kp : Addr) : List (Str × V) := putF "keeping" (.ref kp) (putF "part_ways" (.ref pw) (putF "may_take" (.ref c) (putF "part_names" (.ref a) (putF "many" (.int 2) []))))
def WyAt (ya yb : List Str) (H : Hp) (t : Addr) (i : Nat) : Prop := TupD H t [.str (wayOf ya i), .str (wayOf yb i)]
structure RoadAt (H : Hp) (C r : Addr) (ws ya yb : List Str) (bs : List Bool) : Prop where
  ex : ∃ (dx a c pw kp : Addr) (ts : List Addr), H r = some (.ins C dx (rdf a c pw kp)) ∧ TupD H a (ws.map V.str) ∧ TupD H c (bs.map V.bl) ∧ TupD H pw (ts.map V.ref) ∧ Paired (WyAt ya yb H) ts (List.range ya.length) ∧ TupD H kp (natV (kpP ya yb))
theorem paired_mono {α β : Type} {R S : α → β → Prop} (f : ∀ a b, R a b → S a b) : ∀ {xs : List α} {ys : List β}, Paired R xs ys → Paired S xs ys
  | _, _, .nil => .nil
  | _, _, .cons h k => .cons (f _ _ h) (paired_mono f k)
theorem paired_get {α β : Type} {R : α → β → Prop} : ∀ {xs : List α} {ys : List β}, Paired R xs ys → ∀ {i : Nat} {x : α}, xs[i]? = some x → ∃ y, ys[i]? = some y ∧ R x y
  | _, _, .cons h _, 0, x, e => by
    cases e
    exact ⟨_, rfl, h⟩
  | _, _, .cons _ k, i + 1, x, e => by
    obtain ⟨y, e1, e2⟩ := paired_get k (i := i) (x := x) e
    exact ⟨y, e1, e2⟩
theorem paired_get' {α β : Type} {R : α → β → Prop} : ∀ {xs : List α} {ys : List β}, Paired R xs ys → ∀ {i : Nat} {y : β}, ys[i]? = some y → ∃ x, xs[i]? = some x ∧ R x y
  | _, _, .cons h _, 0, x, e => by
    cases e
    exact ⟨_, rfl, h⟩
  | _, _, .cons _ k, i + 1, x, e => by
    obtain ⟨y, e1, e2⟩ := paired_get' k (i := i) (y := x) e
    exact ⟨y, e1, e2⟩
theorem paired_snoc {α β : Type} {R : α → β → Prop} {a : α} {b : β} : ∀ {xs : List α} {ys : List β}, Paired R xs ys → R a b → Paired R (xs ++ [a]) (ys ++ [b])
  | _, _, .nil, h => .cons h .nil
  | _, _, .cons h k, q => .cons h (paired_snoc k q)
theorem RoadAt.same {H H' : Hp} {C r : Addr} {ws ya yb : List Str} {bs : List Bool} (h : RoadAt H C r ws ya yb bs) (s : Same H H') : RoadAt H' C r ws ya yb bs := by
  obtain ⟨dx, a, c, pw, kp, ts, e, e1, e2, e3, e4, e5⟩ := h.ex
  exact ⟨dx, a, c, pw, kp, ts, s _ _ e, e1.same s, e2.same s, e3.same s, paired_mono (fun t y q => TupD.same q s) e4, e5.same s⟩
structure RoadT (K : PySem.W.Frag) (mg : Str → Option Value) (C : Addr) : Prop where
  cl : Cls K C
  gR : mg "Road" = some (.ref C)
  n1 : NoAttr K C "many"
  n2 : NoAttr K C "part_names"
  n3 : NoAttr K C "may_take"
  n4 : NoAttr K C "part_ways"
  n5 : NoAttr K C "keeping"
/-- what Road's __init__ knows of Plan -/
structure PlanK (P : Program) (w : World) (K : PySem.W.Frag) (mg : Str → Option Value) (base : Heap) (C : Addr) : Prop where
  cl : Cls K C
  p1 : HasP P w K mg base C "parts" "_parts"
  p2 : HasP P w K mg base C "ways" "_ways"
  p3 : HasP P w K mg base C "takes" "_takes"
def spRI (C CP : Addr) : Sp := fun vs H Q _ => ∃ (r dx t m mo : Addr) (ws ya yb : List Str) (bs : List Bool), vs = [.ref r, .ref t] ∧ H r = some (.ins C dx []) ∧ H t = some (.tup [.ref m, .ref mo]) ∧ PlanIs H CP m ws ya bs ∧ PlanIs H CP mo ws yb bs ∧ ya.length = ws.length ∧ yb.length = ws.length ∧ bs.length = ws.length ∧ ws.length ≤ 4 ∧
  ∀ H', Keep r H H' → RoadAt H' C r ws ya yb bs → Q .non H'
abbrev nRInit : List Str := ["self", "plans", "first", "at", "plan", "ways"]
theorem scRInit : FnScope nRInit ["self", "plans"] (defScope sRInit) := ⟨rfl, rfl, rfl, by decide +kernel, rfl, by decide +kernel, by decide +kernel⟩
structure TxtB (K : PySem.W.Frag) (mg : Str → Option Value) : Prop extends TxtA K mg where
  enumerate : mg "enumerate" = none
theorem keep_of {r b C dx : Addr} {H H' : Hp} {fs : List (Str × V)} {o : HO} (k : Keep r H H') (hr : H r = some (.ins C dx fs)) (e : H b = some o) (no : ∀ fs, o ≠ .ins C dx fs) : H' b = some o := k b o (fun z => by
  rw [z, hr] at e
  exact no _ (Option.some.inj e).symm) e
theorem kpP_step (ya yb : Ys) (i : Nat) : ((List.range (i + 1)).filter fun j => decide (wayOf ya j = wKept) || decide (wayOf yb j = wKept)) = ((List.range i).filter fun j => decide (wayOf ya j = wKept) || decide (wayOf yb j = wKept)) ++ (if (decide (wayOf ya i = wKept) || decide (wayOf yb i = wKept)) = true then [i] else []) := by
  rw [List.range_succ, List.filter_append]
  congr 1
  cases c : (decide (wayOf ya i = wKept) || decide (wayOf yb i = wKept)) <;> simp [List.filter, c]
theorem kept_in (y z : Str) : inV (.str wKept) [.str y, .str z] = (decide (y = wKept) || decide (z = wKept)) := by
  show ((y == wKept) || ((z == wKept) || false)) = _
  rw [Bool.or_false]
  rfl
abbrev blkR : Scope := { kind := ScopeKind.function, names := [(Str.ofString ".0", NameKind.local), (Str.ofString "at", NameKind.cell), (Str.ofString "tuple", NameKind.globalImplicit), (Str.ofString "plans", NameKind.cell)], isGenerator := false, isCoroutine := false }
theorem ok_rinit {f C CP : Addr} {fd : FuncData} (F : Fun K "__init__" "Road.__init__" sRInit f fd) (T : TxtB K mg) (R : RoadT K mg C) (PK : PlanK P w K mg base CP) : FnOk P w K mg base CX0 3 f fd ["self", "plans"] (spRI C CP) := by
  refine F.ok scRInit (fun vs H Q E h => ?_) (fun cdv A outer s H vs Q E hr h => ?_)
  · obtain ⟨r, dx, t, m, mo, ws, ya, yb, bs, rfl, _⟩ := h
    rfl
  · obtain ⟨r, dx, t, m, mo, ws, ya, yb, bs, rfl, hrr, ht, pl, pl2, ly, ly2, lb, w4, k⟩ := h
    have r2 : Room 2 _ := hr.mono (by decide)
    refine ⟨_, pss_cons (ps_set (i := 2) scRInit.nd rfl (.inl rfl) (pe_ix ix_tup (pv 1) pe_int (fun _ _ => rfl)))
      (pss_cons (ps_fld (pv 0) (pe_callB call_len_seq (by rfl) T.len PySem.boot_len (pa_cons (pv 1) pa_nil)) rfl)
      (pss_cons (ps_fld (pv 0) (pe_get PK.p1 PK.cl r2 (pv 2)) rfl)
      (pss_cons (ps_fld (pv 0) (pe_get PK.p3 PK.cl r2 (pv 2)) rfl)
      (pss_cons (ps_fld (pv 0) (pe_callTy call_tupD (by rfl) T.tuple (by decide +kernel) (pa_cons (pe_lc (own := [("at", 3)]) (g := gName 3) (tt := tYes) (te := tCB (rTupD K) (tCons (tLc (iTup K (tVar 1)) (gName 4) tYes (tOp (rIxT K) (tGet CP "_ways" (tVar 4)) (tVar 3)) [4]) tNil)) rfl scRInit.nd
          (pi_range1 (by rfl) T.range (pa_cons (pe_callB call_len_seq (by rfl) T.len PySem.boot_len (pa_cons (pe_get PK.p1 PK.cl r2 (pv 2)) pa_nil)) pa_nil))
          (blkOk_by (N := nRInit) (sc := defScope sRInit) (by decide +kernel)) (fun _ _ _ _ _ => pg_name (i := 3) scRInit.nd rfl (Or.inr rfl)) (fun _ _ _ _ _ => pts_nil)
          (fun _ _ _ _ _ => pe_callTy call_tupD (by rfl) T.tuple (by decide +kernel) (pa_cons (pe_lc (own := [("plan", 4)]) (g := gName 4) (tt := tYes) rfl scRInit.nd (pi_tup (pv 1))
            (blkOk_by (N := nRInit) (sc := blkR) (by decide +kernel)) (fun _ _ _ _ _ => pg_name (i := 4) scRInit.nd rfl (Or.inl rfl)) (fun _ _ _ _ _ => pts_nil)
            (fun _ _ _ _ _ => pe_ix (r := rIxT K) ix_tup (pe_get PK.p2 PK.cl r2 (pv 4)) (pv 3) (fun _ _ => rfl))) pa_nil))) pa_nil)) rfl)
      (pss_one (ps_fld (pv 0) (pe_callTy call_tupD (by rfl) T.tuple (by decide +kernel) (pa_cons (pe_lc (own := [("at", 3), ("ways", 5)]) (g := gTup K 2 (gCons (gName 3) (gCons (gName 5) gNil))) rfl scRInit.nd
          (pi_enumT (by rfl) T.enumerate (pa_cons (pe_fld (pv 0) rfl) pa_nil))
          (blkOk_by (N := nRInit) (sc := defScope sRInit) (by decide +kernel)) (fun _ _ _ _ _ => pg_tup rfl (pgs_cons (pg_name (i := 3) scRInit.nd rfl (Or.inl rfl)) (pgs_cons (pg_name (i := 5) scRInit.nd rfl (Or.inl rfl)) pgs_nil)))
          (fun _ _ _ _ _ => pts_one (pt_cmpR (r := rIn K false) op_in_seq pe_str (pv 5) (by rfl))) (fun _ _ _ _ _ => pv 3)) pa_nil)) rfl)))))), ?_⟩
    obtain ⟨dm, a, b, c, z, em, ha, hb, hc⟩ := pl.ex
    have nmr : m ≠ r := fun e => by
      rw [e, hrr] at em
      have q := (HO.ins.inj (Option.some.inj em)).2.2
      exact absurd (congrArg List.length q) (show ¬ (0 : Nat) = 4 by decide)
    obtain ⟨dm', a', b', c', z', em', _, hb', _⟩ := pl2.ex
    have nmr' : mo ≠ r := fun e => by
      rw [e, hrr] at em'
      have q := (HO.ins.inj (Option.some.inj em')).2.2
      exact absurd (congrArg List.length q) (show ¬ (0 : Nat) = 4 by decide)
    refine ⟨_, rfl, t, _, 0, .ref m, rfl, rfl, SqT.of ht, atI_nat (j := 0) rfl, ?_⟩
    refine ⟨_, rfl, t, _, rfl, .inr (SqT.of ht), _, rfl, r, C, dx, [], rfl, hrr, R.cl, R.n1, by decide, ?_⟩
    have m1 : (upd H r (.ins C dx (putF "many" (.int (([V.ref m, V.ref mo] : List V).length : Int)) []))) m = some (.ins CP dm (pf z a b c)) := by rw [upd_ne nmr]; exact em
    refine ⟨_, rfl, m, dm, _, rfl, m1, m, dm, _, .ref a, rfl, m1, rfl, _, rfl, r, C, dx, _, rfl, upd_same, R.cl, R.n2, by (show 1 < 1000; decide), ?_⟩
    rw [upd_upd]
    have m2 : (upd H r (.ins C dx (putF "part_names" (.ref a) (putF "many" (.int (([V.ref m, V.ref mo] : List V).length : Int)) [])))) m = some (.ins CP dm (pf z a b c)) := by rw [upd_ne nmr]; exact em
    refine ⟨_, rfl, m, dm, _, rfl, m2, m, dm, _, .ref c, rfl, m2, rfl, _, rfl, r, C, dx, _, rfl, upd_same, R.cl, R.n3, by (show 2 < 1000; decide), ?_⟩
    rw [upd_upd]
    have k4 : Keep r H (upd H r (.ins C dx (putF "may_take" (.ref c) (putF "part_names" (.ref a) (putF "many" (.int (([V.ref m, V.ref mo] : List V).length : Int)) []))))) := Keep.put
    have h4 : (upd H r (.ins C dx (putF "may_take" (.ref c) (putF "part_names" (.ref a) (putF "many" (.int (([V.ref m, V.ref mo] : List V).length : Int)) []))))) r = some (.ins C dx (putF "may_take" (.ref c) (putF "part_names" (.ref a) (putF "many" (.int 2) [])))) := upd_same
    generalize (upd H r (.ins C dx (putF "may_take" (.ref c) (putF "part_names" (.ref a) (putF "many" (.int (([V.ref m, V.ref mo] : List V).length : Int)) []))))) = H4 at k4 h4
    have m4 := k4 _ _ nmr em
    have m4' := k4 _ _ nmr' em'
    have t4 : H4 t = some (.tup [.ref m, .ref mo]) := k4 _ _ (fun e => by rw [e, hrr] at ht; cases ht) ht
    have a4 := ha.keep (ha.ne_ins hrr) k4
    have b4 := hb.keep (hb.ne_ins hrr) k4
    have b4' := hb'.keep (hb'.ne_ins hrr) k4
    have c4 := hc.keep (hc.ne_ins hrr) k4
    dsimp only [sFld, tCB, tCons, List.map]
    refine ⟨_, rfl, m, dm, _, rfl, m4, m, dm, _, .ref a, rfl, m4, rfl, a, _, rfl, .inr a4.sq, _, rfl, by rw [List.length_map]; omega, by rw [List.length_map]; omega, fun D nD => ?_⟩
    refine lc_range (lo := 0) (n := (((ws.map V.str).length : Nat) : Int).toNat) (fun i H' => Same H4 H' ∧ ∃ ts : List Addr, ts.length = i ∧ H' D = some (.lst (ts.map V.ref)) ∧ Paired (WyAt ya yb H') ts (List.range i)) ⟨same_upd nD, [], rfl, upd_same, .nil⟩ ?_ ?_
    · rintro i H5 hi ⟨s5, ts, lt, hD, pr⟩
      have hi' : i < ya.length := by
        rw [List.length_map] at hi
        omega
      have hi2 : i < yb.length := by omega
      have hy := way_at hi'
      have hy2 := way_at hi2
      refine ⟨rfl, _, rfl, t, rfl, ⟨_, SqT.of (s5 _ _ t4)⟩, fun D2 nD2 => ?_⟩
      refine lc_tup (K := K) (xs := [.ref m, .ref mo]) (fun j H6 => Same H5 H6 ∧ H6 D2 = some (.lst (([wayOf ya i, wayOf yb i].take j).map V.str))) ⟨same_upd nD2, upd_same⟩ (fun j H6 _ q => SqT.of (q.1 _ _ (s5 _ _ t4))) ?_ ?_
      · rintro j x H6 hx ⟨s6, hD2⟩
        have lj : j < 2 := (List.getElem?_eq_some_iff.mp hx).1
        have e0 : (0 : Int) + (i : Int) = ((i : Nat) : Int) := Int.zero_add _
        match j, lj, hx, hD2 with
        | 0, _, hx, hD2 =>
          cases hx
          have m6 := s6 _ _ (s5 _ _ m4)
          refine ⟨rfl, _, rfl, m, dm, _, rfl, m6, m, dm, _, .ref b, rfl, m6, rfl, _, rfl, b, _, _, .str (wayOf ya i), rfl, rfl, ((b4.same s5).same s6).sq, ?_, _, hD2, by (show 0 < sizeLine; decide), same_new s6 nD2, by rw [upd_same]; rfl⟩
          rw [e0]
          exact atI_nat (by rw [List.getElem?_map, hy]; rfl)
        | 1, _, hx, hD2 =>
          cases hx
          have m6 := s6 _ _ (s5 _ _ m4')
          refine ⟨rfl, _, rfl, mo, dm', _, rfl, m6, mo, dm', _, .ref b', rfl, m6, rfl, _, rfl, b', _, _, .str (wayOf yb i), rfl, rfl, ((b4'.same s5).same s6).sq, ?_, _, hD2, by (show 1 < sizeLine; decide), same_new s6 nD2, by rw [upd_same]; rfl⟩
          rw [e0]
          exact atI_nat (by rw [List.getElem?_map, hy2]; rfl)
      · rintro H6 ⟨s6, hD2⟩
        refine ⟨D2, _, rfl, SqL.of hD2, fun l o nl od => ?_⟩
        have s7 := same_upd (o := .frz o (.tup ([wayOf ya i, wayOf yb i].map V.str))) nl
        have s57 := s6.trans s7
        refine ⟨_, s57 _ _ hD, by rw [List.length_map]; exact small1000 (by omega), same_new (s5.trans s57) nD, ts ++ [l], by rw [List.length_append, lt]; rfl, by rw [upd_same, List.map_append]; rfl, ?_⟩
        rw [List.range_succ]
        have nlD : ∀ {q : Addr} {xs : List V}, TupD (upd H6 l (.frz o (.tup ([wayOf ya i, wayOf yb i].map V.str)))) q xs → TupD (upd (upd H6 l (.frz o (.tup ([wayOf ya i, wayOf yb i].map V.str)))) D (.lst (ts.map V.ref ++ [V.ref l]))) q xs := fun {q xs} h => by
          obtain ⟨o', e', d'⟩ := h
          refine ⟨o', ?_, d'⟩
          rw [upd_ne (fun z => by rw [z, s57 _ _ hD] at e'; cases e')]
          exact e'
        exact paired_snoc (paired_mono (fun q y h => nlD (TupD.same h s57)) pr) (nlD ⟨o, upd_same, od⟩)
    · rintro H5 ⟨s5, ts, lt, hD, pr⟩
      have el : (((ws.map V.str).length : Nat) : Int).toNat = ya.length := by
        rw [List.length_map, ly]
        rfl
      rw [el] at pr
      refine ⟨D, _, rfl, SqL.of hD, fun pw o npw od => ?_⟩
      have s6 := same_upd (o := .frz o (.tup (ts.map V.ref))) npw
      have s46 := s5.trans s6
      have h6 := s46 _ _ h4
      have npr : pw ≠ r := fun e => by rw [e, s5 _ _ h4] at npw; cases npw
      refine ⟨_, rfl, r, C, dx, _, rfl, h6, R.cl, R.n4, by (show 3 < 1000; decide), ?_⟩
      have k7 : Keep r H4 (upd (upd H5 pw (.frz o (.tup (ts.map V.ref)))) r (.ins C dx (putF "part_ways" (.ref pw) (putF "may_take" (.ref c) (putF "part_names" (.ref a) (putF "many" (.int 2) [])))))) := (K17.Same.keep s46).trans Keep.put
      have k57 : Keep r (upd H5 pw (.frz o (.tup (ts.map V.ref)))) (upd (upd H5 pw (.frz o (.tup (ts.map V.ref)))) r (.ins C dx (putF "part_ways" (.ref pw) (putF "may_take" (.ref c) (putF "part_names" (.ref a) (putF "many" (.int 2) [])))))) := Keep.put
      have h7 : (upd (upd H5 pw (.frz o (.tup (ts.map V.ref)))) r (.ins C dx (putF "part_ways" (.ref pw) (putF "may_take" (.ref c) (putF "part_names" (.ref a) (putF "many" (.int 2) [])))))) r = some (.ins C dx (putF "part_ways" (.ref pw) (putF "may_take" (.ref c) (putF "part_names" (.ref a) (putF "many" (.int 2) []))))) := upd_same
      have tw : ∀ {q : Addr} {xs : List V}, TupD (upd H5 pw (.frz o (.tup (ts.map V.ref)))) q xs → TupD (upd (upd H5 pw (.frz o (.tup (ts.map V.ref)))) r (.ins C dx (putF "part_ways" (.ref pw) (putF "may_take" (.ref c) (putF "part_names" (.ref a) (putF "many" (.int 2) [])))))) q xs := fun {q xs} h => h.keep (h.ne_ins h6) k57
      have pw7 : TupD (upd (upd H5 pw (.frz o (.tup (ts.map V.ref)))) r (.ins C dx (putF "part_ways" (.ref pw) (putF "may_take" (.ref c) (putF "part_names" (.ref a) (putF "many" (.int 2) [])))))) pw (ts.map V.ref) := tw ⟨o, upd_same, od⟩
      have pr7 : Paired (WyAt ya yb (upd (upd H5 pw (.frz o (.tup (ts.map V.ref)))) r (.ins C dx (putF "part_ways" (.ref pw) (putF "may_take" (.ref c) (putF "part_names" (.ref a) (putF "many" (.int 2) []))))))) ts (List.range ya.length) := paired_mono (fun q y h => tw (TupD.same h s6)) pr
      generalize (upd (upd H5 pw (.frz o (.tup (ts.map V.ref)))) r (.ins C dx (putF "part_ways" (.ref pw) (putF "may_take" (.ref c) (putF "part_names" (.ref a) (putF "many" (.int 2) [])))))) = H7 at k7 h7 pw7 pr7
      have lty : ts.length = ya.length := (Paired.length pr7).trans List.length_range
      dsimp only [sFld, tCB, tCons, tLc, List.map]
      refine ⟨_, rfl, r, C, dx, _, .ref pw, rfl, h7, R.cl, R.n4, rfl, pw, _, rfl, pw7.sq, fun D3 nD3 => ?_⟩
      have len3 : (ts.map V.ref).length = ya.length := by rw [List.length_map, lty]
      refine lc_it (walk_enumT (K := K) (a := pw) (xs := ts.map V.ref)) (fun i H' => Same H7 H' ∧ H' D3 = some (.lst (natV ((List.range i).filter fun j => decide (wayOf ya j = wKept) || decide (wayOf yb j = wKept))))) ⟨same_upd nD3, upd_same⟩ (fun i H' _ q => (pw7.same q.1).sq) ?_ ?_
      · rintro i x H8 H9 hi ⟨s8, hD3⟩ ⟨T', x1, x2, rfl, nT, rfl, e1, e2⟩
        cases e1
        have e2' : (ts.map V.ref)[i]? = some x2 := e2
        rw [List.getElem?_map] at e2'
        obtain ⟨ti, hti, rfl⟩ := Option.map_eq_some_iff.mp e2'
        obtain ⟨y, hy, hyt⟩ := paired_get pr7 hti
        have lyi := (List.getElem?_eq_some_iff.mp hy).1
        rw [List.length_range] at lyi
        rw [List.getElem?_range lyi] at hy
        cases hy
        have s9 := same_upd (o := .tup [V.int (i : Nat), V.ref ti]) nT
        have s79 := s8.trans s9
        refine ⟨T', _, rfl, SqT.of upd_same, rfl, .int (i : Nat), _, rfl, .ref ti, _, rfl, rfl, rfl, ?_⟩
        refine ⟨_, rfl, ti, _, rfl, .inr (TupD.same hyt s79).sq, rfl, rfl, _, rfl, ?_⟩
        have hD9 := s9 _ _ hD3
        refine ite2 (fun c1 => ?_) (fun c1 => ?_)
        · have c2 : (decide (wayOf ya i = wKept) || decide (wayOf yb i = wKept)) = true := by
            have c1' : inV (.str wKept) [.str (wayOf ya i), .str (wayOf yb i)] = true := c1
            rwa [kept_in] at c1'
          refine ⟨_, rfl, _, hD9, ?_, same_new s79 nD3, ?_⟩
          · unfold natV
            rw [List.length_map]
            refine Nat.lt_of_le_of_lt (List.length_filter_le _ _) ?_
            rw [List.length_range]
            exact small1000 (by omega)
          · rw [upd_same, kpP_step, if_pos c2]
            unfold natV
            rw [List.map_append]
            rfl
        · have c2 : ¬ (decide (wayOf ya i = wKept) || decide (wayOf yb i = wKept)) = true := fun e => c1 (by
            show inV (.str wKept) [.str (wayOf ya i), .str (wayOf yb i)] = true
            rw [kept_in]
            exact e)
          refine ⟨s79, ?_⟩
          rw [kpP_step, if_neg c2, List.append_nil]
          exact hD9
      · rintro H8 ⟨s8, hD3⟩
        rw [len3] at hD3
        refine ⟨D3, _, rfl, SqL.of hD3, fun kp o2 nkp od2 => ?_⟩
        have s9 := same_upd (o := .frz o2 (.tup (natV (kpP ya yb)))) nkp
        have s79 := s8.trans s9
        have h9 := s79 _ _ h7
        refine ⟨_, rfl, r, C, dx, _, rfl, h9, R.cl, R.n5, by (show 4 < 1000; decide), ?_⟩
        have k9 : Keep r (upd H8 kp (.frz o2 (.tup (natV (kpP ya yb))))) (upd (upd H8 kp (.frz o2 (.tup (natV (kpP ya yb))))) r (.ins C dx (rdf a c pw kp))) := Keep.put
        have tw9 : ∀ {q : Addr} {xs : List V}, TupD (upd H8 kp (.frz o2 (.tup (natV (kpP ya yb))))) q xs → TupD (upd (upd H8 kp (.frz o2 (.tup (natV (kpP ya yb))))) r (.ins C dx (rdf a c pw kp))) q xs := fun {q xs} h => h.keep (h.ne_ins h9) k9
        have a9 : TupD (upd H8 kp (.frz o2 (.tup (natV (kpP ya yb))))) a (ws.map V.str) := (a4.keep (a4.ne_ins h4) k7).same s79
        have c9 : TupD (upd H8 kp (.frz o2 (.tup (natV (kpP ya yb))))) c (bs.map V.bl) := (c4.keep (c4.ne_ins h4) k7).same s79
        refine k _ (((k4.trans k7).trans (K17.Same.keep s79)).trans k9) ⟨dx, a, c, pw, kp, ts, upd_same, tw9 a9, tw9 c9, tw9 (pw7.same s79), paired_mono (fun q y h => tw9 (TupD.same h s79)) pr7, tw9 ⟨o2, upd_same, od2⟩⟩
end
end K17

namespace K17
open L2 PySem PySem.Spec PyProof.Rows RZ
abbrev sRReads : Stmt := inClass (top 16) 1
abbrev sROpened : Stmt := inClass (top 16) 2
abbrev sRBegun : Stmt := inClass (top 16) 3
abbrev sRTaken : Stmt := inClass (top 16) 4
abbrev sRRenewed : Stmt := inClass (top 16) 5
/-! ### walks -/
theorem walk_zipT {K : PySem.W.Frag} {a b : Addr} {xs ys : List V} {n : Nat} (hn : n = min xs.length ys.length) : Walk (ItzT K a b) n (fun H => SqT K H a xs ∧ SqT K H b ys) (YPair (fun i => xs[i]?) (fun i => ys[i]?)) where
  goes := fun i _ hi q => ⟨xs, ys, xs[i]'(by omega), ys[i]'(by omega), q.1, q.2, List.getElem?_eq_getElem (by omega), List.getElem?_eq_getElem (by omega)⟩
  stops := fun _ q => ⟨xs, ys, q.1, q.2, by omega⟩
  yields := fun i H v H' _ q y => by
    obtain ⟨T, x, z, h1, h2, h3, h4, h5⟩ := y
    exact ⟨T, x, z, h1, h2, h3, h4 xs q.1, h5 ys q.2⟩
theorem walk_zipM {K : PySem.W.Frag} {a b : Addr} {xs ys : List V} {n : Nat} (h1 : xs.length = n) (h2 : ys.length = n) : Walk (ItzM K a b) n (fun H => SqT K H a xs ∧ SqL K H b ys) (YPair (fun i => xs[i]?) (fun i => ys[i]?)) where
  goes := fun i _ hi q => ⟨xs, ys, xs[i]'(by omega), ys[i]'(by omega), q.1, q.2, List.getElem?_eq_getElem (by omega), List.getElem?_eq_getElem (by omega)⟩
  stops := fun _ q => ⟨xs, ys, q.1, q.2, h1, h2⟩
  yields := fun i H v H' _ q y => by
    obtain ⟨T, x, z, h1, h2, h3, h4, h5⟩ := y
    exact ⟨T, x, z, h1, h2, h3, h4 xs q.1, h5 ys q.2⟩
/-! ### whole numbers in tuples -/
theorem natV_flat (l : List Nat) : (natV l).all flatV = true := by
  unfold natV
  rw [List.all_map]
  exact List.all_eq_true.mpr fun _ _ => rfl
theorem eqV_int (a b : Nat) : eqV (.int (a : Int)) (.int (b : Int)) = decide (a = b) := by
  show ((a : Int) == (b : Int)) = _
  rw [Bool.eq_iff_iff, beq_iff_eq, decide_eq_true_eq]
  omega
theorem inV_nat (p : Nat) : ∀ l : List Nat, inV (.int (p : Int)) (natV l) = decide (p ∈ l)
  | [] => rfl
  | a :: l => by
    show (eqV (.int (a : Int)) (.int (p : Int)) || inV (.int (p : Int)) (natV l)) = _
    rw [inV_nat p l, eqV_int, Bool.eq_iff_iff]
    simp only [Bool.or_eq_true, decide_eq_true_eq, List.mem_cons]
    exact ⟨fun h => h.elim (fun e => .inl e.symm) .inr, fun h => h.elim (fun e => .inl e.symm) .inr⟩
theorem natV_at {l : List Nat} {i p : Nat} (h : l[i]? = some p) : (natV l)[i]? = some (.int (p : Int)) := by
  unfold natV
  rw [List.getElem?_map, h]
  rfl
section
variable {base : Heap} {P : Program} {w : World} {K : PySem.W.Frag} {mg : Str → Option Value}
def intV (l : List Int) : List V := l.map V.int
def spReads (K : PySem.W.Frag) (C : Addr) : Sp := fun vs H Q _ => ∃ (r o kt p : Nat) (ws ya yb : List Str) (bs : List Bool) (p0 num id now : Int) (kv : List Int), vs = [.ref r, .int (p : Int), .ref o, .ref kt, .int now] ∧ RoadAt H C r ws ya yb bs ∧ p < ya.length ∧ ya.length ≤ 4 ∧
  SqT K H o [.int p0, .int num, .int id] ∧ SqT K H kt (intV kv) ∧ kv.length = (kpP ya yb).length ∧ ∀ H' t, Same H H' → TupD H' t [.int (rdBy (wayOf ya p) num (keptP ya yb kv p) now), .int (rdBy (wayOf yb p) id (keptP ya yb kv p) now)] → Q (.ref t) H'
abbrev nReads : List Str := ["self", "part", "opening", "kept", "present", "keeps", "ways", "way", "number"]
theorem scReads : FnScope nReads ["self", "part", "opening", "kept", "present"] (defScope sRReads) := ⟨rfl, rfl, rfl, by decide +kernel, rfl, by decide +kernel, by decide +kernel⟩
theorem ok_reads {f C : Addr} {fd : FuncData} (F : Fun K "reads" "Road.reads" sRReads f fd) (T : TxtB K mg) (R : RoadT K mg C) (G : Has P w K mg base "read_by" 1 ["way", "number", "keeps", "present"] spReadBy) : FnOk P w K mg base CX0 2 f fd ["self", "part", "opening", "kept", "present"] (spReads K C) := by
  refine F.ok scReads (fun vs H Q E h => ?_) (fun cdv A outer s H vs Q E hr h => ?_)
  · obtain ⟨r, o, kt, p, ws, ya, yb, bs, p0, num, id, now, kv, rfl, _⟩ := h
    rfl
  · obtain ⟨r, o, kt, p, ws, ya, yb, bs, p0, num, id, now, kv, rfl, ra, hp, h4, ho, hk, lk, k⟩ := h
    obtain ⟨dx, a, c, pw, kp, ts, hr0, ha, hc, hpw, prs, hkp⟩ := ra.ex
    obtain ⟨t1, g1⟩ := T.none1
    have fl := natV_flat (kpP ya yb)
    obtain ⟨tt, ht, hq⟩ : ∃ tt, PSs (cxOf CX0 P w K mg base nReads "Road.reads" (defScope sRReads) f cdv A outer s H E).nox ((defBody sRReads).drop 1) tt ∧
        tt { nx := fun _ H' => Q .non H', rt := Q } [some (.ref r), some (.int (p : Int)), some (.ref o), some (.ref kt), some (.int now), some (.int (keptP ya yb kv p)), none, none, none] H := by
      refine ⟨_, pss_cons (ps_set (i := 6) scReads.nd rfl (.inl rfl) (pe_ix (r := rIxT K) ix_tup (pe_fld (pv 0) rfl) (pv 1) (fun _ _ => rfl)))
        (pss_one (ps_ret (pe_callTy call_tupD (by rfl) T.tuple (by decide +kernel) (pa_cons (pe_lc (own := [("way", 7), ("number", 8)]) (g := gTup K 2 (gCons (gName 7) (gCons (gName 8) gNil))) (tt := tYes) (te := tCall spReadBy [] E0 (tCons (tVar 7) (tCons (tVar 8) (tCons (tVar 5) (tCons (tVar 4) tNil))))) rfl scReads.nd
          (pi_zipA (by rfl) T.zip (pa_cons (pv 6) (pa_cons (pe_slice (r := rSlA K) sl_tupA (pv 2) (po_some pe_int) po_none) pa_nil)))
          (blkOk_by (N := nReads) (sc := defScope sRReads) (by decide +kernel)) (fun _ _ _ _ _ => pg_tup rfl (pgs_cons (pg_name (i := 7) scReads.nd rfl (Or.inl rfl)) (pgs_cons (pg_name (i := 8) scReads.nd rfl (Or.inl rfl)) pgs_nil))) (fun _ _ _ _ _ => pts_nil)
          (fun _ _ _ _ _ => pe_has G hr (pa_cons (pv 7) (pa_cons (pv 8) (pa_cons (pv 5) (pa_cons (pv 4) pa_nil)))))) pa_nil)))), ?_⟩
      obtain ⟨tp, htp, hty⟩ := paired_get' prs (List.getElem?_range hp)
      refine ⟨_, rfl, r, C, dx, _, .ref pw, rfl, hr0, R.cl, R.n4, rfl, _, rfl, pw, _, _, .ref tp, rfl, rfl, hpw.sq, atI_nat (by rw [List.getElem?_map, htp]; rfl), ?_⟩
      dsimp only [tCB, tCons, List.map]
      refine ⟨_, rfl, _, rfl, _, rfl, o, _, rfl, ho, (fun e => ?_), fun _ q nq => ?_⟩
      · exact absurd e.1 (show ¬ HT.sIx 3 0 (some 1) = 0 by decide)
      have sq := same_upd (o := .tup (cutV [.int p0, .int num, .int id] (some 1) none)) nq
      refine ⟨tp, q, [.str (wayOf ya p), .str (wayOf yb p)], [.int num, .int id], rfl, .inr ⟨(TupD.same hty sq).sq, SqT.of upd_same, fun D nD => ?_⟩⟩
      refine lc_it (walk_zipT (K := K) (a := tp) (b := q) (xs := [.str (wayOf ya p), .str (wayOf yb p)]) (ys := [.int num, .int id]) (n := 2) rfl) (fun n H' => Same (upd H q (.tup (cutV [.int p0, .int num, .int id] (some 1) none))) H' ∧ H' D = some (.lst (([V.int (rdBy (wayOf ya p) num (keptP ya yb kv p) now), V.int (rdBy (wayOf yb p) id (keptP ya yb kv p) now)]).take n))) ⟨same_upd nD, upd_same⟩ (fun n H' _ z => ⟨(TupD.same hty (sq.trans z.1)).sq, SqT.of (z.1 _ _ upd_same)⟩) ?_ ?_
      · rintro n v H1 H2 hn ⟨s1, hD⟩ ⟨T', x1, x2, rfl, nT, rfl, e1, e2⟩
        match n, hn, hD, e1, e2 with
        | 0, _, hD, e1, e2 =>
          cases (show some (V.str (wayOf ya p)) = some x1 from e1)
          cases (show some (V.int num) = some x2 from e2)
          have s2 := same_upd (o := .tup [V.str (wayOf ya p), V.int num]) nT
          refine ⟨T', _, rfl, SqT.of upd_same, rfl, _, _, rfl, _, _, rfl, rfl, rfl, ?_⟩
          refine ⟨_, rfl, _, rfl, _, rfl, _, rfl, wayOf ya p, num, keptP ya yb kv p, now, rfl, _, s2 _ _ hD, (by show 0 < sizeLine; decide), same_new (s1.trans s2) nD, by rw [upd_same]; rfl⟩
        | 1, _, hD, e1, e2 =>
          cases (show some (V.str (wayOf yb p)) = some x1 from e1)
          cases (show some (V.int id) = some x2 from e2)
          have s2 := same_upd (o := .tup [V.str (wayOf yb p), V.int id]) nT
          refine ⟨T', _, rfl, SqT.of upd_same, rfl, _, _, rfl, _, _, rfl, rfl, rfl, ?_⟩
          refine ⟨_, rfl, _, rfl, _, rfl, _, rfl, wayOf yb p, id, keptP ya yb kv p, now, rfl, _, s2 _ _ hD, (by show 1 < sizeLine; decide), same_new (s1.trans s2) nD, by rw [upd_same]; rfl⟩
      · rintro H1 ⟨s1, hD⟩
        refine ⟨D, _, rfl, SqL.of hD, fun l ob nl od => ?_⟩
        exact k _ l ((sq.trans s1).trans (same_upd nl)) ⟨ob, upd_same, od⟩
    refine ⟨_, pss_cons (ps_set (i := 5) scReads.nd rfl (.inr rfl) (pe_ifExp (pt_cmpR (r := rIn K false) op_in_seq (pv 1) (pe_fld (pv 0) rfl) (by rfl))
          (pe_ix (r := rIxT K) ix_tup (pv 3) (pe_mG ty_tupD PySem.F.plainAttrs_tuple PySem.F.slot_tuple_index PySem.F.type_tuple_index mt_tup_indexV (pe_fld (pv 0) rfl) (pa_cons (pv 1) pa_nil)) (fun _ _ => rfl)) (pe_glob (v := .int (-1)) (by rfl) g1 ⟨_, rfl⟩))) ht, ?_⟩
    refine ⟨_, rfl, _, rfl, r, C, dx, _, .ref kp, rfl, hr0, R.cl, R.n5, rfl, kp, _, rfl, .inr hkp.sq, rfl, fl, _, rfl, ?_⟩
    refine ite2 (fun c1 => ?_) (fun c1 => ?_)
    · have c2 : p ∈ kpP ya yb := by
        have c1' : inV (.int (p : Int)) (natV (kpP ya yb)) = true := c1
        rw [inV_nat] at c1'
        exact of_decide_eq_true c1'
      have ix := idxN_at c2
      have ilt : idxN p (kpP ya yb) < kv.length := by
        rw [lk]
        exact (List.getElem?_eq_some_iff.mp ix).1
      refine ⟨_, rfl, _, rfl, r, C, dx, _, .ref kp, rfl, hr0, R.cl, R.n5, rfl, ⟨kp, _, rfl, hkp⟩, _, rfl, kp, natV (kpP ya yb), .int (p : Int), idxN p (kpP ya yb), rfl, rfl, hkp.sq, fl, rfl, ⟨_, natV_at ix, by rw [eqV_int]; exact decide_eq_true rfl⟩, (fun m y hm hy => ?_), ?_⟩
      · unfold natV at hy
        rw [List.getElem?_map] at hy
        obtain ⟨q, hq1, rfl⟩ := Option.map_eq_some_iff.mp hy
        rw [eqV_int]
        exact decide_eq_false (idxN_first hm hq1)
      refine ⟨kt, _, _, .int (kv.getD (idxN p (kpP ya yb)) 0), rfl, rfl, hk, atI_nat (by unfold intV; rw [List.getElem?_map, List.getD_eq_getElem?_getD, List.getElem?_eq_getElem ilt]; rfl), ?_⟩
      have e : kv.getD (idxN p (kpP ya yb)) 0 = keptP ya yb kv p := (if_pos c2).symm
      rw [e]
      exact hq
    · have c2 : ¬ p ∈ kpP ya yb := fun z => c1 (by
        show inV (.int (p : Int)) (natV (kpP ya yb)) = true
        rw [inV_nat]
        exact decide_eq_true z)
      have e : (-1 : Int) = keptP ya yb kv p := (if_neg c2).symm
      rw [e]
      exact hq
end
end K17

namespace K17
open L2 PySem PySem.Spec PyProof.Rows RZ
section
variable {base : Heap} {P : Program} {w : World} {K : PySem.W.Frag} {mg : Str → Option Value}
/-! ### opened -/
def spOpened (K : PySem.W.Frag) (C : Addr) : Sp := fun vs H Q _ => ∃ (r q p : Nat) (ws ya yb : List Str) (bs : List Bool) (a b now : Int), vs = [.ref r, .int (p : Int), .ref q, .int now] ∧ RoadAt H C r ws ya yb bs ∧ p < ya.length ∧
  (SqT K H q [.int a, .int b] ∨ SqL K H q [.int a, .int b]) ∧ ∀ H' t, Same H H' → TupD H' t [.int (opBy (wayOf ya p) a now), .int (opBy (wayOf yb p) b now)] → Q (.ref t) H'
abbrev nOpened : List Str := ["self", "part", "asked", "present", "way", "number"]
theorem scOpened : FnScope nOpened ["self", "part", "asked", "present"] (defScope sROpened) := ⟨rfl, rfl, rfl, by decide +kernel, rfl, by decide +kernel, by decide +kernel⟩
theorem ok_opened {f C : Addr} {fd : FuncData} (F : Fun K "opened" "Road.opened" sROpened f fd) (T : TxtB K mg) (R : RoadT K mg C) (G : Has P w K mg base "opened_by" 1 ["way", "asked", "present"] spOpenedBy) : FnOk P w K mg base CX0 2 f fd ["self", "part", "asked", "present"] (spOpened K C) := by
  refine F.ok scOpened (fun vs H Q E h => ?_) (fun cdv A outer s H vs Q E hr h => ?_)
  · obtain ⟨r, q, p, ws, ya, yb, bs, a, b, now, rfl, _⟩ := h
    rfl
  · obtain ⟨r, q, p, ws, ya, yb, bs, a, b, now, rfl, ra, hp, hq, k⟩ := h
    obtain ⟨dx, na, c, pw, kp, ts, hr0, ha, hc, hpw, prs, hkp⟩ := ra.ex
    refine ⟨_, pss_one (ps_ret (pe_callTy call_tupD (by rfl) T.tuple (by decide +kernel) (pa_cons (pe_lc (own := [("way", 4), ("number", 5)]) (g := gTup K 2 (gCons (gName 4) (gCons (gName 5) gNil))) (tt := tYes) (te := tCall spOpenedBy [] E0 (tCons (tVar 4) (tCons (tVar 5) (tCons (tVar 3) tNil)))) rfl scOpened.nd
          (PI.or (pi_zipA (by rfl) T.zip (pa_cons (pe_ix (r := rIxT K) ix_tup (pe_fld (pv 0) rfl) (pv 1) (fun _ _ => rfl)) (pa_cons (pv 2) pa_nil))) (pi_zipM (by rfl) T.zip (pa_cons (pe_ix (r := rIxT K) ix_tup (pe_fld (pv 0) rfl) (pv 1) (fun _ _ => rfl)) (pa_cons (pv 2) pa_nil))))
          (blkOk_by (N := nOpened) (sc := defScope sROpened) (by decide +kernel)) (fun _ _ _ _ _ => pg_tup rfl (pgs_cons (pg_name (i := 4) scOpened.nd rfl (Or.inl rfl)) (pgs_cons (pg_name (i := 5) scOpened.nd rfl (Or.inl rfl)) pgs_nil))) (fun _ _ _ _ _ => pts_nil)
          (fun _ _ _ _ _ => pe_has G hr (pa_cons (pv 4) (pa_cons (pv 5) (pa_cons (pv 3) pa_nil))))) pa_nil))), ?_⟩
    obtain ⟨tp, htp, hty⟩ := paired_get' prs (List.getElem?_range hp)
    have hat : atI (ts.map V.ref) (p : Int) = some (.ref tp) := atI_nat (by rw [List.getElem?_map, htp]; rfl)
    dsimp only [tCB, tCons, tLc, List.map]
    have fin : ∀ (D : Addr) (H1 : Hp), Same H H1 → H1 D = some (.lst [.int (opBy (wayOf ya p) a now), .int (opBy (wayOf yb p) b now)]) → rTupD K [.ref D] H1 Q := fun D H1 s1 hD => ⟨D, _, rfl, SqL.of hD, fun l ob nl od => k _ l (s1.trans (same_upd nl)) ⟨ob, upd_same, od⟩⟩
    rcases hq with hq | hq
    · refine .inl ⟨_, rfl, r, C, dx, _, .ref pw, rfl, hr0, R.cl, R.n4, rfl, _, rfl, pw, _, _, .ref tp, rfl, rfl, hpw.sq, hat, _, rfl, tp, q, [.str (wayOf ya p), .str (wayOf yb p)], [.int a, .int b], rfl, .inr ⟨TupD.sq hty, hq, fun D nD => ?_⟩⟩
      refine lc_it (walk_zipT (K := K) (a := tp) (b := q) (xs := [.str (wayOf ya p), .str (wayOf yb p)]) (ys := [.int a, .int b]) (n := 2) rfl) (fun n H' => Same H H' ∧ H' D = some (.lst (([V.int (opBy (wayOf ya p) a now), V.int (opBy (wayOf yb p) b now)]).take n))) ⟨same_upd nD, upd_same⟩ (fun n H' _ z => ⟨(TupD.same hty z.1).sq, sqT_same z.1 hq⟩) ?_ ?_
      · rintro n v H1 H2 hn ⟨s1, hD⟩ ⟨T', x1, x2, rfl, nT, rfl, e1, e2⟩
        match n, hn, hD, e1, e2 with
        | 0, _, hD, e1, e2 =>
          cases (show some (V.str (wayOf ya p)) = some x1 from e1)
          cases (show some (V.int a) = some x2 from e2)
          have s2 := same_upd (o := .tup [V.str (wayOf ya p), V.int a]) nT
          refine ⟨T', _, rfl, SqT.of upd_same, rfl, _, _, rfl, _, _, rfl, rfl, rfl, ?_⟩
          refine ⟨_, rfl, _, rfl, _, rfl, wayOf ya p, a, now, rfl, _, s2 _ _ hD, (by show 0 < sizeLine; decide), same_new (s1.trans s2) nD, by rw [upd_same]; rfl⟩
        | 1, _, hD, e1, e2 =>
          cases (show some (V.str (wayOf yb p)) = some x1 from e1)
          cases (show some (V.int b) = some x2 from e2)
          have s2 := same_upd (o := .tup [V.str (wayOf yb p), V.int b]) nT
          refine ⟨T', _, rfl, SqT.of upd_same, rfl, _, _, rfl, _, _, rfl, rfl, rfl, ?_⟩
          refine ⟨_, rfl, _, rfl, _, rfl, wayOf yb p, b, now, rfl, _, s2 _ _ hD, (by show 1 < sizeLine; decide), same_new (s1.trans s2) nD, by rw [upd_same]; rfl⟩
      · rintro H1 ⟨s1, hD⟩
        exact fin D H1 s1 hD
    · refine .inr ⟨_, rfl, r, C, dx, _, .ref pw, rfl, hr0, R.cl, R.n4, rfl, _, rfl, pw, _, _, .ref tp, rfl, rfl, hpw.sq, hat, _, rfl, tp, q, [.str (wayOf ya p), .str (wayOf yb p)], [.int a, .int b], rfl, TupD.sq hty, hq, fun D nD => ?_⟩
      refine lc_it (walk_zipM (K := K) (a := tp) (b := q) (xs := [.str (wayOf ya p), .str (wayOf yb p)]) (ys := [.int a, .int b]) (n := 2) rfl rfl) (fun n H' => Same H H' ∧ H' D = some (.lst (([V.int (opBy (wayOf ya p) a now), V.int (opBy (wayOf yb p) b now)]).take n))) ⟨same_upd nD, upd_same⟩ (fun n H' _ z => ⟨(TupD.same hty z.1).sq, z.1.seq hq⟩) ?_ ?_
      · rintro n v H1 H2 hn ⟨s1, hD⟩ ⟨T', x1, x2, rfl, nT, rfl, e1, e2⟩
        match n, hn, hD, e1, e2 with
        | 0, _, hD, e1, e2 =>
          cases (show some (V.str (wayOf ya p)) = some x1 from e1)
          cases (show some (V.int a) = some x2 from e2)
          have s2 := same_upd (o := .tup [V.str (wayOf ya p), V.int a]) nT
          refine ⟨T', _, rfl, SqT.of upd_same, rfl, _, _, rfl, _, _, rfl, rfl, rfl, ?_⟩
          refine ⟨_, rfl, _, rfl, _, rfl, wayOf ya p, a, now, rfl, _, s2 _ _ hD, (by show 0 < sizeLine; decide), same_new (s1.trans s2) nD, by rw [upd_same]; rfl⟩
        | 1, _, hD, e1, e2 =>
          cases (show some (V.str (wayOf yb p)) = some x1 from e1)
          cases (show some (V.int b) = some x2 from e2)
          have s2 := same_upd (o := .tup [V.str (wayOf yb p), V.int b]) nT
          refine ⟨T', _, rfl, SqT.of upd_same, rfl, _, _, rfl, _, _, rfl, rfl, rfl, ?_⟩
          refine ⟨_, rfl, _, rfl, _, rfl, wayOf yb p, b, now, rfl, _, s2 _ _ hD, (by show 1 < sizeLine; decide), same_new (s1.trans s2) nD, by rw [upd_same]; rfl⟩
      · rintro H1 ⟨s1, hD⟩
        exact fin D H1 s1 hD
/-! ### begun -/
def spBegun (K : PySem.W.Frag) (C : Addr) : Sp := fun vs H Q _ => ∃ (r p : Nat) (ws ya yb : List Str) (bs : List Bool) (now : Int), vs = [.ref r, .int (p : Int), .int now] ∧ RoadAt H C r ws ya yb bs ∧ p < ya.length ∧
  ∀ H' t, Same H H' → TupD H' t [.int (opBy (wayOf ya p) now now), .int (opBy (wayOf yb p) now now)] → Q (.ref t) H'
theorem scBegun : FnScope ["self", "part", "present"] ["self", "part", "present"] (defScope sRBegun) := ⟨rfl, rfl, rfl, by decide +kernel, rfl, by decide +kernel, by decide +kernel⟩
theorem ok_begun {f C : Addr} {fd : FuncData} (F : Fun K "begun" "Road.begun" sRBegun f fd) (R : RoadT K mg C) (G : HasM P w K mg base C "opened" 2 ["self", "part", "asked", "present"] (spOpened K C)) : FnOk P w K mg base CX0 3 f fd ["self", "part", "present"] (spBegun K C) := by
  refine F.ok scBegun (fun vs H Q E h => ?_) (fun cdv A outer s H vs Q E hr h => ?_)
  · obtain ⟨r, p, ws, ya, yb, bs, now, rfl, _⟩ := h
    rfl
  · obtain ⟨r, p, ws, ya, yb, bs, now, rfl, ra, hp, k⟩ := h
    obtain ⟨dx, na, c, pw, kp, ts, hr0, ha, hc, hpw, prs, hkp⟩ := ra.ex
    refine ⟨_, pss_one (ps_ret (pe_hasM G R.cl hr (pv 0) (pa_cons (pv 1) (pa_cons (pe_op op_rep (pe_lst (pa_cons (pv 2) pa_nil)) (pe_fld (pv 0) rfl)) (pa_cons (pv 2) pa_nil))))), ?_⟩
    refine ⟨_, rfl, r, dx, _, rfl, hr0, rfl, _, rfl, _, rfl, (by show 1 ≤ sizeLine; decide), fun l nl => ?_⟩
    have s1 := same_upd (o := .lst [.int now]) nl
    refine ⟨_, rfl, r, C, dx, _, .int 2, rfl, s1 _ _ hr0, R.cl, R.n1, rfl, l, 2, _, rfl, rfl, upd_same, by decide, by decide, (by show 2 ≤ sizeLine; decide), fun l2 nl2 => ?_⟩
    have s2 := same_upd (o := .lst (List.replicate (Int.toNat 2) [V.int now]).flatten) nl2
    refine ⟨_, rfl, r, l2, p, ws, ya, yb, bs, now, now, now, rfl, (ra.same s1).same s2, hp, .inr (SqL.of upd_same), fun H' t s3 ht => k H' t ((s1.trans s2).trans s3) ht⟩
/-! ### taken -/
def spTaken (K : PySem.W.Frag) (C : Addr) : Sp := fun vs H Q _ => ∃ (r o p : Nat) (ws ya yb : List Str) (bs : List Bool) (p0 num id now : Int), vs = [.ref r, .int (p : Int), .ref o, .int now] ∧ RoadAt H C r ws ya yb bs ∧ p < ya.length ∧
  SqT K H o [.int p0, .int num, .int id] ∧ ∀ H' t, Same H H' → H' t = some (.tup [.int p0, .int (tkBy (wayOf ya p) now), .int (tkBy (wayOf yb p) now)]) → Q (.ref t) H'
abbrev nTaken : List Str := ["self", "part", "opening", "present", "numbers", "way"]
theorem scTaken : FnScope nTaken ["self", "part", "opening", "present"] (defScope sRTaken) := ⟨rfl, rfl, rfl, by decide +kernel, rfl, by decide +kernel, by decide +kernel⟩
theorem own_in (y : Str) : inV (.str y) [.str wOnce, .str wHanded] = decide (y = wOnce ∨ y = wHanded) := by
  show ((wOnce == y) || ((wHanded == y) || false)) = _
  rw [Bool.or_false, Bool.eq_iff_iff, Bool.or_eq_true, beq_iff_eq, beq_iff_eq, decide_eq_true_eq]
  exact ⟨fun h => h.elim (fun e => .inl e.symm) fun e => .inr e.symm, fun h => h.elim (fun e => .inl e.symm) fun e => .inr e.symm⟩
theorem ok_taken {f C : Addr} {fd : FuncData} (F : Fun K "taken" "Road.taken" sRTaken f fd) (T : TxtB K mg) (R : RoadT K mg C) : FnOk P w K mg base CX0 1 f fd ["self", "part", "opening", "present"] (spTaken K C) := by
  refine F.ok scTaken (fun vs H Q E h => ?_) (fun cdv A outer s H vs Q E hr h => ?_)
  · obtain ⟨r, o, p, ws, ya, yb, bs, p0, num, id, now, rfl, _⟩ := h
    rfl
  · obtain ⟨r, o, p, ws, ya, yb, bs, p0, num, id, now, rfl, ra, hp, ho, k⟩ := h
    obtain ⟨dx, na, c, pw, kp, ts, hr0, ha, hc, hpw, prs, hkp⟩ := ra.ex
    obtain ⟨t1, g1⟩ := T.none1
    obtain ⟨ow, gow, how⟩ := T.owning
    refine ⟨_, pss_cons (ps_setLc (i := 4) (own := [("way", 5)]) (g := gName 5) (tt := tYes) (te := tIf (tTest (tOp (rIn K false) (tVar 5) (tC (.ref ow)))) (tVar 3) (tC (.int (-1)))) rfl scTaken.nd rfl rfl rfl (pi_tup (pe_ix (r := rIxT K) ix_tup (pe_fld (pv 0) rfl) (pv 1) (fun _ _ => rfl)))
          (blkOk_by (N := nTaken) (sc := defScope sRTaken) (by decide +kernel)) (fun _ _ _ _ _ => pg_name (i := 5) scTaken.nd rfl (Or.inl rfl)) (fun _ _ _ _ _ => pts_nil)
          (fun _ _ _ _ _ => pe_ifExp (pt_cmpR (r := rIn K false) op_in_seq (pv 5) (pe_glob (v := .ref ow) (by rfl) gow rfl) (by rfl)) (pv 3) (pe_glob (v := .int (-1)) (by rfl) g1 ⟨_, rfl⟩)))
      (pss_one (ps_ret (pe_tup (pa_cons (pe_ix (r := rIxT K) ix_tup (pv 2) pe_int (fun _ _ => rfl)) (StX.pa_star (pv 4) (StX.pa_star (pe_slice (r := rSlA K) sl_tupA (pv 2) (po_some (pe_op op_add pe_int (pe_fld (pv 0) rfl))) po_none) pa_nil)))))), ?_⟩
    obtain ⟨tp, htp, hty⟩ := paired_get' prs (List.getElem?_range hp)
    have hat : atI (ts.map V.ref) (p : Int) = some (.ref tp) := atI_nat (by rw [List.getElem?_map, htp]; rfl)
    dsimp only [tSeq, tAsg, tLc, iTup, List.map]
    refine ⟨_, rfl, r, C, dx, _, .ref pw, rfl, hr0, R.cl, R.n4, rfl, _, rfl, pw, _, _, .ref tp, rfl, rfl, hpw.sq, hat, tp, rfl, ⟨_, TupD.sq hty⟩, fun D nD => ?_⟩
    refine lc_tup (K := K) (xs := [.str (wayOf ya p), .str (wayOf yb p)]) (fun j H' => Same H H' ∧ H' D = some (.lst (([V.int (tkBy (wayOf ya p) now), V.int (tkBy (wayOf yb p) now)]).take j))) ⟨same_upd nD, upd_same⟩ (fun j H' _ q => (TupD.same hty q.1).sq) ?_ ?_
    · rintro j x H1 hx ⟨s1, hD⟩
      have lj : j < 2 := (List.getElem?_eq_some_iff.mp hx).1
      match j, lj, hx, hD with
      | 0, _, hx, hD =>
        cases hx
        refine ⟨rfl, _, rfl, ow, _, rfl, .inr (sqT_any how), rfl, rfl, _, rfl, ?_⟩
        refine ite2 (fun c1 => ?_) (fun c1 => ?_)
        · have c1' : inV (.str (wayOf ya p)) [.str wOnce, .str wHanded] = true := c1
          rw [own_in] at c1'
          have e : tkBy (wayOf ya p) now = now := if_pos (of_decide_eq_true c1')
          refine ⟨_, rfl, _, hD, (by show 0 < sizeLine; decide), same_new s1 nD, ?_⟩
          rw [upd_same]
          dsimp only [List.take, List.map, List.append, List.cons_append, List.nil_append]
          rw [e]
        · have c1' : ¬ inV (.str (wayOf ya p)) [.str wOnce, .str wHanded] = true := c1
          rw [own_in] at c1'
          have e : tkBy (wayOf ya p) now = -1 := if_neg fun z => c1' (decide_eq_true z)
          refine ⟨_, hD, (by show 0 < sizeLine; decide), same_new s1 nD, ?_⟩
          rw [upd_same]
          dsimp only [List.take, List.map, List.append, List.cons_append, List.nil_append]
          rw [e]
      | 1, _, hx, hD =>
        cases hx
        refine ⟨rfl, _, rfl, ow, _, rfl, .inr (sqT_any how), rfl, rfl, _, rfl, ?_⟩
        refine ite2 (fun c1 => ?_) (fun c1 => ?_)
        · have c1' : inV (.str (wayOf yb p)) [.str wOnce, .str wHanded] = true := c1
          rw [own_in] at c1'
          have e : tkBy (wayOf yb p) now = now := if_pos (of_decide_eq_true c1')
          refine ⟨_, rfl, _, hD, (by show 1 < sizeLine; decide), same_new s1 nD, ?_⟩
          rw [upd_same]
          dsimp only [List.take, List.map, List.append, List.cons_append, List.nil_append]
          rw [e]
        · have c1' : ¬ inV (.str (wayOf yb p)) [.str wOnce, .str wHanded] = true := c1
          rw [own_in] at c1'
          have e : tkBy (wayOf yb p) now = -1 := if_neg fun z => c1' (decide_eq_true z)
          refine ⟨_, hD, (by show 1 < sizeLine; decide), same_new s1 nD, ?_⟩
          rw [upd_same]
          dsimp only [List.take, List.map, List.append, List.cons_append, List.nil_append]
          rw [e]
    · rintro H1 ⟨s1, hD⟩
      refine ⟨_, rfl, o, _, 0, .int p0, rfl, rfl, sqT_same s1 ho, atI_nat (j := 0) rfl, _, rfl, D, _, rfl, .inr (SqL.of hD), ?_⟩
      refine ⟨_, rfl, _, rfl, r, C, dx, _, .int 2, rfl, s1 _ _ hr0, R.cl, R.n1, rfl, 1, 2, rfl, rfl, _, rfl, o, _, rfl, sqT_same s1 ho, (fun e => absurd e.1 (show ¬ HT.sIx 3 0 (some 3) = 0 by decide)), fun _ q nq => ?_⟩
      have s2 := same_upd (o := .tup (cutV [.int p0, .int num, .int id] (some 3) none)) nq
      refine ⟨q, _, rfl, .inl (SqT.of upd_same), (by show 3 ≤ sizeLine; decide), fun t nt => ?_⟩
      exact k _ t ((s1.trans s2).trans (same_upd nt)) upd_same
/-! ### renewed -/
def spRenewed (K : PySem.W.Frag) (C : Addr) : Sp := fun vs H Q _ => ∃ (r kt p : Nat) (ws ya yb : List Str) (bs : List Bool) (kv : List Int) (now : Int), vs = [.ref r, .ref kt, .int (p : Int), .int now] ∧ RoadAt H C r ws ya yb bs ∧ kv.length = (kpP ya yb).length ∧ kv.length ≤ 100 ∧
  SqT K H kt (intV kv) ∧ ∀ H' t, Same H H' → TupD H' t (intV (renK p now (kpP ya yb) kv)) → Q (.ref t) H'
abbrev nRenewed : List Str := ["self", "kept", "part", "present", "at", "number"]
theorem scRenewed : FnScope nRenewed ["self", "kept", "part", "present"] (defScope sRRenewed) := ⟨rfl, rfl, rfl, by decide +kernel, rfl, by decide +kernel, by decide +kernel⟩
theorem renK_at {p : Nat} {now : Int} : ∀ {l : List Nat} {xs : List Int} {i a : Nat} {x : Int}, l[i]? = some a → xs[i]? = some x → (renK p now l xs)[i]? = some (if a = p then now else x)
  | b :: r, y :: ys, 0, a, x, h1, h2 => by
    cases h1
    cases h2
    rfl
  | b :: r, y :: ys, i + 1, a, x, h1, h2 => renK_at (l := r) (xs := ys) (i := i) h1 h2
  | [], _, _, _, _, h, _ => nomatch h
  | _ :: _, [], _, _, _, _, h => nomatch h
theorem ok_renewed {f C : Addr} {fd : FuncData} (F : Fun K "renewed" "Road.renewed" sRRenewed f fd) (T : TxtB K mg) (R : RoadT K mg C) : FnOk P w K mg base CX0 1 f fd ["self", "kept", "part", "present"] (spRenewed K C) := by
  refine F.ok scRenewed (fun vs H Q E h => ?_) (fun cdv A outer s H vs Q E hr h => ?_)
  · obtain ⟨r, kt, p, ws, ya, yb, bs, kv, now, rfl, _⟩ := h
    rfl
  · obtain ⟨r, kt, p, ws, ya, yb, bs, kv, now, rfl, ra, lk, l100, hk, k⟩ := h
    obtain ⟨dx, na, c, pw, kp, ts, hr0, ha, hc, hpw, prs, hkp⟩ := ra.ex
    refine ⟨_, pss_one (ps_ret (pe_callTy call_tupD (by rfl) T.tuple (by decide +kernel) (pa_cons (pe_lc (own := [("at", 4), ("number", 5)]) (g := gTup K 2 (gCons (gName 4) (gCons (gName 5) gNil))) (tt := tYes) rfl scRenewed.nd
          (pi_zipA (by rfl) T.zip (pa_cons (pe_fld (pv 0) rfl) (pa_cons (pv 1) pa_nil)))
          (blkOk_by (N := nRenewed) (sc := defScope sRRenewed) (by decide +kernel)) (fun _ _ _ _ _ => pg_tup rfl (pgs_cons (pg_name (i := 4) scRenewed.nd rfl (Or.inl rfl)) (pgs_cons (pg_name (i := 5) scRenewed.nd rfl (Or.inl rfl)) pgs_nil))) (fun _ _ _ _ _ => pts_nil)
          (fun _ _ _ _ _ => pe_ifExp (pt_cmpR op_eq (pv 4) (pv 2) (nomark _)) (pv 3) (pv 5))) pa_nil))), ?_⟩
    have e1 : (natV (kpP ya yb)).length = (kpP ya yb).length := List.length_map _
    have e2 : (intV kv).length = (kpP ya yb).length := by
      unfold intV
      rw [List.length_map, lk]
    refine ⟨_, rfl, r, C, dx, _, .ref kp, rfl, hr0, R.cl, R.n5, rfl, _, rfl, kp, kt, natV (kpP ya yb), intV kv, rfl, .inr ⟨hkp.sq, hk, fun D nD => ?_⟩⟩
    have rl := renK_len (p := p) (now := now) lk
    refine lc_it (walk_zipT (K := K) (a := kp) (b := kt) (xs := natV (kpP ya yb)) (ys := intV kv) (n := (kpP ya yb).length) (by rw [e1, e2]; exact (Nat.min_self _).symm)) (fun n H' => Same H H' ∧ H' D = some (.lst (intV ((renK p now (kpP ya yb) kv).take n)))) ⟨same_upd nD, by rw [upd_same]; rfl⟩ (fun n H' _ z => ⟨(hkp.same z.1).sq, sqT_same z.1 hk⟩) ?_ ?_
    · rintro n v H1 H2 hn ⟨s1, hD⟩ ⟨T', x1, x2, rfl, nT, rfl, q1, q2⟩
      have q1' : (natV (kpP ya yb))[n]? = some x1 := q1
      have q2' : (intV kv)[n]? = some x2 := q2
      unfold natV at q1'
      unfold intV at q2'
      rw [List.getElem?_map] at q1' q2'
      obtain ⟨a, ha1, rfl⟩ := Option.map_eq_some_iff.mp q1'
      obtain ⟨x, hx1, rfl⟩ := Option.map_eq_some_iff.mp q2'
      have hat := renK_at (p := p) (now := now) ha1 hx1
      have s2 := same_upd (o := .tup [V.int (a : Int), V.int x]) nT
      refine ⟨T', _, rfl, SqT.of upd_same, rfl, _, _, rfl, _, _, rfl, rfl, rfl, ?_⟩
      have fin : ∀ y : Int, y = (if a = p then now else x) → ∃ acc, (upd H1 T' (.tup [V.int (a : Int), V.int x])) D = some (.lst acc) ∧ acc.length < sizeLine ∧ (Same H (upd (upd H1 T' (.tup [V.int (a : Int), V.int x])) D (.lst (acc ++ [V.int y]))) ∧ (upd (upd H1 T' (.tup [V.int (a : Int), V.int x])) D (.lst (acc ++ [V.int y]))) D = some (.lst (intV ((renK p now (kpP ya yb) kv).take (n + 1))))) := fun y ey => by
        refine ⟨_, s2 _ _ hD, ?_, same_new (s1.trans s2) nD, ?_⟩
        · unfold intV
          rw [List.length_map, List.length_take]
          exact small1000 (by omega)
        · rw [upd_same, take_one hat, ← ey]
          unfold intV
          rw [List.map_append]
          rfl
      refine ⟨_, rfl, _, rfl, rfl, _, rfl, ?_⟩
      refine ite2 (fun c1 => ?_) (fun c1 => ?_)
      · have c1' := of_decide_eq_true c1
        have c2 : a = p := by have := V.int.inj c1'; omega
        exact ⟨_, rfl, fin now (if_pos c2).symm⟩
      · have c2 : ¬ a = p := fun z => c1 (decide_eq_true (by rw [z]))
        exact ⟨_, rfl, fin x (if_neg c2).symm⟩
    · rintro H1 ⟨s1, hD⟩
      rw [List.take_of_length_le (by rw [rl]; exact Nat.le_refl _)] at hD
      exact ⟨D, _, rfl, SqL.of hD, fun l ob nl od => k _ l (s1.trans (same_upd nl)) ⟨ob, upd_same, od⟩⟩
end
end K17

namespace K17
open L2 PySem PySem.Spec PyProof.Rows RZ
abbrev sAfter : Stmt := top 42
abbrev sAfterOwn : Stmt := top 43
/-! ### events, places in the heap -/
def lone4 : List Str := ["read", "take", "back", "install"]
def part3 : List Str := ["begin", "ask", "renew"]
def nmOf (ws : List Str) (p : Nat) : Str := ws.getD p ⟨#[]⟩
theorem nm_at {ws : List Str} {p : Nat} (h : p < ws.length) : ws[p]? = some (nmOf ws p) := by
  unfold nmOf
  rw [List.getD_eq_getElem?_getD, List.getElem?_eq_getElem h]
  rfl
def evW : Ev → Str
  | .inst => "install"
  | .ren _ => "renew"
  | .read => "read"
  | .take => "take"
  | .back => "back"
  | .ask _ => "ask"
def evP : Ev → Int
  | .ren p => (p : Int)
  | .ask p => (p : Int)
  | _ => -1
def evV (ws : List Str) : Ev → List V
  | .ren p => [.str "renew", .str (nmOf ws p)]
  | .ask p => [.str "ask", .str (nmOf ws p)]
  | .inst => [.str "install"]
  | .read => [.str "read"]
  | .take => [.str "take"]
  | .back => [.str "back"]
def OpsAt (K : PySem.W.Frag) (H : Hp) (o : Addr) (ops : List (Nat × Int × Int)) : Prop := ∃ ts : List Addr, SqT K H o (ts.map V.ref) ∧ Paired (fun (t : Addr) (q : Nat × Int × Int) => SqT K H t [.int (q.1 : Int), .int q.2.1, .int q.2.2]) ts ops
def WhAt (K : PySem.W.Frag) (H : Hp) (t : Addr) (w : Ws) : Prop := ∃ o kt : Addr, SqT K H t [.ref o, .ref kt, .int (w.now : Int)] ∧ OpsAt K H o w.op ∧ SqT K H kt (intV w.kv)
theorem OpsAt.same {K : PySem.W.Frag} {H H' : Hp} {o : Addr} {ops : List (Nat × Int × Int)} (h : OpsAt K H o ops) (s : Same H H') : OpsAt K H' o ops := by
  obtain ⟨ts, e, p⟩ := h
  exact ⟨ts, sqT_same s e, paired_mono (fun t q z => sqT_same s z) p⟩
theorem WhAt.same {K : PySem.W.Frag} {H H' : Hp} {t : Addr} {w : Ws} (h : WhAt K H t w) (s : Same H H') : WhAt K H' t w := by
  obtain ⟨o, kt, e, p, q⟩ := h
  exact ⟨o, kt, sqT_same s e, p.same s, sqT_same s q⟩
theorem cut_last {x : V} {xs : List V} : cutV (xs ++ [x]) none (some (-1)) = xs := by
  unfold cutV
  have e : HT.sIx (xs ++ [x]).length (xs ++ [x]).length (some (-1)) = xs.length := by
    show (if (-1 : Int) < 0 then (-1 + ((xs ++ [x]).length : Int)).toNat else min (-1 : Int).toNat (xs ++ [x]).length) = _
    rw [if_pos (by decide), List.length_append]
    show (-1 + ((xs.length + 1 : Nat) : Int)).toNat = _
    omega
  rw [e, HT.sIx_none, List.drop_zero, Nat.sub_zero]
  simp
theorem not_whole {x : V} {xs : List V} : ¬ (HT.sIx (xs ++ [x]).length 0 none = 0 ∧ HT.sIx (xs ++ [x]).length (xs ++ [x]).length (some (-1)) = (xs ++ [x]).length) := fun e => by
  have e1 : HT.sIx (xs ++ [x]).length (xs ++ [x]).length (some (-1)) = xs.length := by
    show (if (-1 : Int) < 0 then (-1 + ((xs ++ [x]).length : Int)).toNat else min (-1 : Int).toNat (xs ++ [x]).length) = _
    rw [if_pos (by decide), List.length_append]
    show (-1 + ((xs.length + 1 : Nat) : Int)).toNat = _
    omega
  have e2 := e.2
  rw [e1, List.length_append] at e2
  have e3 : xs.length = xs.length + 1 := e2
  omega
theorem paired_concat {α β : Type} {R : α → β → Prop} : ∀ {xs : List α} {ys : List β} {y : β}, Paired R xs (ys ++ [y]) → ∃ xs' x, xs = xs' ++ [x] ∧ Paired R xs' ys ∧ R x y
  | x :: xs, [], y, h => by
    cases h with
    | cons h k =>
      cases k
      exact ⟨[], x, rfl, .nil, h⟩
  | x :: xs, b :: ys, y, h => by
    cases h with
    | cons h k =>
      obtain ⟨xs', x', e, p, r⟩ := paired_concat (ys := ys) k
      exact ⟨x :: xs', x', by rw [e]; rfl, .cons h p, r⟩
  | [], [], _, h => nomatch h
  | [], _ :: _, _, h => nomatch h
theorem inV_str (z : Str) : ∀ l : List Str, inV (.str z) (l.map V.str) = decide (z ∈ l)
  | [] => rfl
  | a :: l => by
    show ((a == z) || inV (.str z) (l.map V.str)) = _
    rw [inV_str z l, Bool.eq_iff_iff, Bool.or_eq_true, beq_iff_eq]
    simp only [decide_eq_true_eq, List.mem_cons]
    exact ⟨fun h => h.elim (fun e => .inl e.symm) .inr, fun h => h.elim (fun e => .inl e.symm) .inr⟩
theorem nodup_idx {α : Type} : ∀ {l : List α} {i j : Nat} {a : α}, l.Nodup → l[i]? = some a → l[j]? = some a → i = j
  | x :: l, 0, 0, _, _, _, _ => rfl
  | x :: l, i + 1, j + 1, a, nd, h1, h2 => congrArg (· + 1) (nodup_idx (l := l) (List.nodup_cons.mp nd).2 h1 h2)
  | x :: l, 0, j + 1, a, nd, h1, h2 => by
    cases h1
    exact absurd (List.mem_of_getElem? (l := l) (i := j) h2) (List.nodup_cons.mp nd).1
  | x :: l, i + 1, 0, a, nd, h1, h2 => by
    cases h2
    exact absurd (List.mem_of_getElem? (l := l) (i := i) h1) (List.nodup_cons.mp nd).1
theorem strs_flat (l : List Str) : (l.map V.str).all flatV = true := by
  rw [List.all_map]
  exact List.all_eq_true.mpr fun _ _ => rfl
structure TxtC (K : PySem.W.Frag) (mg : Str → Option Value) : Prop extends TxtB K mg
section
variable {base : Heap} {P : Program} {w : World} {K : PySem.W.Frag} {mg : Str → Option Value}
def spAfterOwn (K : PySem.W.Frag) (C : Addr) : Sp := fun vs H Q _ => ∃ (r wh ev tl : Nat) (ws ya yb : List Str) (bs : List Bool) (u : Ws) (e : Ev), vs = [.ref r, .ref wh, .ref ev, .ref tl] ∧ RoadAt H C r ws ya yb bs ∧ ya.length ≤ 4 ∧ WhAt K H wh u ∧ H ev = some (.tup [.str (evW e), .int (evP e)]) ∧ SqT K H tl [] ∧
  OkP ya yb u ∧ CanP ya yb bs u e ∧ e ≠ .inst ∧ (∀ p, e ≠ .ren p) ∧ ∀ H' o, Same H H' → OpsAt K H' o (stepP ya yb u e).op → Q (.ref o) H'
abbrev nAfterOwn : List Str := ["road", "where", "event", "tail", "openings", "kept", "present", "word", "part", "last", "numbers"]
theorem scAfterOwn : FnScope nAfterOwn ["road", "where", "event", "tail"] (defScope sAfterOwn) := ⟨rfl, rfl, rfl, by decide +kernel, rfl, by decide +kernel, by decide +kernel⟩
theorem ok_afterOwn {f C : Addr} {fd : FuncData} (F : Fun K "after_own" "after_own" sAfterOwn f fd) (T : TxtC K mg) (R : RoadT K mg C) (GT : HasM P w K mg base C "taken" 1 ["self", "part", "opening", "present"] (spTaken K C)) (GO : HasM P w K mg base C "opened" 2 ["self", "part", "asked", "present"] (spOpened K C)) (GR : HasM P w K mg base C "reads" 2 ["self", "part", "opening", "kept", "present"] (spReads K C)) :
    FnOk P w K mg base CX0 3 f fd ["road", "where", "event", "tail"] (spAfterOwn K C) := by
  refine F.ok scAfterOwn (fun vs H Q E h => ?_) (fun cdv A outer s H vs Q E hr h => ?_)
  · obtain ⟨r, wh, ev, tl, ws, ya, yb, bs, u, e, rfl, _⟩ := h
    rfl
  · obtain ⟨r, wh, ev, tl, ws, ya, yb, bs, u, e, rfl, ra, y4, ⟨o, kt, hwh, ⟨ts, ho, pr⟩, hk⟩, hev, htl, ok, can, ni, nr, k⟩ := h
    obtain ⟨dx, na, c, pw, kp, tws, hr0, ha, hc, hpw, prs, hkp⟩ := ra.ex
    have r1 : Room 1 _ := hr.mono (by decide)
    refine ⟨_, pss_cons (ps_asg (pv 1) (pg_tup rfl (pgs_cons (pg_name (i := 4) scAfterOwn.nd rfl (.inl rfl)) (pgs_cons (pg_name (i := 5) scAfterOwn.nd rfl (.inl rfl)) (pgs_cons (pg_name (i := 6) scAfterOwn.nd rfl (.inl rfl)) pgs_nil)))))
      (pss_cons (ps_asg (pv 2) (pg_tup rfl (pgs_cons (pg_name (i := 7) scAfterOwn.nd rfl (.inl rfl)) (pgs_cons (pg_name (i := 8) scAfterOwn.nd rfl (.inl rfl)) pgs_nil))))
      (pss_cons (ps_set (i := 9) scAfterOwn.nd rfl (.inl rfl) (pe_ix (r := rIxT K) ix_tup (pv 4) (pe_un un_neg pe_int) (fun _ _ => rfl)))
      (pss_cons (ps_if (pt_cmpR op_eq (pv 7) pe_str (nomark _)) (pss_one (ps_ret (pv 4))) pss_nil)
      (pss_cons (ps_if (pt_cmpR op_eq (pv 7) pe_str (nomark _)) (pss_one (ps_ret (pe_slice (r := rSlA K) sl_tupA (pv 4) po_none (po_some (pe_un un_neg pe_int))))) pss_nil)
      (pss_cons (ps_if (pt_cmpR op_eq (pv 7) pe_str (nomark _)) (pss_one (ps_ret (pe_ifExp (pt_val (pe_ix (r := rIxT K) ix_tup (pe_fld (pv 0) rfl) (pe_ix (r := rIxT K) ix_tup (pv 9) pe_int (fun _ _ => rfl)) (fun _ _ => rfl)))
          (pe_tup (StX.pa_star (pe_slice (r := rSlA K) sl_tupA (pv 4) po_none (po_some (pe_un un_neg pe_int))) (pa_cons (pe_hasM GT R.cl r1 (pv 0) (pa_cons (pe_ix (r := rIxT K) ix_tup (pv 9) pe_int (fun _ _ => rfl)) (pa_cons (pv 9) (pa_cons (pv 6) pa_nil)))) pa_nil))) pe_non))) pss_nil)
      (pss_cons (ps_if (pt_cmpR op_le (pv 8) (pe_ix (r := rIxT K) ix_tup (pv 9) pe_int (fun _ _ => rfl)) (nomark _)) (pss_one (ps_ret pe_non)) pss_nil)
      (pss_cons (ps_set (i := 10) scAfterOwn.nd rfl (.inl rfl) (pe_hasM GO R.cl hr (pv 0) (pa_cons (pv 8) (pa_cons (pe_hasM GR R.cl hr (pv 0) (pa_cons (pe_ix (r := rIxT K) ix_tup (pv 9) pe_int (fun _ _ => rfl)) (pa_cons (pv 9) (pa_cons (pv 5) (pa_cons (pv 6) pa_nil))))) (pa_cons (pv 6) pa_nil)))))
      (pss_one (ps_ret (pe_tup (StX.pa_star (pv 4) (pa_cons (pe_tup (pa_cons (pv 8) (StX.pa_star (pv 10) (StX.pa_star (pv 3) pa_nil)))) pa_nil)))))))))))), ?_⟩
    obtain ⟨rops, elast⟩ := lastO_mem (can.ne ni nr)
    generalize hlo : lastO u = lo at elast
    rw [elast] at pr
    obtain ⟨ts', tlast, rfl, pr', hlast⟩ := paired_concat pr
    have lo4 : lo.1 < ya.length := ok.op lo (by rw [elast]; simp)
    have tsl : ts'.length ≤ 200 := by
      have q := Paired.length pr'
      have q2 := ok.opl
      rw [elast, List.length_append] at q2
      have q3 : rops.length + 1 ≤ 4 := q2
      omega
    rw [List.map_append] at ho
    have ho' : SqT K H o (ts'.map V.ref ++ [V.ref tlast]) := ho
    refine ⟨_, rfl, wh, _, rfl, hwh, rfl, .ref o, _, rfl, .ref kt, _, rfl, .int (u.now : Int), _, rfl, rfl, ?_⟩
    refine ⟨_, rfl, ev, _, rfl, SqT.of hev, rfl, .str (evW e), _, rfl, .int (evP e), _, rfl, rfl, ?_⟩
    refine ⟨_, rfl, 1, rfl, o, _, -1, .ref tlast, rfl, rfl, ho', atI_last _ _, ?_⟩
    cases e with
    | inst => exact absurd rfl ni
    | ren p => exact absurd rfl (nr p)
    | read =>
      refine ⟨_, rfl, rfl, _, rfl, ?_⟩
      refine ite2 (fun _ => ?_) (fun q => absurd (show decide (V.str "read" = V.str "read") = true from decide_eq_true rfl) q)
      exact ⟨_, rfl, k H o (Same.refl H) ⟨ts' ++ [tlast], by rw [List.map_append]; exact ho', by rw [show (stepP ya yb u .read).op = u.op from rfl, elast]; exact paired_snoc pr' hlast⟩⟩
    | back =>
      refine ⟨_, rfl, rfl, _, rfl, ?_⟩
      refine ite2 (fun q => absurd q (by decide)) (fun _ => ?_)
      refine ⟨_, rfl, rfl, _, rfl, ?_⟩
      refine ite2 (fun _ => ?_) (fun q => absurd (show decide (V.str "back" = V.str "back") = true from decide_eq_true rfl) q)
      refine ⟨_, rfl, 1, rfl, _, rfl, o, _, rfl, ho', (fun e => absurd e not_whole), fun _ q nq => ?_⟩
      rw [show cutV (ts'.map V.ref ++ [V.ref tlast]) none (some (-1)) = ts'.map V.ref from cut_last]
      refine k _ q (same_upd nq) ⟨ts', SqT.of upd_same, ?_⟩
      rw [show (stepP ya yb u .back).op = u.op.dropLast from rfl, elast, List.dropLast_concat]
      exact paired_mono (fun t x z => sqT_same (same_upd nq) z) pr'
    | take =>
      refine ⟨_, rfl, rfl, _, rfl, ?_⟩
      refine ite2 (fun q => absurd q (by decide)) (fun _ => ?_)
      refine ⟨_, rfl, rfl, _, rfl, ?_⟩
      refine ite2 (fun q => absurd q (by decide)) (fun _ => ?_)
      refine ⟨_, rfl, rfl, _, rfl, ?_⟩
      refine ite2 (fun _ => ?_) (fun q => absurd (show decide (V.str "take" = V.str "take") = true from decide_eq_true rfl) q)
      have hb : bs[lo.1]? = some true := by
        obtain ⟨r', o', e1, e2⟩ := can
        have : o' = lo := by
          rw [← hlo]
          unfold lastO
          rw [e1]
          exact last_app.symm
        rw [← this]
        exact e2
      refine ⟨_, rfl, r, C, dx, _, .ref c, rfl, hr0, R.cl, R.n3, rfl, _, rfl, tlast, _, 0, .int (lo.1 : Int), rfl, rfl, hlast, atI_nat (j := 0) rfl, c, _, _, .bl true, rfl, rfl, hc.sq, atI_nat (by rw [List.getElem?_map, hb]; rfl), true, rfl, ?_⟩
      refine ite2 (fun _ => ?_) (fun q => absurd rfl q)
      refine ⟨_, rfl, 1, rfl, _, rfl, o, _, rfl, ho', (fun e => absurd e not_whole), fun _ q nq => ?_⟩
      rw [show cutV (ts'.map V.ref ++ [V.ref tlast]) none (some (-1)) = ts'.map V.ref from cut_last]
      have s1 := same_upd (o := .tup (ts'.map V.ref)) nq
      refine ⟨q, _, rfl, .inl (SqT.of upd_same), ?_⟩
      refine ⟨_, rfl, r, dx, _, rfl, s1 _ _ hr0, rfl, _, rfl, tlast, _, 0, .int (lo.1 : Int), rfl, rfl, sqT_same s1 hlast, atI_nat (j := 0) rfl, _, rfl, _, rfl, ?_⟩
      refine ⟨r, tlast, lo.1, ws, ya, yb, bs, (lo.1 : Int), lo.2.1, lo.2.2, (u.now : Int), rfl, ra.same s1, lo4, sqT_same s1 hlast, fun H2 t2 s2 ht2 => ?_⟩
      refine ⟨?_, fun t3 nt3 => ?_⟩
      · rw [List.length_append, List.length_map]
        show ts'.length + 1 ≤ sizeLine
        exact Nat.le_of_lt (small1000 (by omega))
      have s3 := same_upd (o := .tup (ts'.map V.ref ++ [V.ref t2])) nt3
      refine k _ t3 ((s1.trans s2).trans s3) ⟨ts' ++ [t2], by rw [List.map_append]; exact SqT.of upd_same, ?_⟩
      rw [show (stepP ya yb u .take).op = u.op.dropLast ++ [((lastO u).1, tkBy (wayOf ya (lastO u).1) u.now, tkBy (wayOf yb (lastO u).1) u.now)] from rfl, hlo, elast, List.dropLast_concat]
      exact paired_snoc (paired_mono (fun t x z => sqT_same ((s1.trans s2).trans s3) z) pr') (SqT.of (s3 _ _ ht2))
    | ask p =>
      refine ⟨_, rfl, rfl, _, rfl, ?_⟩
      refine ite2 (fun q => absurd q (show ¬ decide (V.str ("ask" : Str) = V.str ("read" : Str)) = true by decide)) (fun _ => ?_)
      refine ⟨_, rfl, rfl, _, rfl, ?_⟩
      refine ite2 (fun q => absurd q (show ¬ decide (V.str ("ask" : Str) = V.str ("back" : Str)) = true by decide)) (fun _ => ?_)
      refine ⟨_, rfl, rfl, _, rfl, ?_⟩
      refine ite2 (fun q => absurd q (show ¬ decide (V.str ("ask" : Str) = V.str ("take" : Str)) = true by decide)) (fun _ => ?_)
      obtain ⟨lt, lp⟩ : lo.1 < p ∧ p < ya.length := by
        obtain ⟨r', o', e1, e2, e3⟩ := can
        have : o' = lo := by
          rw [← hlo]
          unfold lastO
          rw [e1]
          exact last_app.symm
        rw [← this]
        exact ⟨e2, e3⟩
      refine ⟨_, rfl, _, rfl, tlast, _, 0, .int (lo.1 : Int), rfl, rfl, hlast, atI_nat (j := 0) rfl, _, _, rfl, rfl, _, rfl, ?_⟩
      refine ite2 (fun q => absurd (of_decide_eq_true q) (show ¬ ((p : Nat) : Int) ≤ ((lo.1 : Nat) : Int) by omega)) (fun _ => ?_)
      refine ⟨_, rfl, r, dx, _, rfl, hr0, rfl, _, rfl, ?_⟩
      refine ⟨_, rfl, r, dx, _, rfl, hr0, rfl, _, rfl, tlast, _, 0, .int (lo.1 : Int), rfl, rfl, hlast, atI_nat (j := 0) rfl, _, rfl, _, rfl, _, rfl, ?_⟩
      refine ⟨r, tlast, kt, lo.1, ws, ya, yb, bs, (lo.1 : Int), lo.2.1, lo.2.2, (u.now : Int), u.kv, rfl, ra, lo4, y4, hlast, hk, ok.kv, fun H1 t1 s1 ht1 => ?_⟩
      refine ⟨_, rfl, r, t1, p, ws, ya, yb, bs, _, _, (u.now : Int), rfl, ra.same s1, lp, .inl ht1.sq, fun H2 t2 s2 ht2 => ?_⟩
      have s02 := s1.trans s2
      refine ⟨_, rfl, o, _, rfl, .inl (sqT_same s02 ho'), _, rfl, _, rfl, t2, _, rfl, .inl ht2.sq, _, rfl, tl, _, rfl, .inl (sqT_same s02 htl), (by show 3 ≤ sizeLine; decide), fun t3 nt3 => ?_⟩
      have s3 := same_upd (o := .tup [.int (p : Int), .int (opBy (wayOf ya p) (rdBy (wayOf ya lo.1) lo.2.1 (keptP ya yb u.kv lo.1) (u.now : Int)) (u.now : Int)), .int (opBy (wayOf yb p) (rdBy (wayOf yb lo.1) lo.2.2 (keptP ya yb u.kv lo.1) (u.now : Int)) (u.now : Int))]) nt3
      refine ⟨?_, fun t4 nt4 => ?_⟩
      · rw [List.length_append, List.length_append, List.length_map]
        show ts'.length + 1 + 1 ≤ sizeLine
        exact Nat.le_of_lt (small1000 (by omega))
      have s4 := same_upd (o := .tup ((ts'.map V.ref ++ [V.ref tlast]) ++ [V.ref t3])) nt4
      refine k _ t4 ((s02.trans s3).trans s4) ⟨(ts' ++ [tlast]) ++ [t3], by rw [List.map_append, List.map_append]; exact SqT.of upd_same, ?_⟩
      rw [show (stepP ya yb u (.ask p)).op = u.op ++ [(p, opBy (wayOf ya p) (rdP ya yb u (lastO u)).1 u.now, opBy (wayOf yb p) (rdP ya yb u (lastO u)).2 u.now)] from rfl, hlo, elast]
      refine paired_snoc (paired_snoc (paired_mono (fun t x z => sqT_same ((s02.trans s3).trans s4) z) pr') (sqT_same ((s02.trans s3).trans s4) hlast)) (SqT.of (s4 _ _ upd_same))
end
end K17

namespace K17
open L2 PySem PySem.Spec PyProof.Rows RZ
section
variable {base : Heap} {P : Program} {w : World} {K : PySem.W.Frag} {mg : Str → Option Value}
/-! ### after -/
def spAfter (K : PySem.W.Frag) (C : Addr) : Sp := fun vs H Q _ => ∃ (r wh ev tl : Nat) (ws ya yb : List Str) (bs : List Bool) (u : Ws) (e : Ev), vs = [.ref r, .ref wh, .ref ev, .ref tl] ∧ RoadAt H C r ws ya yb bs ∧ ya.length ≤ 4 ∧ WhAt K H wh u ∧ H ev = some (.tup [.str (evW e), .int (evP e)]) ∧ SqT K H tl [] ∧
  OkP ya yb u ∧ CanP ya yb bs u e ∧ ∀ H' t, Same H H' → WhAt K H' t (stepP ya yb u e) → Q (.ref t) H'
abbrev nAfter : List Str := ["road", "where", "event", "tail", "openings", "kept", "present", "word", "part", "opening", "changed"]
theorem scAfter : FnScope nAfter ["road", "where", "event", "tail"] (defScope sAfter) := ⟨rfl, rfl, rfl, by decide +kernel, rfl, by decide +kernel, by decide +kernel⟩
theorem ok_after {f C : Addr} {fd : FuncData} (F : Fun K "after" "after" sAfter f fd) (T : TxtC K mg) (R : RoadT K mg C) (GN : HasM P w K mg base C "renewed" 1 ["self", "kept", "part", "present"] (spRenewed K C)) (GA : Has P w K mg base "after_own" 3 ["road", "where", "event", "tail"] (spAfterOwn K C)) :
    FnOk P w K mg base CX0 4 f fd ["road", "where", "event", "tail"] (spAfter K C) := by
  refine F.ok scAfter (fun vs H Q E h => ?_) (fun cdv A outer s H vs Q E hr h => ?_)
  · obtain ⟨r, wh, ev, tl, ws, ya, yb, bs, u, e, rfl, _⟩ := h
    rfl
  · obtain ⟨r, wh, ev, tl, ws, ya, yb, bs, u, e, rfl, ra, y4, whA, hev, htl, ok, can, k⟩ := h
    have whB := whA
    obtain ⟨o, kt, hwh, ⟨ts, ho, pr⟩, hk⟩ := whA
    obtain ⟨dx, na, c, pw, kp, tws, hr0, ha, hc, hpw, prs, hkp⟩ := ra.ex
    have r1 : Room 1 _ := hr.mono (by decide)
    have tsl : ts.length ≤ 200 := by
      have q := Paired.length pr
      have q2 := ok.opl
      omega
    obtain ⟨tt, htt, hq⟩ : ∃ tt, PSs (cxOf CX0 P w K mg base nAfter "after" (defScope sAfter) f cdv A outer s H E).nox ((defBody sAfter).drop 4) tt ∧
        (e ≠ .inst → (∀ p, e ≠ .ren p) → tt { nx := fun _ H' => Q .non H', rt := Q } [some (.ref r), some (.ref wh), some (.ref ev), some (.ref tl), some (.ref o), some (.ref kt), some (.int (u.now : Int)), some (.str (evW e)), some (.int (evP e)), none, none] H) := by
      refine ⟨_, (pss_cons (ps_if (PW.pt (pw_or (pt_cmpR op_eq (pv 7) pe_str (nomark _)) (pw_or1 (pt_not (pt_truth (pv 4) (fun _ => rfl)))))) (pss_one (ps_ret pe_non)) pss_nil)
      (pss_cons (ps_set (i := 10) scAfter.nd rfl (.inl rfl) (pe_has GA hr (pa_cons (pv 0) (pa_cons (pv 1) (pa_cons (pv 2) (pa_cons (pv 3) pa_nil))))))
      (pss_one (ps_ret (pe_ifExp (pt_cmpR op_isN (pv 10) pe_non (nomark _)) pe_non (pe_tup (pa_cons (pv 10) (pa_cons (pv 5) (pa_cons (pv 6) pa_nil))))))))), fun ni nr => ?_⟩
      have hne := can.ne ni nr
      refine ⟨_, rfl, rfl, _, rfl, ?_⟩
      refine ite2 (fun q => absurd q (by
        cases e with
        | inst => exact absurd rfl ni
        | ren p => exact absurd rfl (nr p)
        | read => exact (show ¬ decide (V.str ("read" : Str) = V.str ("begin" : Str)) = true by decide)
        | take => exact (show ¬ decide (V.str ("take" : Str) = V.str ("begin" : Str)) = true by decide)
        | back => exact (show ¬ decide (V.str ("back" : Str) = V.str ("begin" : Str)) = true by decide)
        | ask p => exact (show ¬ decide (V.str ("ask" : Str) = V.str ("begin" : Str)) = true by decide))) (fun _ => ?_)
      have tne : (!(ts.map V.ref).isEmpty) = true := by
        cases ts with
        | nil =>
          have q := Paired.length pr
          exact absurd (List.eq_nil_of_length_eq_zero q.symm) hne
        | cons a l => rfl
      refine ⟨_, rfl, true, .inr (.inl ⟨_, ho, tne.symm⟩), ?_⟩
      refine ite2 (fun q => absurd q (by decide)) (fun _ => ?_)
      refine ⟨_, rfl, _, rfl, _, rfl, _, rfl, r, wh, ev, tl, ws, ya, yb, bs, u, e, rfl, ra, y4, whB, hev, htl, ok, can, ni, nr, fun H1 o1 s1 ho1 => ?_⟩
      refine ⟨_, rfl, rfl, _, rfl, ?_⟩
      refine ite2 (fun q => by cases of_decide_eq_true q) (fun _ => ?_)
      refine ⟨_, rfl, _, rfl, _, rfl, (by show 3 ≤ sizeLine; decide), fun t nt => ?_⟩
      have s2 := s1.trans (same_upd (o := .tup [.ref o1, .ref kt, .int (u.now : Int)]) nt)
      refine k _ t s2 ⟨o1, kt, ?_, ho1.same (same_upd nt), ?_⟩
      · cases e with
        | inst => exact absurd rfl ni
        | ren p => exact absurd rfl (nr p)
        | read => exact SqT.of upd_same
        | take => exact SqT.of upd_same
        | back => exact SqT.of upd_same
        | ask p => exact SqT.of upd_same
      · cases e with
        | inst => exact absurd rfl ni
        | ren p => exact absurd rfl (nr p)
        | read => exact sqT_same s2 hk
        | take => exact sqT_same s2 hk
        | back => exact sqT_same s2 hk
        | ask p => exact sqT_same s2 hk
    refine ⟨_, pss_cons (ps_asg (pv 1) (pg_tup rfl (pgs_cons (pg_name (i := 4) scAfter.nd rfl (.inl rfl)) (pgs_cons (pg_name (i := 5) scAfter.nd rfl (.inl rfl)) (pgs_cons (pg_name (i := 6) scAfter.nd rfl (.inl rfl)) pgs_nil)))))
      (pss_cons (ps_asg (pv 2) (pg_tup rfl (pgs_cons (pg_name (i := 7) scAfter.nd rfl (.inl rfl)) (pgs_cons (pg_name (i := 8) scAfter.nd rfl (.inl rfl)) pgs_nil))))
      (pss_cons (ps_if (pt_cmpR op_eq (pv 7) pe_str (nomark _)) (pss_one (ps_ret (pe_tup (pa_cons (pv 4) (pa_cons (pv 5) (pa_cons (pe_op op_add (pv 6) pe_int) pa_nil)))))) pss_nil)
      (pss_cons (ps_if (pt_cmpR op_eq (pv 7) pe_str (nomark _))
          (pss_cons (ps_if (PW.pt (pw_or (pt_cmpR (r := rIn K true) op_notIn_seq (pv 8) (pe_fld (pv 0) rfl) (by rfl)) (pw_or1 (pt_cmpR (r := rIn K false) op_in_seq (pv 8) (pe_lc (own := [("opening", 9)]) (g := gName 9) (tt := tYes) rfl scAfter.nd (pi_tup (pv 4))
              (blkOk_by (N := nAfter) (sc := defScope sAfter) (by decide +kernel)) (fun _ _ _ _ _ => pg_name (i := 9) scAfter.nd rfl (Or.inl rfl)) (fun _ _ _ _ _ => pts_nil)
              (fun _ _ _ _ _ => pe_ix (r := rIxT K) ix_tup (pv 9) pe_int (fun _ _ => rfl))) (by rfl))))) (pss_one (ps_ret pe_non)) pss_nil)
          (pss_one (ps_ret (pe_tup (pa_cons (pv 4) (pa_cons (pe_hasM GN R.cl r1 (pv 0) (pa_cons (pv 5) (pa_cons (pv 8) (pa_cons (pv 6) pa_nil)))) (pa_cons (pv 6) pa_nil))))))) pss_nil)
      htt))), ?_⟩
    refine ⟨_, rfl, wh, _, rfl, hwh, rfl, .ref o, _, rfl, .ref kt, _, rfl, .int (u.now : Int), _, rfl, rfl, ?_⟩
    refine ⟨_, rfl, ev, _, rfl, SqT.of hev, rfl, .str (evW e), _, rfl, .int (evP e), _, rfl, rfl, ?_⟩
    cases e with
    | inst =>
      refine ⟨_, rfl, rfl, _, rfl, ?_⟩
      refine ite2 (fun _ => ?_) (fun q => absurd (show decide (V.str ("install" : Str) = V.str ("install" : Str)) = true from decide_eq_true rfl) q)
      refine ⟨_, rfl, _, rfl, _, rfl, _, _, rfl, rfl, (by show 3 ≤ sizeLine; decide), fun t nt => ?_⟩
      exact k _ t (same_upd nt) ⟨o, kt, SqT.of upd_same, OpsAt.same ⟨ts, ho, pr⟩ (same_upd nt), sqT_same (same_upd nt) hk⟩
    | ren p =>
      refine ⟨_, rfl, rfl, _, rfl, ?_⟩
      refine ite2 (fun q => absurd q (show ¬ decide (V.str ("renew" : Str) = V.str ("install" : Str)) = true by decide)) (fun _ => ?_)
      refine ⟨_, rfl, rfl, _, rfl, ?_⟩
      refine ite2 (fun _ => ?_) (fun q => absurd (show decide (V.str ("renew" : Str) = V.str ("renew" : Str)) = true from decide_eq_true rfl) q)
      obtain ⟨pk, pno⟩ := can
      refine ⟨_, rfl, _, rfl, r, C, dx, _, .ref kp, rfl, hr0, R.cl, R.n5, rfl, kp, _, rfl, .inr hkp.sq, rfl, natV_flat _, _, rfl, ?_⟩
      refine ite2 (fun q => absurd q (by
        show ¬ (!inV (.int (p : Int)) (natV (kpP ya yb))) = true
        rw [inV_nat, decide_eq_true pk]
        decide)) (fun _ => ?_)
      refine ⟨_, rfl, _, rfl, o, rfl, ⟨_, ho⟩, fun D nD => ?_⟩
      refine lc_tup (K := K) (xs := ts.map V.ref) (fun j H' => Same H H' ∧ H' D = some (.lst (natV ((u.op.map (·.1)).take j)))) ⟨same_upd nD, upd_same⟩ (fun j H' _ q => sqT_same q.1 ho) ?_ ?_
      · rintro j x H1 hx ⟨s1, hD⟩
        rw [List.getElem?_map] at hx
        obtain ⟨t, ht, rfl⟩ := Option.map_eq_some_iff.mp hx
        obtain ⟨q, hq1, hq2⟩ := paired_get pr ht
        have jlt := (List.getElem?_eq_some_iff.mp ht).1
        refine ⟨rfl, _, rfl, t, _, 0, .int (q.1 : Int), rfl, rfl, sqT_same s1 hq2, atI_nat (j := 0) rfl, _, hD, ?_, same_new s1 nD, ?_⟩
        · unfold natV
          rw [List.length_map, List.length_take]
          exact small1000 (by omega)
        · have e1 : (u.op.map (·.1))[j]? = some q.1 := by rw [List.getElem?_map, hq1]; rfl
          rw [upd_same, take_one e1]
          unfold natV
          rw [List.map_append]
          rfl
      · rintro H1 ⟨s1, hD⟩
        have el : (u.op.map (·.1)).take (ts.map V.ref).length = u.op.map (·.1) := by
          refine List.take_of_length_le ?_
          rw [List.length_map, List.length_map, Paired.length pr]
          exact Nat.le_refl _
        rw [el] at hD
        refine ⟨D, _, rfl, .inl (SqL.of hD), rfl, natV_flat _, _, rfl, ?_⟩
        refine ite2 (fun q => absurd q (by
          show ¬ inV (.int (p : Int)) (natV (u.op.map (·.1))) = true
          rw [inV_nat, decide_eq_false pno]
          decide)) (fun _ => ?_)
        have kl : u.kv.length ≤ 100 := by
          have := ok.kv
          have := kpP_len (ya := ya) (yb := yb)
          omega
        refine ⟨_, rfl, _, rfl, r, dx, _, rfl, s1 _ _ hr0, rfl, _, rfl, _, rfl, _, rfl, r, kt, p, ws, ya, yb, bs, u.kv, (u.now : Int), rfl, ra.same s1, ok.kv, kl, sqT_same s1 hk, fun H2 t2 s2 ht2 => ?_⟩
        have s02 := s1.trans s2
        refine ⟨_, rfl, (by show 3 ≤ sizeLine; decide), fun t nt => ?_⟩
        have s3 := same_upd (o := .tup [.ref o, .ref t2, .int (u.now : Int)]) nt
        exact k _ t (s02.trans s3) ⟨o, t2, SqT.of upd_same, OpsAt.same ⟨ts, ho, pr⟩ (s02.trans s3), (ht2.same s3).sq⟩
    | read =>
      refine ⟨_, rfl, rfl, _, rfl, ite2 (fun q => absurd q (show ¬ decide (V.str ("read" : Str) = V.str ("install" : Str)) = true by decide)) (fun _ => ⟨_, rfl, rfl, _, rfl, ite2 (fun q => absurd q (show ¬ decide (V.str ("read" : Str) = V.str ("renew" : Str)) = true by decide)) (fun _ => ?_)⟩)⟩
      exact hq (fun z => nomatch z) (fun p z => nomatch z)
    | take =>
      refine ⟨_, rfl, rfl, _, rfl, ite2 (fun q => absurd q (show ¬ decide (V.str ("take" : Str) = V.str ("install" : Str)) = true by decide)) (fun _ => ⟨_, rfl, rfl, _, rfl, ite2 (fun q => absurd q (show ¬ decide (V.str ("take" : Str) = V.str ("renew" : Str)) = true by decide)) (fun _ => ?_)⟩)⟩
      exact hq (fun z => nomatch z) (fun p z => nomatch z)
    | back =>
      refine ⟨_, rfl, rfl, _, rfl, ite2 (fun q => absurd q (show ¬ decide (V.str ("back" : Str) = V.str ("install" : Str)) = true by decide)) (fun _ => ⟨_, rfl, rfl, _, rfl, ite2 (fun q => absurd q (show ¬ decide (V.str ("back" : Str) = V.str ("renew" : Str)) = true by decide)) (fun _ => ?_)⟩)⟩
      exact hq (fun z => nomatch z) (fun p z => nomatch z)
    | ask p =>
      refine ⟨_, rfl, rfl, _, rfl, ite2 (fun q => absurd q (show ¬ decide (V.str ("ask" : Str) = V.str ("install" : Str)) = true by decide)) (fun _ => ⟨_, rfl, rfl, _, rfl, ite2 (fun q => absurd q (show ¬ decide (V.str ("ask" : Str) = V.str ("renew" : Str)) = true by decide)) (fun _ => ?_)⟩)⟩
      exact hq (fun z => nomatch z) (fun p z => nomatch z)
end
end K17

namespace K17
open L2 PySem PySem.Spec PyProof.Rows RZ
theorem FnOk.or {P : Program} {w : World} {K : PySem.W.Frag} {mg : Str → Option Value} {base : Heap} {CX : CXT} {k : Nat} {f : Addr} {fd : FuncData} {ps : List Str} {sp sp' : Sp} (F : FnOk P w K mg base CX k f fd ps sp) (G : FnOk P w K mg base CX k f fd ps sp') :
    FnOk P w K mg base CX k f fd ps (fun vs H Q E => sp vs H Q E ∨ sp' vs H Q E) :=
  ⟨fun vs H Q E h => h.elim (F.len vs H Q E) (G.len vs H Q E), fun A outer s H args us vs Q E hr he hb hv h => h.elim (F.run A outer s H args us vs Q E hr he hb hv) (G.run A outer s H args us vs Q E hr he hb hv)⟩
section
variable {base : Heap} {P : Program} {w : World} {K : PySem.W.Frag} {mg : Str → Option Value}
/-! ### own events that cannot come -/
def spAfterOwnN (K : PySem.W.Frag) (C : Addr) : Sp := fun vs H Q _ => ∃ (r wh ev tl : Addr) (ws ya yb : List Str) (bs : List Bool) (u : Ws) (z : Str) (p : Nat) (pi : Int), vs = [.ref r, .ref wh, .ref ev, .ref tl] ∧ RoadAt H C r ws ya yb bs ∧ WhAt K H wh u ∧ H ev = some (.tup [.str z, .int pi]) ∧
  u.op ≠ [] ∧ ((z = "take" ∧ bs[(lastO u).1]? = some false) ∨ (z = "ask" ∧ pi = (p : Int) ∧ p ≤ (lastO u).1)) ∧ Q .non H
theorem ok_afterOwnN {f C : Addr} {fd : FuncData} (F : Fun K "after_own" "after_own" sAfterOwn f fd) (T : TxtC K mg) (R : RoadT K mg C) (GT : HasM P w K mg base C "taken" 1 ["self", "part", "opening", "present"] (spTaken K C)) (GO : HasM P w K mg base C "opened" 2 ["self", "part", "asked", "present"] (spOpened K C)) (GR : HasM P w K mg base C "reads" 2 ["self", "part", "opening", "kept", "present"] (spReads K C)) :
    FnOk P w K mg base CX0 3 f fd ["road", "where", "event", "tail"] (spAfterOwnN K C) := by
  refine F.ok scAfterOwn (fun vs H Q E h => ?_) (fun cdv A outer s H vs Q E hr h => ?_)
  · obtain ⟨r, wh, ev, tl, ws, ya, yb, bs, u, z, p, pi, rfl, _⟩ := h
    rfl
  · obtain ⟨r, wh, ev, tl, ws, ya, yb, bs, u, z, p, pi, rfl, ra, ⟨o, kt, hwh, ⟨ts, ho, pr⟩, hk⟩, hev, hne, cs, k⟩ := h
    obtain ⟨dx, na, c, pw, kp, tws, hr0, ha, hc, hpw, prs, hkp⟩ := ra.ex
    have r1 : Room 1 _ := hr.mono (by decide)
    refine ⟨_, pss_cons (ps_asg (pv 1) (pg_tup rfl (pgs_cons (pg_name (i := 4) scAfterOwn.nd rfl (.inl rfl)) (pgs_cons (pg_name (i := 5) scAfterOwn.nd rfl (.inl rfl)) (pgs_cons (pg_name (i := 6) scAfterOwn.nd rfl (.inl rfl)) pgs_nil)))))
      (pss_cons (ps_asg (pv 2) (pg_tup rfl (pgs_cons (pg_name (i := 7) scAfterOwn.nd rfl (.inl rfl)) (pgs_cons (pg_name (i := 8) scAfterOwn.nd rfl (.inl rfl)) pgs_nil))))
      (pss_cons (ps_set (i := 9) scAfterOwn.nd rfl (.inl rfl) (pe_ix (r := rIxT K) ix_tup (pv 4) (pe_un un_neg pe_int) (fun _ _ => rfl)))
      (pss_cons (ps_if (pt_cmpR op_eq (pv 7) pe_str (nomark _)) (pss_one (ps_ret (pv 4))) pss_nil)
      (pss_cons (ps_if (pt_cmpR op_eq (pv 7) pe_str (nomark _)) (pss_one (ps_ret (pe_slice (r := rSlA K) sl_tupA (pv 4) po_none (po_some (pe_un un_neg pe_int))))) pss_nil)
      (pss_cons (ps_if (pt_cmpR op_eq (pv 7) pe_str (nomark _)) (pss_one (ps_ret (pe_ifExp (pt_val (pe_ix (r := rIxT K) ix_tup (pe_fld (pv 0) rfl) (pe_ix (r := rIxT K) ix_tup (pv 9) pe_int (fun _ _ => rfl)) (fun _ _ => rfl)))
          (pe_tup (StX.pa_star (pe_slice (r := rSlA K) sl_tupA (pv 4) po_none (po_some (pe_un un_neg pe_int))) (pa_cons (pe_hasM GT R.cl r1 (pv 0) (pa_cons (pe_ix (r := rIxT K) ix_tup (pv 9) pe_int (fun _ _ => rfl)) (pa_cons (pv 9) (pa_cons (pv 6) pa_nil)))) pa_nil))) pe_non))) pss_nil)
      (pss_cons (ps_if (pt_cmpR op_le (pv 8) (pe_ix (r := rIxT K) ix_tup (pv 9) pe_int (fun _ _ => rfl)) (nomark _)) (pss_one (ps_ret pe_non)) pss_nil)
      (pss_cons (ps_set (i := 10) scAfterOwn.nd rfl (.inl rfl) (pe_hasM GO R.cl hr (pv 0) (pa_cons (pv 8) (pa_cons (pe_hasM GR R.cl hr (pv 0) (pa_cons (pe_ix (r := rIxT K) ix_tup (pv 9) pe_int (fun _ _ => rfl)) (pa_cons (pv 9) (pa_cons (pv 5) (pa_cons (pv 6) pa_nil))))) (pa_cons (pv 6) pa_nil)))))
      (pss_one (ps_ret (pe_tup (StX.pa_star (pv 4) (pa_cons (pe_tup (pa_cons (pv 8) (StX.pa_star (pv 10) (StX.pa_star (pv 3) pa_nil)))) pa_nil)))))))))))), ?_⟩
    obtain ⟨rops, elast⟩ := lastO_mem hne
    generalize hlo : lastO u = lo at elast cs
    rw [elast] at pr
    obtain ⟨ts', tlast, rfl, pr', hlast⟩ := paired_concat pr
    rw [List.map_append] at ho
    have ho' : SqT K H o (ts'.map V.ref ++ [V.ref tlast]) := ho
    refine ⟨_, rfl, wh, _, rfl, hwh, rfl, .ref o, _, rfl, .ref kt, _, rfl, .int (u.now : Int), _, rfl, rfl, ?_⟩
    refine ⟨_, rfl, ev, _, rfl, SqT.of hev, rfl, .str z, _, rfl, .int pi, _, rfl, rfl, ?_⟩
    refine ⟨_, rfl, 1, rfl, o, _, -1, .ref tlast, rfl, rfl, ho', atI_last _ _, ?_⟩
    rcases cs with ⟨rfl, hb⟩ | ⟨rfl, rfl, le⟩
    · refine ⟨_, rfl, rfl, _, rfl, ?_⟩
      refine ite2 (fun q => absurd q (by decide)) (fun _ => ?_)
      refine ⟨_, rfl, rfl, _, rfl, ?_⟩
      refine ite2 (fun q => absurd q (by decide)) (fun _ => ?_)
      refine ⟨_, rfl, rfl, _, rfl, ?_⟩
      refine ite2 (fun _ => ?_) (fun q => absurd (show decide (V.str "take" = V.str "take") = true from decide_eq_true rfl) q)
      refine ⟨_, rfl, r, C, dx, _, .ref c, rfl, hr0, R.cl, R.n3, rfl, _, rfl, tlast, _, 0, .int (lo.1 : Int), rfl, rfl, hlast, atI_nat (j := 0) rfl, c, _, _, .bl false, rfl, rfl, hc.sq, atI_nat (by rw [List.getElem?_map, hb]; rfl), false, rfl, ?_⟩
      exact ite2 (fun q => nomatch q) (fun _ => k)
    · refine ⟨_, rfl, rfl, _, rfl, ?_⟩
      refine ite2 (fun q => absurd q (show ¬ decide (V.str ("ask" : Str) = V.str ("read" : Str)) = true by decide)) (fun _ => ?_)
      refine ⟨_, rfl, rfl, _, rfl, ?_⟩
      refine ite2 (fun q => absurd q (show ¬ decide (V.str ("ask" : Str) = V.str ("back" : Str)) = true by decide)) (fun _ => ?_)
      refine ⟨_, rfl, rfl, _, rfl, ?_⟩
      refine ite2 (fun q => absurd q (show ¬ decide (V.str ("ask" : Str) = V.str ("take" : Str)) = true by decide)) (fun _ => ?_)
      refine ⟨_, rfl, _, rfl, tlast, _, 0, .int (lo.1 : Int), rfl, rfl, hlast, atI_nat (j := 0) rfl, _, _, rfl, rfl, _, rfl, ?_⟩
      refine ite2 (fun _ => ?_) (fun q => absurd (decide_eq_true (show ((p : Nat) : Int) ≤ ((lo.1 : Nat) : Int) by omega)) q)
      exact k
/-! ### events that cannot come -/
def own4 : List Str := ["read", "take", "back", "ask"]
/-- why an event cannot come behind the first one -/
def NoCan (ya yb : Ys) (bs : List Bool) (u : Ws) (z : Str) (p : Nat) (pi : Int) : Prop :=
  z = "begin" ∨ (z = "renew" ∧ pi = (p : Int) ∧ p < ya.length ∧ ¬ (p ∈ kpP ya yb ∧ p ∉ u.op.map (·.1))) ∨ (z ∈ own4 ∧ u.op = []) ∨ (u.op ≠ [] ∧ ((z = "take" ∧ bs[(lastO u).1]? = some false) ∨ (z = "ask" ∧ pi = (p : Int) ∧ p ≤ (lastO u).1)))
def spAfterN (K : PySem.W.Frag) (C : Addr) : Sp := fun vs H Q _ => ∃ (r wh ev tl : Addr) (ws ya yb : List Str) (bs : List Bool) (u : Ws) (z : Str) (p : Nat) (pi : Int), vs = [.ref r, .ref wh, .ref ev, .ref tl] ∧ RoadAt H C r ws ya yb bs ∧ WhAt K H wh u ∧ H ev = some (.tup [.str z, .int pi]) ∧
  OkP ya yb u ∧ NoCan ya yb bs u z p pi ∧ ∀ H', Same H H' → Q .non H'
theorem ok_afterN {f C : Addr} {fd : FuncData} (F : Fun K "after" "after" sAfter f fd) (T : TxtC K mg) (R : RoadT K mg C) (GN : HasM P w K mg base C "renewed" 1 ["self", "kept", "part", "present"] (spRenewed K C)) (GA : Has P w K mg base "after_own" 3 ["road", "where", "event", "tail"] (spAfterOwnN K C)) :
    FnOk P w K mg base CX0 4 f fd ["road", "where", "event", "tail"] (spAfterN K C) := by
  refine F.ok scAfter (fun vs H Q E h => ?_) (fun cdv A outer s H vs Q E hr h => ?_)
  · obtain ⟨r, wh, ev, tl, ws, ya, yb, bs, u, z, p, pi, rfl, _⟩ := h
    rfl
  · obtain ⟨r, wh, ev, tl, ws, ya, yb, bs, u, z, p, pi, rfl, ra, whA, hev, ok, cs, k⟩ := h
    have whB := whA
    obtain ⟨o, kt, hwh, ⟨ts, ho, pr⟩, hk⟩ := whA
    obtain ⟨dx, na, c, pw, kp, tws, hr0, ha, hc, hpw, prs, hkp⟩ := ra.ex
    have r1 : Room 1 _ := hr.mono (by decide)
    have tsl : ts.length ≤ 200 := by
      have q := Paired.length pr
      have q2 := ok.opl
      omega
    refine ⟨_, pss_cons (ps_asg (pv 1) (pg_tup rfl (pgs_cons (pg_name (i := 4) scAfter.nd rfl (.inl rfl)) (pgs_cons (pg_name (i := 5) scAfter.nd rfl (.inl rfl)) (pgs_cons (pg_name (i := 6) scAfter.nd rfl (.inl rfl)) pgs_nil)))))
      (pss_cons (ps_asg (pv 2) (pg_tup rfl (pgs_cons (pg_name (i := 7) scAfter.nd rfl (.inl rfl)) (pgs_cons (pg_name (i := 8) scAfter.nd rfl (.inl rfl)) pgs_nil))))
      (pss_cons (ps_if (pt_cmpR op_eq (pv 7) pe_str (nomark _)) (pss_one (ps_ret (pe_tup (pa_cons (pv 4) (pa_cons (pv 5) (pa_cons (pe_op op_add (pv 6) pe_int) pa_nil)))))) pss_nil)
      (pss_cons (ps_if (pt_cmpR op_eq (pv 7) pe_str (nomark _))
          (pss_cons (ps_if (PW.pt (pw_or (pt_cmpR (r := rIn K true) op_notIn_seq (pv 8) (pe_fld (pv 0) rfl) (by rfl)) (pw_or1 (pt_cmpR (r := rIn K false) op_in_seq (pv 8) (pe_lc (own := [("opening", 9)]) (g := gName 9) (tt := tYes) rfl scAfter.nd (pi_tup (pv 4))
              (blkOk_by (N := nAfter) (sc := defScope sAfter) (by decide +kernel)) (fun _ _ _ _ _ => pg_name (i := 9) scAfter.nd rfl (Or.inl rfl)) (fun _ _ _ _ _ => pts_nil)
              (fun _ _ _ _ _ => pe_ix (r := rIxT K) ix_tup (pv 9) pe_int (fun _ _ => rfl))) (by rfl))))) (pss_one (ps_ret pe_non)) pss_nil)
          (pss_one (ps_ret (pe_tup (pa_cons (pv 4) (pa_cons (pe_hasM GN R.cl r1 (pv 0) (pa_cons (pv 5) (pa_cons (pv 8) (pa_cons (pv 6) pa_nil)))) (pa_cons (pv 6) pa_nil))))))) pss_nil)
      (pss_cons (ps_if (PW.pt (pw_or (pt_cmpR op_eq (pv 7) pe_str (nomark _)) (pw_or1 (pt_not (pt_truth (pv 4) (fun _ => rfl)))))) (pss_one (ps_ret pe_non)) pss_nil)
      (pss_cons (ps_set (i := 10) scAfter.nd rfl (.inl rfl) (pe_has GA hr (pa_cons (pv 0) (pa_cons (pv 1) (pa_cons (pv 2) (pa_cons (pv 3) pa_nil))))))
      (pss_one (ps_ret (pe_ifExp (pt_cmpR op_isN (pv 10) pe_non (nomark _)) pe_non (pe_tup (pa_cons (pv 10) (pa_cons (pv 5) (pa_cons (pv 6) pa_nil)))))))))))), ?_⟩
    refine ⟨_, rfl, wh, _, rfl, hwh, rfl, .ref o, _, rfl, .ref kt, _, rfl, .int (u.now : Int), _, rfl, rfl, ?_⟩
    refine ⟨_, rfl, ev, _, rfl, SqT.of hev, rfl, .str z, _, rfl, .int pi, _, rfl, rfl, ?_⟩
    rcases cs with rfl | ⟨rfl, rfl, hp, cs⟩ | ⟨hz, h0⟩ | ⟨hne, cs⟩
    · refine ⟨_, rfl, rfl, _, rfl, ?_⟩
      refine ite2 (fun q => absurd q (show ¬ decide (V.str ("begin" : Str) = V.str ("install" : Str)) = true by decide)) (fun _ => ?_)
      refine ⟨_, rfl, rfl, _, rfl, ?_⟩
      refine ite2 (fun q => absurd q (show ¬ decide (V.str ("begin" : Str) = V.str ("renew" : Str)) = true by decide)) (fun _ => ?_)
      refine ⟨_, rfl, rfl, _, rfl, ?_⟩
      refine ite2 (fun _ => ?_) (fun q => absurd (show decide (V.str "begin" = V.str "begin") = true from decide_eq_true rfl) q)
      exact k H (Same.refl H)
    · refine ⟨_, rfl, rfl, _, rfl, ?_⟩
      refine ite2 (fun q => absurd q (show ¬ decide (V.str ("renew" : Str) = V.str ("install" : Str)) = true by decide)) (fun _ => ?_)
      refine ⟨_, rfl, rfl, _, rfl, ?_⟩
      refine ite2 (fun _ => ?_) (fun q => absurd (show decide (V.str ("renew" : Str) = V.str ("renew" : Str)) = true from decide_eq_true rfl) q)
      refine ⟨_, rfl, _, rfl, r, C, dx, _, .ref kp, rfl, hr0, R.cl, R.n5, rfl, kp, _, rfl, .inr hkp.sq, rfl, natV_flat _, _, rfl, ?_⟩
      by_cases pk : p ∈ kpP ya yb
      · refine ite2 (fun q => absurd q (by
          show ¬ (!inV (.int (p : Int)) (natV (kpP ya yb))) = true
          rw [inV_nat, decide_eq_true pk]
          decide)) (fun _ => ?_)
        have pno : p ∈ u.op.map (·.1) := Classical.byContradiction fun q => cs ⟨pk, q⟩
        refine ⟨_, rfl, _, rfl, o, rfl, ⟨_, ho⟩, fun D nD => ?_⟩
        refine lc_tup (K := K) (xs := ts.map V.ref) (fun j H' => Same H H' ∧ H' D = some (.lst (natV ((u.op.map (·.1)).take j)))) ⟨same_upd nD, upd_same⟩ (fun j H' _ q => sqT_same q.1 ho) ?_ ?_
        · rintro j x H1 hx ⟨s1, hD⟩
          rw [List.getElem?_map] at hx
          obtain ⟨t, ht, rfl⟩ := Option.map_eq_some_iff.mp hx
          obtain ⟨q, hq1, hq2⟩ := paired_get pr ht
          have jlt := (List.getElem?_eq_some_iff.mp ht).1
          refine ⟨rfl, _, rfl, t, _, 0, .int (q.1 : Int), rfl, rfl, sqT_same s1 hq2, atI_nat (j := 0) rfl, _, hD, ?_, same_new s1 nD, ?_⟩
          · unfold natV
            rw [List.length_map, List.length_take]
            exact small1000 (by omega)
          · have e1 : (u.op.map (·.1))[j]? = some q.1 := by rw [List.getElem?_map, hq1]; rfl
            rw [upd_same, take_one e1]
            unfold natV
            rw [List.map_append]
            rfl
        · rintro H1 ⟨s1, hD⟩
          have el : (u.op.map (·.1)).take (ts.map V.ref).length = u.op.map (·.1) := by
            refine List.take_of_length_le ?_
            rw [List.length_map, List.length_map, Paired.length pr]
            exact Nat.le_refl _
          rw [el] at hD
          refine ⟨D, _, rfl, .inl (SqL.of hD), rfl, natV_flat _, _, rfl, ?_⟩
          refine ite2 (fun _ => ?_) (fun q => absurd (by
            show inV (.int (p : Int)) (natV (u.op.map (·.1))) = true
            rw [inV_nat, decide_eq_true pno]) q)
          exact k H1 s1
      · refine ite2 (fun _ => ?_) (fun q => absurd (by
          show (!inV (.int (p : Int)) (natV (kpP ya yb))) = true
          rw [inV_nat, decide_eq_false pk]
          rfl) q)
        exact k H (Same.refl H)
    · have t0 : ts = [] := by
        have q := Paired.length pr
        rw [h0] at q
        exact List.eq_nil_of_length_eq_zero q
      subst t0
      have fin : ∀ l : Str, l ∈ (["install", "renew", "begin"] : List Str) → z ≠ l := by
        intro l hl
        have all : ∀ z ∈ own4, ∀ l ∈ (["install", "renew", "begin"] : List Str), z ≠ l := by decide +kernel
        exact all z hz l hl
      refine ⟨_, rfl, rfl, _, rfl, ?_⟩
      refine ite2 (fun q => absurd (V.str.inj (of_decide_eq_true q)) (fin "install" (by decide +kernel))) (fun _ => ?_)
      refine ⟨_, rfl, rfl, _, rfl, ?_⟩
      refine ite2 (fun q => absurd (V.str.inj (of_decide_eq_true q)) (fin "renew" (by decide +kernel))) (fun _ => ?_)
      refine ⟨_, rfl, rfl, _, rfl, ?_⟩
      refine ite2 (fun q => absurd (V.str.inj (of_decide_eq_true q)) (fin "begin" (by decide +kernel))) (fun _ => ?_)
      refine ⟨_, rfl, false, .inr (.inl ⟨_, ho, rfl⟩), ?_⟩
      exact ite2 (fun _ => k H (Same.refl H)) (fun q => absurd rfl q)
    · have hz : z = "take" ∨ z = "ask" := cs.imp (fun q => q.1) (fun q => q.1)
      have fin : ∀ l : Str, l ∈ (["install", "renew", "begin"] : List Str) → z ≠ l := by
        intro l hl
        have all : ∀ z ∈ (["take", "ask"] : List Str), ∀ l ∈ (["install", "renew", "begin"] : List Str), z ≠ l := by decide +kernel
        exact all z (by rcases hz with e | e <;> rw [e] <;> decide +kernel) l hl
      refine ⟨_, rfl, rfl, _, rfl, ?_⟩
      refine ite2 (fun q => absurd (V.str.inj (of_decide_eq_true q)) (fin "install" (by decide +kernel))) (fun _ => ?_)
      refine ⟨_, rfl, rfl, _, rfl, ?_⟩
      refine ite2 (fun q => absurd (V.str.inj (of_decide_eq_true q)) (fin "renew" (by decide +kernel))) (fun _ => ?_)
      refine ⟨_, rfl, rfl, _, rfl, ?_⟩
      refine ite2 (fun q => absurd (V.str.inj (of_decide_eq_true q)) (fin "begin" (by decide +kernel))) (fun _ => ?_)
      have tne : (!(ts.map V.ref).isEmpty) = true := by
        cases ts with
        | nil =>
          have q := Paired.length pr
          exact absurd (List.eq_nil_of_length_eq_zero q.symm) hne
        | cons a l => rfl
      refine ⟨_, rfl, true, .inr (.inl ⟨_, ho, tne.symm⟩), ?_⟩
      refine ite2 (fun q => absurd q (by decide)) (fun _ => ?_)
      refine ⟨_, rfl, _, rfl, _, rfl, _, rfl, r, wh, ev, tl, ws, ya, yb, bs, u, z, p, pi, rfl, ra, whB, hev, hne, cs, ?_⟩
      refine ⟨_, rfl, rfl, _, rfl, ?_⟩
      exact ite2 (fun _ => k H (Same.refl H)) (fun q => absurd (decide_eq_true rfl) q)
end
end K17

namespace K17
open L2 PySem PySem.Spec PyProof.Rows RZ
theorem sqT_keep {K : PySem.W.Frag} {x p C dx : Addr} {H H' : Hp} {xs : List V} {fs : List (Str × V)} (k : Keep x H H') (hx : H x = some (.ins C dx fs)) (h : SqT K H p xs) : SqT K H' p xs := by
  rcases h with (h | ⟨o, h⟩) | h
  · exact .inl (.inl (k _ _ (fun z => by rw [z, hx] at h; cases h) h))
  · exact .inl (.inr ⟨o, k _ _ (fun z => by rw [z, hx] at h; cases h) h⟩)
  · exact .inr h
theorem RoadAt.keep {x r C C2 dx : Addr} {H H' : Hp} {ws ya yb : List Str} {bs : List Bool} {fs : List (Str × V)} (h : RoadAt H C r ws ya yb bs) (nr : r ≠ x) (k : Keep x H H') (hx : H x = some (.ins C2 dx fs)) : RoadAt H' C r ws ya yb bs := by
  obtain ⟨dr, a, c, pw, kp, ts, e, e1, e2, e3, e4, e5⟩ := h.ex
  exact ⟨dr, a, c, pw, kp, ts, k _ _ nr e, e1.keep (e1.ne_ins hx) k, e2.keep (e2.ne_ins hx) k, e3.keep (e3.ne_ins hx) k, paired_mono (fun t y q => TupD.keep q (TupD.ne_ins q hx) k) e4, e5.keep (e5.ne_ins hx) k⟩
theorem paired_take {α β : Type} {R : α → β → Prop} : ∀ {xs : List α} {ys : List β} (n : Nat), Paired R xs ys → Paired R (xs.take n) (ys.take n)
  | _, _, 0, _ => .nil
  | _, _, n + 1, .nil => .nil
  | _, _, n + 1, .cons h k => .cons h (paired_take n k)
theorem paired_of_get {α β : Type} {R : α → β → Prop} : ∀ {xs : List α} {ys : List β}, xs.length = ys.length → (∀ (j : Nat) (x : α), xs[j]? = some x → ∃ y, ys[j]? = some y ∧ R x y) → Paired R xs ys
  | [], [], _, _ => .nil
  | x :: xs, y :: ys, h, g => by
    obtain ⟨y', e, r⟩ := g 0 x rfl
    cases e
    exact .cons r (paired_of_get (Nat.succ.inj h) fun j x hx => g (j + 1) x hx)
  | [], _ :: _, h, _ => nomatch h
  | _ :: _, [], h, _ => nomatch h
theorem mergeK_new : ∀ {more acc : List (Key × V)}, (more.map (·.1)).Nodup → (∀ k ∈ more.map (·.1), k ∉ acc.map (·.1)) → mergeK acc more = acc ++ more
  | [], acc, _, _ => (List.append_nil _).symm
  | (k, v) :: r, acc, nd, h => by
    have nk : k ∉ acc.map (·.1) := h k List.mem_cons_self
    have ep : putK acc k v = acc ++ [(k, v)] := by
      unfold putK
      rw [if_neg]
      rw [List.any_eq_true]
      rintro ⟨q, hq, e⟩
      exact nk (of_decide_eq_true e ▸ List.mem_map_of_mem hq)
    show mergeK (putK acc k v) r = _
    rw [ep, mergeK_new (more := r) (acc := acc ++ [(k, v)]) (List.nodup_cons.mp nd).2 (fun x hx q => ?_), List.append_assoc]
    · rfl
    · rw [List.map_append, List.mem_append] at q
      rcases q with q | q
      · exact h x (List.mem_cons_of_mem _ hx) q
      · have : x = k := by simpa using q
        rw [this] at hx
        exact (List.nodup_cons.mp nd).1 hx
theorem paired_app {α β : Type} {R : α → β → Prop} : ∀ {xs xs' : List α} {ys ys' : List β}, Paired R xs ys → Paired R xs' ys' → Paired R (xs ++ xs') (ys ++ ys')
  | _, _, _, _, .nil, q => q
  | _, _, _, _, .cons h k, q => .cons h (paired_app k q)
theorem gD {H : Hp} {a : Addr} {kvs : List (Key × V)} {k : Key} {v : V} (e : H a = some (.dK kvs)) (h : valV kvs k = some v) : DGet H a (kV k) (some v) := by
  rw [← h]
  exact DGet.k e
theorem u64 {k : Nat} {A : Around} (hr : Room k A) : A.units + 64 < cLine := by
  have := units65 hr
  omega
structure TxtE (K : PySem.W.Frag) (mg : Str → Option Value) : Prop extends TxtC K mg where
  dict : mg "dict" = none
  sorted : mg "sorted" = none
end K17

/-! sorted(set(a)), a a list of ints (fewer than 64) -/
namespace DN
open PySem PySem.Spec PyProof.Rows L2 PySem.Calls
section
variable {P : Program} {w : World} {A : Around} {E : Value → Shared → Prop} {s : Shared}
abbrev setO0 (w : World) : Obj := { cls := .type "set", dict := none, data := .set #[] 0 (.fresh 0 0 (!w.params.followText "set-order")) }
theorem set_of_ints {l : Addr} {items : Array Value} {ns : List Int} {Q : Value → Shared → Prop} (hh : A.handled = none) (hl : s.heap.IsList l items) (hi : IntsAre items.toList ns) (hb : ns.length + 1 < scanBound)
    (h : ∀ (h' : Heap) (tk c : Nat), SetR w h' s.heap.objs.size (fun j => decide (j ∈ ns)) c → c ≤ ns.length → (∀ b o, s.heap.get? b = some o → h'.get? b = some o) → Q (.ref s.heap.objs.size) { s with heap := h', toks := tk }) :
    wpAny (model P w) A (call (.type "set") [.ref l]) Q E s := by
  have sz : items.size = ns.length := by
    rw [← Array.length_toList]
    exact IntsAre.length hi
  obtain ⟨_, _, hmro⟩ := F.called_set.mro
  have hmade := F.called_set.made
  have hsub := F.called_set.sub
  refine wpAny_call (codeAny_of_tree ?_)
  show wpAny _ _ (callAny (.type "set") _) _ _ _
  refine wpAny_pure ⟨Code.quiet_builtin _ (by decide +kernel), codeAny_builtin F.entry_type_call ?_⟩
  rw [Around.under_plain (weight_type_call_type "set" [.ref l] []) rfl]
  have h1 := F.called_set.notType
  have h2 := F.called_set.canCreate
  have h3 := F.typeCall_set_1 (.ref l)
  repeat (any_goals (first | assumption | wp_step))
  refine codeAny_mono (code_set_led1 (.ref l) (E := E) (Q₁ := fun obj s₁ => obj = .ref s.heap.objs.size ∧ s₁ = { s with heap := s.heap.push (setO0 w) }) ⟨rfl, rfl⟩) fun r s₁ hr => ?_
  match r, hr with
  | .error e, hr => exact hr
  | .ok .next, hr => exact hr.elim
  | .ok .brk, hr => exact hr.elim
  | .ok .cont, hr => exact hr.elim
  | .ok (.ret obj), ⟨e1, e2⟩ =>
    subst e1 e2
    have hS : (s.heap.push (setO0 w)).get? s.heap.objs.size = some (setO0 w) := Heap.get?_push_size _ rfl
    have hT : Shared.TypeIs { s with heap := s.heap.push (setO0 w) } (.ref s.heap.objs.size) "set" := ⟨_, hS, rfl⟩
    have hli := F.called_set.init.lookup
    have hbi := F.called_set.init.bind (.ref s.heap.objs.size)
    repeat (any_goals (first | assumption | wp_step))
    refine codeAny_mono (codeAny_call_builtin (R := wants (fun r s₂ => r = .none ∧ ∃ h' tk c, s₂ = { s with heap := h', toks := tk } ∧ SetR w h' s.heap.objs.size (fun j => decide (j ∈ ns)) c ∧ c ≤ ns.length ∧
        (∀ b o, s.heap.get? b = some o → h'.get? b = some o)) E) F.called_set.init.plain F.entry_set_init (check_set_init_1 hT ?_)) fun r₂ s₂ hr₂ => ?_
    · obtain ⟨⟨oc, od, ot, os⟩, hol, hcl, nl, hdl⟩ := hl
      simp only at hcl hdl
      subst hcl hdl
      have at1 := Heap.get?_push_of_some (setO0 w) hol
      have k1 := F.sub_list_set
      have k2 := F.sub_list_frozenset
      have k3 : (Value.type "list" == Value.type "dict") = false := by decide
      have l1 : (s.heap.push (setO0 w)).IsList l items := ⟨_, at1, rfl, nl, rfl⟩
      have lS : l < s.heap.objs.size := Heap.lt_size hol
      unfold Builtin.«set.__init__» noKeywords Builtin.Frozenset.updateFrom
      generalize hPI : pyIter = PI
      wp_walk
      subst hPI
      refine wpAny_pyIter_list l1 (wpAny_bind (wpAny_runValue ?_))
      have hh3 : A.in1.in1.in1.handled = none := by simp [hh]
      have z1 : (s.heap.push (setO0 w)).objs.size = s.heap.objs.size + 1 := Heap.size_push ..
      have ne1 : l ≠ (s.heap.push (setO0 w)).objs.size := by rw [z1]; exact Nat.ne_of_lt (Nat.lt_succ_of_lt lS)
      have nin : s.heap.objs.size ∉ [(s.heap.push (setO0 w)).objs.size, l] := by
        rw [z1]
        simp only [List.mem_cons, List.not_mem_nil, or_false, not_or]
        exact ⟨Nat.ne_of_lt (Nat.lt_succ_self _), Nat.ne_of_gt lS⟩
      refine set_update_ints ((Walks.list hh3 _ l ne1 items).toS) s.heap.objs.size nin ns sz hb (fun i v hv => ?_) (items.size - 0) 0 _ (by omega) (Nat.zero_le _) ⟨⟨_, Heap.get?_push_size _ rfl, rfl, rfl⟩, l1.push _⟩ ⟨0, Nat.le_refl 0, setR_new_at (Heap.get?_push_of_some _ hS)⟩ fun s' c' hm hc' hS' => ?_
      · have il : i < ns.length := by rw [← sz]; exact (Array.getElem?_eq_some_iff.mp hv).1
        obtain ⟨t, e⟩ := IntsAre.int_at hi i v (by rw [Array.getElem?_toList]; exact hv)
        refine ⟨ns[i], t, List.getElem?_eq_getElem il, ?_⟩
        rw [e, List.getD_eq_getElem?_getD, List.getElem?_eq_getElem il] <;> rfl
      · obtain ⟨h', g2, d', tk', os'⟩ := s'
        obtain rfl : g2 = s.gens := hm.gens
        obtain rfl : d' = s.drawn := hm.drawn
        obtain rfl : os' = s.os := hm.os
        show wpAny _ _ _ _ _ _
        refine wpAny_pure ?_
        show wpAny _ _ (ret Value.none) _ _ _
        rw [sz] at hc'
        refine wpAny_pure ⟨rfl, h', tk', c', rfl, hS', hc', fun b o e => ?_⟩
        have b0 : b < s.heap.objs.size := Heap.lt_size e
        refine hm.heap b o ?_ (Heap.get?_push_of_some _ (Heap.get?_push_of_some _ e))
        rw [z1]
        simp only [List.mem_cons, List.not_mem_nil, or_false, not_or]
        exact ⟨Nat.ne_of_lt b0, Nat.ne_of_lt (Nat.lt_succ_of_lt b0)⟩
    · match r₂, hr₂ with
      | .error e, hr₂ => exact hr₂
      | .ok .next, hr₂ => exact hr₂.elim
      | .ok .brk, hr₂ => exact hr₂.elim
      | .ok .cont, hr₂ => exact hr₂.elim
      | .ok (.ret r), ⟨e3, h', tk, c', e4, hS', hc', hk'⟩ =>
        subst e3 e4
        repeat (any_goals (first | assumption | wp_step))
        exact h _ _ _ hS' hc' hk'
end
section
variable {X : Cx}
/-- set(a), as a set of ints -/
def rSetL (K : PySem.W.Frag) (w : World) : List V → Hp → VK → Prop := fun vs H Q => ∃ (l : Addr) (ns : List Int), vs = [.ref l] ∧ SqL K H l (ns.map V.int) ∧ ns.length ≤ 60 ∧
  ∀ p n, H p = none → n ≤ ns.length → Q (.ref p) (upd H p (SetO w p (fun j => decide (j ∈ ns)) n))
theorem cr_setL (hc : X.calm = true) : CallR X (.type "set") (rSetL X.K X.w) := by
  intro pins s σ H vs us Q I r h
  obtain ⟨l, ns, rfl, hq, hl, q⟩ := h
  obtain rfl := Vals.ref1 r
  obtain ⟨its, rv, pl, hz⟩ := I.list hq
  refine set_of_ints (ns := ns) (I.ok.hd hc) pl.isList (by simpa using ints_of_vals rv) (by unfold scanBound; omega) fun h' tk c R cn k => ?_
  exact ⟨.ref s.heap.objs.size, _, I.laid (a := s.heap.objs.size) (t' := tk) k (Nat.le_refl _) (setO_new R), rfl, q _ c (I.hok.fresh (Nat.le_refl _)) cn⟩
end
end DN

/-! sorted of tuples that are alike data (nested, any length); x in t, x not in t, data in a tuple of data -/
namespace DN
open PySem PySem.Spec PyProof.Rows L2
section
variable {X : Cx}
def rSortedD (K : PySem.W.Frag) {β : Type} (enc : β → PyData) : List V → Hp → VK → Prop := fun vs H Q => ∃ (a : Addr) (xs : List V) (bs : List β), vs = [.ref a] ∧ SqL K H a xs ∧ Paired (fun x b => Dp K H x (enc b)) xs bs ∧
  ∀ ys p, Paired (fun y b => y ∈ xs ∧ Dp K H y (enc b)) ys (bs.mergeSort (PySem.W.dataLe false enc)) → H p = none → Q (.ref p) (upd H p (.lst ys))
theorem cr_sortedD {β : Type} {enc : β → PyData} (hu : X.A.units + 64 < cLine) (ht : ∀ b, ∃ x r, enc b = .tuple (x :: r)) (hal : ∀ b b', PySem.W.alike (enc b) (enc b') = true) (hd : ∀ b, (enc b).depth ≤ 60) : CallR X (.builtin "sorted") (rSortedD X.K enc) := by
  intro pins s σ H vs us Q I r h
  obtain ⟨a, xs, bs, rfl, hs, pr, q⟩ := h
  obtain ⟨its, rv, hl, hz⟩ := I.list hs
  obtain rfl := Vals.ref1 r
  have each : ∀ {zs : List V} {us : List Value} {cs : List β}, (∀ z ∈ zs, z ∈ xs) → Vals zs us → Paired (fun x b => Dp X.K H x (enc b)) zs cs →
      PySem.W.EachIs (fun v b => ∃ x, x ∈ xs ∧ RelV x v ∧ Dp X.K H x (enc b)) us cs ∧ PySem.W.EachIs (fun v b => ∃ as, Reads s.heap v (enc b) as) us cs := by
    intro zs us cs hm rz pz
    induction pz generalizing us with
    | nil =>
      cases rz
      exact ⟨.nil, .nil⟩
    | @cons z c zs cs h t ih =>
      cases rz with
      | cons r1 r2 =>
        obtain ⟨e1, e2⟩ := ih (fun y hy => hm y (List.mem_cons_of_mem _ hy)) r2
        exact ⟨.cons ⟨z, hm z List.mem_cons_self, r1, h⟩ e1, .cons (Dp.reads I _ _ _ h r1) e2⟩
  obtain ⟨e1, e2⟩ := each (fun z hz => hz) rv pr
  have hbl : bs.length ≤ sizeLine := by rw [← Paired.length pr]; exact hz
  refine PySem.W.sorted_data hl.isList e1 e2 (PySem.W.AllAlike.of hal) (PySem.W.Sortable.tuples ht) hbl (fun b _ => ?_) fun out hlen eo => ?_
  · have := hd b
    omega
  · have back : ∀ {us : List Value} {cs : List β}, PySem.W.EachIs (fun v b => ∃ x, x ∈ xs ∧ RelV x v ∧ Dp X.K H x (enc b)) us cs → ∃ ys, Vals ys us ∧ Paired (fun y b => y ∈ xs ∧ Dp X.K H y (enc b)) ys cs := by
      intro us cs e
      induction e with
      | nil => exact ⟨[], .nil, .nil⟩
      | cons h t ih =>
        obtain ⟨x, m, rx, dx⟩ := h
        obtain ⟨ys, r1, p1⟩ := ih
        exact ⟨x :: ys, .cons rx r1, .cons ⟨m, dx⟩ p1⟩
    obtain ⟨ys, ry, py⟩ := back eo
    obtain ⟨n, hn⟩ := sortedAll_at s.heap its (List.toArray out)
    have hys : ys.length ≤ sizeLine := by rw [ry.length, hlen]; exact hbl
    exact ⟨.ref (s.heap.objs.size + 1), _, I.laid (a := s.heap.objs.size + 1) (o := .lst ys) (t' := s.toks) (fun b o e => sortedAll_old e) (Nat.le_succ _) ⟨hys, out, n, ry, hn⟩, rfl, q ys _ py (I.hok.fresh (Nat.le_succ _))⟩
/-- x in t: x, and t's items, data -/
def rInD (K : PySem.W.Frag) (neg : Bool) : R2 := fun x y H Q => ∃ (p : Addr) (xs : List V) (d : PyData) (ds : List PyData), y = .ref p ∧ SqT K H p xs ∧ DpAll K H xs ds ∧ Dp K H x d ∧ SeqAt.shaped d = true ∧ (∀ e ∈ ds, SeqAt.shaped e = true) ∧
  Q (.bl (if neg then !ds.any (fun e => PyData.eqv e d) else ds.any (fun e => PyData.eqv e d))) H
/-- does y read as data that is == d -/
noncomputable def eqTo (h : Heap) (d : PyData) (y : Value) : Bool := @decide (∃ c as, Reads h y c as ∧ c.canLay0 = true ∧ PyData.eqv c d = true) (Classical.propDecidable _)
theorem eqTo_at {h : Heap} {y : Value} {c d : PyData} {as : List Addr} (r : Reads h y c as) (sc : SeqAt.shaped c = true) : eqTo h d y = PyData.eqv c d := by
  unfold eqTo
  by_cases q : PyData.eqv c d = true
  · rw [q]
    exact @decide_eq_true _ (Classical.propDecidable _) ⟨c, as, r, SeqAt.canLay_of_shaped sc, q⟩
  · have q' : PyData.eqv c d = false := by simpa using q
    rw [q']
    refine @decide_eq_false _ (Classical.propDecidable _) ?_
    rintro ⟨c', as', r', _, q2⟩
    rw [← SeqAt.Reads.unique _ _ _ _ _ (SeqAt.canLay_of_shaped sc) r r'] at q2
    exact q q2
theorem in_data {pins : List (Addr × Obj)} {σ : L2.St} {H : Hp} {s : Shared} {u : Value} {d : PyData} {bs : List Addr} (hu : X.A.units + 65 < cLine) (I : Inv X pins σ H s) (rd : Reads s.heap u d bs) (sd : SeqAt.shaped d = true) :
    ∀ (ds : List PyData) (xs : List V) (its : List Value), Vals xs its → DpAll X.K H xs ds → (∀ c ∈ ds, SeqAt.shaped c = true) → (∀ y ∈ its, SeqAt.EqAt X.A.in1 s y u (eqTo s.heap d y)) ∧ its.any (eqTo s.heap d) = ds.any (fun c => PyData.eqv c d)
  | [], _, _, rv, hd, _ => by
    cases hd
    cases rv
    exact ⟨fun _ h => (nomatch h), rfl⟩
  | c :: ds, _, _, rv, hd, hs => by
    cases hd with
    | cons h t =>
      cases rv with
      | cons r1 r2 =>
        obtain ⟨i1, i2⟩ := in_data hu I rd sd ds _ _ r2 t (fun c hc => hs c (List.mem_cons_of_mem _ hc))
        obtain ⟨as, ra⟩ := Dp.reads I _ _ _ h r1
        have sc := hs c List.mem_cons_self
        have val := eqTo_at (d := d) ra sc
        refine ⟨fun y hy => ?_, ?_⟩
        · rcases List.mem_cons.mp hy with rfl | hy
          · rw [val]
            exact SeqAt.eqAt_reads _ _ _ _ _ _ _ _ ra rd (SeqAt.canLay_of_shaped sc) (SeqAt.canLay_of_shaped sd) (SeqAt.room_of_shaped sc (by show X.A.units + 1 + 64 < cLine; omega))
          · exact i1 y hy
        · rw [List.any_cons, List.any_cons, i2, val]
theorem op_inD (hu : X.A.units + 65 < cLine) : OpR X (compareOp .In) (rInD X.K false) := by
  intro pins s σ H x y v u Q I rx ry h
  obtain ⟨p, xs, d, ds, rfl, hq, hd, hx, sd, hs, q⟩ := h
  cases ry
  obtain ⟨its, r, pl, hz⟩ := I.tuple hq
  obtain ⟨bs, rd⟩ := Dp.reads I _ _ _ hx rx
  obtain ⟨h1, h2⟩ := in_data hu I rd sd _ _ _ r hd hs
  refine SeqAt.in_tupleAt (eqTo s.heap d) pl (fun w hw => h1 w (by simpa using hw)) ⟨.bl _, H, I, rfl, ?_⟩
  rw [show its.toArray.any (eqTo s.heap d) = its.any (eqTo s.heap d) by simp, h2]
  exact q
theorem op_notInD (hu : X.A.units + 65 < cLine) : OpR X (compareOp .NotIn) (rInD X.K true) := by
  intro pins s σ H x y v u Q I rx ry h
  obtain ⟨p, xs, d, ds, rfl, hq, hd, hx, sd, hs, q⟩ := h
  cases ry
  obtain ⟨its, r, pl, hz⟩ := I.tuple hq
  obtain ⟨bs, rd⟩ := Dp.reads I _ _ _ hx rx
  obtain ⟨h1, h2⟩ := in_data hu I rd sd _ _ _ r hd hs
  refine SeqAt.notIn_tupleAt (eqTo s.heap d) pl (fun w hw => h1 w (by simpa using hw)) ⟨.bl _, H, I, rfl, ?_⟩
  rw [show its.toArray.any (eqTo s.heap d) = its.any (eqTo s.heap d) by simp, h2]
  exact q
end
end DN

/-! dicts whose keys are nested tuples, told in the abstract heap: `dN` at d; the keys' own tuples are told apart (NKeys) -/
namespace DN
open PySem PySem.Spec PyProof.Rows L2

mutual
/-- v is the key k -/
inductive KAt (K : PySem.W.Frag) (H : Hp) : NestedKey → V → Prop
  | num (i : Int) : KAt K H (.num i) (.int i)
  | none : KAt K H .none .non
  | text (x : Str) : KAt K H (.text x) (.str x)
  | tup {ks : List NestedKey} {a : Addr} {xs : List V} : SqT K H a xs → KAll K H ks xs → KAt K H (.tup ks) (.ref a)
inductive KAll (K : PySem.W.Frag) (H : Hp) : List NestedKey → List V → Prop
  | nil : KAll K H [] []
  | cons {k : NestedKey} {v : V} {ks : List NestedKey} {vs : List V} : KAt K H k v → KAll K H ks vs → KAll K H (k :: ks) (v :: vs)
end
section
variable {X : Cx} {pins : List (Addr × Obj)} {σ : L2.St} {H : Hp} {s : Shared}
mutual
theorem KAt.is (I : Inv X pins σ H s) : ∀ (k : NestedKey) (v : V) (u : Value), KAt X.K H k v → RelV v u → NestedIs s.heap k u
  | .num i, _, _, .num _, r => by
    obtain ⟨t, rfl⟩ := r
    exact .int i t
  | .none, _, _, .none, r => by
    cases r
    exact .none
  | .text x, _, _, .text _, r => by
    obtain ⟨t, rfl⟩ := r
    exact .text x t
  | .tup ks, _, _, .tup hq hk, r => by
    cases r
    obtain ⟨its, rv, ⟨o, ho, hc, n, hd⟩, hz⟩ := I.tuple hq
    refine .tup ho hc hd ?_
    rw [List.toList_toArray]
    exact KAll.is I ks _ _ hk rv
theorem KAll.is (I : Inv X pins σ H s) : ∀ (ks : List NestedKey) (vs : List V) (us : List Value), KAll X.K H ks vs → Vals vs us → NestedAll s.heap ks us
  | [], _, _, .nil, r => by
    cases r
    exact .nil
  | k :: ks, _, _, .cons h t, r => by
    cases r with
    | cons r1 r2 => exact .cons (KAt.is I k _ _ h r1) (KAll.is I ks _ _ t r2)
end
end
mutual
theorem KAt.mono {K : PySem.W.Frag} {H H' : Hp} (hk : ∀ a xs, SqT K H a xs → SqT K H' a xs) : ∀ (k : NestedKey) (v : V), KAt K H k v → KAt K H' k v
  | .num i, _, .num _ => .num i
  | .none, _, .none => .none
  | .text x, _, .text _ => .text x
  | .tup ks, _, .tup hq h => .tup (hk _ _ hq) (KAll.mono hk ks _ h)
theorem KAll.mono {K : PySem.W.Frag} {H H' : Hp} (hk : ∀ a xs, SqT K H a xs → SqT K H' a xs) : ∀ (ks : List NestedKey) (vs : List V), KAll K H ks vs → KAll K H' ks vs
  | [], _, .nil => .nil
  | k :: ks, _, .cons h t => .cons (KAt.mono hk k _ h) (KAll.mono hk ks _ t)
end

abbrev NEnt := NestedKey × Addr × V
def NRel : List NEnt → List (NestedKey × Addr × Value) → Prop := Paired fun p q => p.1 = q.1 ∧ p.2.1 = q.2.1 ∧ RelV p.2.2 q.2.2
/-- at d: a dict of the entries xs -/
def dN (P : Program) (w : World) (d : Addr) (xs : List NEnt) : HO := .ext fun h => xs.length ≤ sizeLine ∧ (d == sysModules) = false ∧ ∃ ys, NRel xs ys ∧
  ∃ o es ep, h.get? d = some o ∧ o.ExactDict ∧ o.data = .dict es ep ∧ es.toList = ys.map (entryOfKey (nestedKind P w)) ∧ (ys.map (·.1)).Nodup
/-- each key of xs stands -/
def NKeys (K : PySem.W.Frag) (H : Hp) (xs : List NEnt) : Prop := ∀ x ∈ xs, KAt K H x.1 (.ref x.2.1) ∧ x.1.depth ≤ 8
theorem NKeys.mono {K : PySem.W.Frag} {H H' : Hp} {xs : List NEnt} (h : NKeys K H xs) (hk : ∀ a ys, SqT K H a ys → SqT K H' a ys) : NKeys K H' xs := fun x hx => ⟨KAt.mono hk _ _ (h x hx).1, (h x hx).2⟩
theorem NKeys.nil {K : PySem.W.Frag} {H : Hp} : NKeys K H [] := fun _ hx => nomatch hx
def valN (xs : List NEnt) (k : NestedKey) : Option V := (xs.find? fun x => decide (x.1 = k)).map (·.2.2)
def putN (xs : List NEnt) (k : NestedKey) (a : Addr) (v : V) : List NEnt := if (valN xs k).isSome then xs.map (fun x => if x.1 = k then (x.1, x.2.1, v) else x) else xs ++ [(k, a, v)]
theorem NRel.val {xs : List NEnt} {ys : List (NestedKey × Addr × Value)} (r : NRel xs ys) (k : NestedKey) : RelO (valN xs k) ((atKey ys k).map (·.2)) := by
  unfold NRel at r
  induction r with
  | nil => exact True.intro
  | @cons p q ps qs h t ih =>
    obtain ⟨e1, e2, rv⟩ := h
    by_cases hk : p.1 = k
    · have hq : q.1 = k := e1 ▸ hk
      simp only [valN, atKey, List.find?_cons, hk, hq, decide_true]
      exact rv
    · have hq : ¬ q.1 = k := e1 ▸ hk
      simp only [valN, atKey, List.find?_cons, hk, hq, decide_false]
      exact ih
theorem NRel.length {xs : List NEnt} {ys : List (NestedKey × Addr × Value)} (r : NRel xs ys) : xs.length = ys.length := Paired.length r
theorem paired_app {α β : Type} {R : α → β → Prop} : ∀ {xs : List α} {ys : List β} {xs' : List α} {ys' : List β}, Paired R xs ys → Paired R xs' ys' → Paired R (xs ++ xs') (ys ++ ys')
  | _, _, _, _, .nil, q => q
  | _, _, _, _, .cons h t, q => .cons h (paired_app t q)
theorem relO_isSome {a : Option V} {b : Option Value} (r : RelO a b) : a.isSome = b.isSome := by
  cases a <;> cases b
  · rfl
  · exact (show False from r).elim
  · exact (show False from r).elim
  · rfl
theorem NRel.put {xs : List NEnt} {ys : List (NestedKey × Addr × Value)} (r : NRel xs ys) (k : NestedKey) (a : Addr) {v : V} {u : Value} (rv : RelV v u) : NRel (putN xs k a v) (storedH ys k a u) := by
  have e := relO_isSome (r.val k)
  rw [Option.isSome_map] at e
  unfold putN storedH
  rw [e]
  split
  · rename_i hc
    clear hc e
    unfold NRel at r ⊢
    induction r with
    | nil => exact .nil
    | @cons p q ps qs h t ih =>
      rw [List.map_cons, List.map_cons]
      refine .cons ?_ ?_
      · obtain ⟨e1, e2, rw'⟩ := h
        by_cases hk : p.1 = k
        · have hq : q.1 = k := e1 ▸ hk
          rw [if_pos hk, putAt, if_pos hq]
          exact ⟨e1, e2, rv⟩
        · have hq : ¬ q.1 = k := e1 ▸ hk
          rw [if_neg hk, putAt, if_neg hq]
          exact ⟨e1, e2, rw'⟩
      · exact ih
  · exact paired_app r (.cons ⟨rfl, rfl, rv⟩ .nil)
theorem rel_get {xs : List NEnt} {ys : List (NestedKey × Addr × Value)} (r : NRel xs ys) : ∀ {j : Nat} {p : NEnt}, xs[j]? = some p → ∃ q, ys[j]? = some q ∧ p.1 = q.1 ∧ p.2.1 = q.2.1 ∧ RelV p.2.2 q.2.2 := by
  unfold NRel at r
  induction r with
  | nil => intro j p h; exact nomatch h
  | @cons a b as bs h t ih =>
    intro j p hj
    cases j with
    | zero =>
      cases hj
      exact ⟨b, rfl, h⟩
    | succ j => exact ih hj
theorem putN_len (xs : List NEnt) (k : NestedKey) (a : Addr) (v : V) : (putN xs k a v).length ≤ xs.length + 1 := by
  unfold putN
  split
  · rw [List.length_map]
    omega
  · rw [List.length_append]
    exact Nat.le_refl _
theorem putN_new {xs : List NEnt} {k : NestedKey} {a : Addr} {v : V} (h : valN xs k = none) : putN xs k a v = xs ++ [(k, a, v)] := by
  unfold putN
  rw [h]
  rfl
theorem valN_none {xs : List NEnt} {k : NestedKey} : valN xs k = none ↔ k ∉ xs.map (·.1) := by
  unfold valN
  rw [Option.map_eq_none_iff, List.find?_eq_none]
  constructor
  · intro h hk
    obtain ⟨x, hx, e⟩ := List.mem_map.mp hk
    exact h x hx (by rw [decide_eq_true_eq]; exact e)
  · intro h x hx e
    rw [decide_eq_true_eq] at e
    exact h (List.mem_map.mpr ⟨x, hx, e⟩)
theorem NKeys.put {K : PySem.W.Frag} {H : Hp} {xs : List NEnt} {k : NestedKey} {a : Addr} {v : V} (h : NKeys K H xs) (hk : KAt K H k (.ref a)) (hd : k.depth ≤ 8) : NKeys K H (putN xs k a v) := by
  unfold putN
  split
  · intro x hx
    obtain ⟨y, hy, e⟩ := List.mem_map.mp hx
    by_cases c : y.1 = k
    · rw [if_pos c] at e
      subst e
      exact h y hy
    · rw [if_neg c] at e
      subst e
      exact h y hy
  · intro x hx
    rcases List.mem_append.mp hx with q | q
    · exact h x q
    · rw [List.mem_singleton.mp q]
      exact ⟨hk, hd⟩
section
variable {X : Cx} {pins : List (Addr × Obj)} {σ : L2.St} {H : Hp} {s : Shared}
theorem dn_of {d : Addr} {xs : List NEnt} (I : Inv X pins σ H s) (e : H d = some (dN X.prog X.w d xs)) (ks : NKeys X.K H xs) :
    xs.length ≤ sizeLine ∧ (d == sysModules) = false ∧ ∃ ys, NRel xs ys ∧ s.heap.DictOfH (nestedKind X.prog X.w) d ys := by
  obtain ⟨⟨hz, hd, ys, r, o, es, ep, h1, h2, h3, h4, h5⟩, _, _⟩ := (show ObjOk X.prog X.w H s.heap d (dN X.prog X.w d xs) from I.hok d _ e)
  refine ⟨hz, hd, ys, r, o, es, ep, h1, h2, h3, h4, fun y hy => ?_, h5⟩
  have all : ∀ {xs : List NEnt} {ys : List (NestedKey × Addr × Value)}, NRel xs ys → NKeys X.K H xs → ∀ y ∈ ys, (nestedKind X.prog X.w).is s.heap y.1 y.2.1 := by
    intro xs ys r
    unfold NRel at r
    induction r with
    | nil => intro _ y hy; exact nomatch hy
    | @cons p q ps qs h t ih =>
      intro ks y hy
      rcases List.mem_cons.mp hy with e | hy
      · subst e
        obtain ⟨e1, e2, _⟩ := h
        have z := ks p List.mem_cons_self
        rw [e1, e2] at z
        exact ⟨KAt.is I _ _ _ z.1 rfl, z.2⟩
      · exact ih (fun x hx => ks x (List.mem_cons_of_mem _ hx)) y hy
  exact all r ks y hy
theorem dn_ok {P : Program} {w : World} {H' : Hp} {h' : Heap} {d : Addr} {xs : List NEnt} {ys : List (NestedKey × Addr × Value)} (z : xs.length ≤ sizeLine) (hd : (d == sysModules) = false) (rel : NRel xs ys) (dd : h'.DictOfH (nestedKind P w) d ys) :
    ObjOk P w H' h' d (dN P w d xs) := by
  obtain ⟨o, es, ep, h1, h2, h3, h4, _, h5⟩ := dd
  refine ⟨⟨z, hd, ys, rel, o, es, ep, h1, h2, h3, h4, h5⟩, ⟨o, h1⟩, fun ha hb q k => ?_⟩
  obtain ⟨z, hd, ys, rel, o, es, ep, h1, r⟩ := q
  exact ⟨z, hd, ys, rel, o, es, ep, k _ h1, r⟩
/-- d[k], there -/
def rIxN (X : Cx) : R2 := fun x y H Q => ∃ d b xs k v, x = .ref d ∧ y = .ref b ∧ H d = some (dN X.prog X.w d xs) ∧ NKeys X.K H xs ∧ KAt X.K H k (.ref b) ∧ k.depth ≤ 8 ∧ valN xs k = some v ∧ Q v H
theorem ix_dN (hu : X.A.units + 9 < cLine) : OpR X getItem (rIxN X) := by
  intro pins s σ H x y v u Q I rx ry h
  obtain ⟨d, b, xs, k, v0, rfl, rfl, hd, ks, hk, hdep, hv, q⟩ := h
  cases rx
  cases ry
  obtain ⟨hz, hs, ys, rel, dd⟩ := dn_of I hd ks
  have r := rel.val k
  rw [hv] at r
  obtain ⟨p, hp, hp2⟩ : ∃ p, atKey ys k = some p ∧ RelV v0 p.2 := by
    cases hy : atKey ys k with
    | none =>
      rw [hy] at r
      exact (show False from r).elim
    | some p =>
      rw [hy] at r
      exact ⟨p, rfl, r⟩
  refine wpAny_getItem_heap (knd := nestedKind X.prog X.w) (by show X.A.units + 1 + 8 < cLine; omega) ⟨KAt.is I _ _ _ hk rfl, hdep⟩ dd hp ?_
  exact ⟨v0, H, I.tok _, hp2, q⟩
theorem pe_getN {o i : Expr} {td ty : TE} {pos : Pos} (hu : X.A.units + 9 < cLine) (ho : PE X o td) (hi : PE X i ty) (hs : NoSl i) : PE X (.Subscript o i pos) (tOp (rIxN X) td ty) := by
  refine ⟨fun pins s σ H Q I h => ?_⟩
  refine subD_of PySem.F.slot_dict_getitem.lookup hs (thn (ho.run pins s σ H _ I h) fun u s1 ⟨x, H1, I1, rx, q1⟩ => thn (hi.run pins s1 σ H1 _ I1 q1) fun iv s2 ⟨y, H2, I2, ry, q2⟩ => ?_)
  have z := q2
  obtain ⟨d, b, xs, k, v0, rfl, rfl, hd, ks, hk, hdep, hv, q⟩ := q2
  obtain ⟨hz, hs', ys, rel, dd⟩ := dn_of I2 hd ks
  have e : u = Value.ref d := by cases rx; rfl
  refine ⟨?_, ix_dN hu pins s2 σ H2 _ _ u iv Q I2 rx ry z⟩
  rw [e]
  exact dd.typeIs
/-- k not in d -/
def rNotInN (X : Cx) : R2 := fun x y H Q => ∃ d b xs k, y = .ref d ∧ x = .ref b ∧ H d = some (dN X.prog X.w d xs) ∧ NKeys X.K H xs ∧ KAt X.K H k (.ref b) ∧ k.depth ≤ 8 ∧ Q (.bl (!(valN xs k).isSome)) H
theorem op_notInN (hu : X.A.units + 9 < cLine) : OpR X (compareOp .NotIn) (rNotInN X) := by
  intro pins s σ H x y v u Q I rx ry h
  obtain ⟨d, b, xs, k, rfl, rfl, hd, ks, hk, hdep, q⟩ := h
  cases rx
  cases ry
  obtain ⟨hz, hs, ys, rel, dd⟩ := dn_of I hd ks
  refine wpAny_notIn_heap (knd := nestedKind X.prog X.w) (by show X.A.units + 1 + 8 < cLine; omega) ⟨KAt.is I _ _ _ hk rfl, hdep⟩ hs dd ?_
  have e := relO_isSome (rel.val k)
  rw [Option.isSome_map] at e
  exact ⟨.bl (!(valN xs k).isSome), H, I.tok _, by rw [e]; exact rfl, q⟩
/-- d[k] = v -/
def rSetN (X : Cx) : TSet := fun x y v H Q => ∃ d b xs k, x = .ref d ∧ y = .ref b ∧ H d = some (dN X.prog X.w d xs) ∧ NKeys X.K H xs ∧ KAt X.K H k (.ref b) ∧ k.depth ≤ 8 ∧ xs.length < sizeLine ∧ Q (upd H d (dN X.prog X.w d (putN xs k b v)))
theorem set_dN (hu : X.A.units + 9 < cLine) : PSet X (rSetN X) := by
  intro pins s σ H o i v ov iv u Q I ro ri rv h
  obtain ⟨d, b, xs, k, rfl, rfl, hd, ks, hk, hdep, hl, q⟩ := h
  cases ro
  cases ri
  obtain ⟨hz, hs, ys, rel, dd⟩ := dn_of I hd ks
  have hzy : ys.length ≤ sizeLine := by rw [← rel.length]; exact hz
  refine wpAny_setItem_heap (knd := nestedKind X.prog X.w) (hsz := hzy) (by show X.A.units + 1 + 8 < cLine; omega) ⟨KAt.is I _ _ _ hk rfl, hdep⟩ dd fun h' dd' sb => ?_
  have he : ∃ q, h'.get? d = some q := let ⟨q, _, _, hq, _⟩ := dd'; ⟨q, hq⟩
  exact ⟨_, d_write I (by rw [hd]; exact True.intro) sb he (dn_ok (Nat.le_trans (putN_len xs k b v) hl) hs (rel.put k b rv) dd'), q⟩
/-- a comprehension's own store -/
theorem dn_put {E : Value → Shared → Prop} {D b : Addr} {xs : List NEnt} {k : NestedKey} {v : V} {u r : Value} {Q : Unit → Shared → Prop} (hu : X.A.units + 8 < cLine) (I : Inv X pins σ H s) (hD : H D = some (dN X.prog X.w D xs)) (ks : NKeys X.K H xs) (hk : KAt X.K H k (.ref b)) (hdep : k.depth ≤ 8) (hl : xs.length < sizeLine)
    (ry : RelV (.ref b) u) (rv : RelV v r) (h : ∀ s', Inv X pins σ (upd H D (dN X.prog X.w D (putN xs k b v))) s' → Q () s') : wpAny (model X.prog X.w) X.A (dictSet D u r) Q E s := by
  cases ry
  obtain ⟨hz, hs, ys, rel, dd⟩ := dn_of I hD ks
  have hzy : ys.length ≤ sizeLine := by rw [← rel.length]; exact hz
  refine wpAny_dictSet_heap (knd := nestedKind X.prog X.w) (hsz := hzy) (by exact hu) ⟨KAt.is I _ _ _ hk rfl, hdep⟩ dd fun h' dd' sb => h _ ?_
  have he : ∃ q, h'.get? D = some q := let ⟨q, _, _, hq, _⟩ := dd'; ⟨q, hq⟩
  exact d_write I (by rw [hD]; exact True.intro) sb he (dn_ok (Nat.le_trans (putN_len xs k b v) hl) hs (rel.put k b rv) dd')
/-- list(d) -/
def rListN (X : Cx) : List V → Hp → VK → Prop := fun vs H Q => ∃ d xs, vs = [.ref d] ∧ H d = some (dN X.prog X.w d xs) ∧ NKeys X.K H xs ∧ ∀ p, H p = none → Q (.ref p) (upd H p (.lst (xs.map fun x => .ref x.2.1)))
theorem call_listN (hc : X.calm = true) : CallR X (.type "list") (rListN X) := by
  intro pins s σ H vs us Q I r h
  obtain ⟨d, xs, rfl, hd, ks, q⟩ := h
  obtain rfl := Vals.ref1 r
  obtain ⟨hz, hs, ys, rel, dd⟩ := dn_of I hd ks
  obtain ⟨o, es, ep, h1, h2, h3, h4, _, h5⟩ := dd
  have hn : es.size = ys.length := size_of_entries h4
  refine PySem.W.kdl_call (KdlSrc.rawDict (es := es) (ep := ep) hs) (I.ok.hd hc) ⟨o, h1, h2, h3⟩ (by rw [hn, ← rel.length]; exact hz) fun h' tk acc' c' hk hS items => ?_
  have hn1 := I.hok.fresh (Nat.le_refl s.heap.objs.size)
  refine ⟨.ref s.heap.objs.size, _, I.laid (a := s.heap.objs.size) (o := .lst (xs.map fun x => .ref x.2.1)) (t' := tk) hk (Nat.le_refl _) ⟨by rw [List.length_map]; exact hz, acc'.toList, c', ?_, by rw [Array.toArray_toList]; exact hS⟩, rfl, q _ hn1⟩
  obtain ⟨sz, it⟩ := items
  have el : acc'.toList.length = acc'.size := by simp
  refine vals_of_at (by rw [List.length_map, el, sz, hn]; exact rel.length) fun j x w' g1 g2 => ?_
  obtain ⟨hi, e⟩ := it j w' (by rw [← Array.getElem?_toList]; exact g2)
  rw [List.getElem?_map] at g1
  obtain ⟨en, g3, rfl⟩ := Option.map_eq_some_iff.mp g1
  obtain ⟨y, g4, r1, r2, _⟩ := rel_get rel g3
  have g5 := entry_at h4 j
  rw [g4, Array.getElem?_eq_getElem hi] at g5
  rw [e, Option.some.inj g5, r2]
  rfl
end
end DN

/-! {key: value for target in iter}: the keys nested tuples -/
namespace DN
open PySem PySem.Spec PyProof.Rows L2
/-- the store of a comprehension: y the key, z the value -/
def PutN (P : Program) (w : World) (K : PySem.W.Frag) (D : Addr) (y z : V) (H H' : Hp) : Prop := ∃ b xs k, y = .ref b ∧ H D = some (dN P w D xs) ∧ NKeys K H xs ∧ KAt K H k (.ref b) ∧ k.depth ≤ 8 ∧ xs.length < sizeLine ∧ H' = upd H D (dN P w D (putN xs k b z))
theorem dn_new {P : Program} {w : World} {H : Hp} (h : Heap) (hb : sysModules < h.objs.size) : ObjOk P w H (h.push { cls := .type "dict", data := .dict #[] }) h.objs.size (dN P w h.objs.size []) :=
  dn_ok (ys := []) (Nat.zero_le _) (beq_eq_false_iff_ne.mpr (Nat.ne_of_gt hb)) .nil (Heap.DictOfH.new h)
/-- one turn's block, t: what comes of the key and the value -/
def blkN (P : Program) (w : World) (K : PySem.W.Frag) (g : TG) (tt : TT) (tk tv : TE) (vs : List Nat) (σ : L2.St) (D : Addr) (Nx : Hp → Prop) (x : V) (H' : Hp) : Prop :=
  g x (wipe σ vs) H' fun σ2 H2 => wipe σ2 vs = wipe σ vs ∧ tt σ2 H2 fun b H3 => if b = true then tk σ2 H3 fun y H4 => tv σ2 H4 fun z H5 => ∃ H6, PutN P w K D y z H5 H6 ∧ Nx H6 else Nx H3
def tDcN (P : Program) (w : World) (K : PySem.W.Frag) (wi : TI) (g : TG) (tt : TT) (tk tv : TE) (vs : List Nat) : TE := fun σ H Q => wi σ H fun J H1 => ∀ D, H1 D = none → ∃ W : Nat → Nat → Hp → Prop, (∃ m, W 0 m (upd H1 D (dN P w D []))) ∧
  ∀ i m H, W i m H → (J.stop i H ∧ Q (.ref D) H) ∨ (J.go i H ∧ ∃ Nx : Hp → Prop, (∀ H', Nx H' → ∃ m', m' < m ∧ W (i + 1) m' H') ∧ ∀ x H', J.yld i H x H' → blkN P w K g tt tk tv vs σ D Nx x H')
section
variable {X : Cx}
theorem dcn_core {pins : List (Addr × Obj)} {s : Shared} {σ : L2.St} {H : Hp} {Q : VK} {kx vx tg iter : Expr} {ifs : List Expr} {scope : Scope} {own : List (Str × Nat)} {pos pos' : Pos} {wi : TI} {g : TG} {tt : TT} {tk tv : TE} {use : Option (Value → Sem Unit)} {Qf : Value → Shared → Prop} (hc : X.calm = true) (hu : X.A.units + 8 < cLine) (hN : X.N.Nodup) (I : Inv X pins σ H s) (hi : PI X tg iter wi) (ok : BlkOk X.N X.env.scope scope own)
    (hg : ∀ (s : Shared) (H : Hp) (C : Addr) (cl : List (Str × Addr)) (fp : List Addr), PG (X.blk s H scope (compEnvC scope cl C X.env) fp) tg g) (ht : ∀ (s : Shared) (H : Hp) (C : Addr) (cl : List (Str × Addr)) (fp : List Addr), PTs (X.blk s H scope (compEnvC scope cl C X.env) fp) ifs tt)
    (hk : ∀ (s : Shared) (H : Hp) (C : Addr) (cl : List (Str × Addr)) (fp : List Addr), PE (X.blk s H scope (compEnvC scope cl C X.env) fp) kx tk)
    (he : ∀ (s : Shared) (H : Hp) (C : Addr) (cl : List (Str × Addr)) (fp : List Addr), PE (X.blk s H scope (compEnvC scope cl C X.env) fp) vx tv) (hs : ∀ x, foldedSetIterable iter X.env x = pure x)
    (h : tDcN X.prog X.w X.K wi g tt tk tv (own.map (·.2)) σ H Q)
    (hRR : ∀ D C s' m H', Inv X pins σ H' s' → Q (.ref D) H' → s'.heap.Ns C m → FpOk X pins H' C → compPost (model X.prog X.w) X.A X.xe use Qf (.ref D) C (.ok .next) s') :
    wpAny (model X.prog X.w) X.A (comprehension (.DictComp kx vx [⟨tg, iter, ifs, 0⟩] scope pos) scope X.env pos' newDict false (eval iter X.env) use) Qf X.xe s := by
  have clo : ∀ y ∈ scope.names, y.2 = .free → ∃ c, X.env.cells.lookup y.1 = some c := fun y hy e => (ok.free y hy e).elim (fun k => I.ok.has _ (.inl k)) fun k => I.ok.has _ (.inr k)
  refine wpAny_comprehension_free (use := use) rfl hs (closure_ok clo) ok.kind (fun y hy e => by rw [ok.uniq y hy, e]) (thn (hi.run pins s σ H _ I h) fun xv s1 hx => thn hx fun itv s2 h2 => ?_)
  obtain ⟨it, fp, tn, J, H2, rfl, I2, T, st2, f2, q⟩ := h2
  refine wpAny_newObj_type (newEnv_comp ?_)
  -- the dict
  obtain ⟨D, hD⟩ : ∃ D, s2.heap.objs.size = D := ⟨_, rfl⟩
  obtain ⟨W, ⟨m0, w0⟩, turn⟩ := q D (I2.hok.fresh (Nat.le_of_eq hD))
  obtain ⟨s3, hs3⟩ : ∃ s3 : Shared, { s2 with heap := s2.heap.push { cls := .type "dict", data := .dict #[] } } = s3 := ⟨_, rfl⟩
  have h3 : s3.heap = s2.heap.push { cls := .type "dict", data := .dict #[] } := by rw [← hs3]
  obtain ⟨H3, hH3⟩ : ∃ H3, upd H2 D (dN X.prog X.w D []) = H3 := ⟨_, rfl⟩
  have I3 : Inv X pins σ H3 s3 := by
    rw [← hs3, ← hH3]
    refine I2.laid (t' := s2.toks) (fun b o e => Heap.get?_push_of_some _ e) (Nat.le_of_eq hD) ?_
    rw [← hD]
    exact dn_new s2.heap I2.big
  have lt2 : ∀ b ∈ fp, b < s2.heap.objs.size := fun b hb => let ⟨_, e, _⟩ := T.obj _ _ st2 b hb; Heap.lt_size e
  have f3 : ∀ b ∈ fp, FpOk X pins H3 b ∧ b < s3.heap.objs.size := fun b hb => by
    have l := lt2 b hb
    refine ⟨⟨?_, (f2 b hb).2⟩, by rw [h3, Heap.size_push]; exact Nat.lt_succ_of_lt l⟩
    rw [← hH3, upd_ne (by rw [← hD]; exact Nat.ne_of_lt l)]
    exact (f2 b hb).1
  have st3 : tn 0 s3.heap := T.keep _ _ _ st2 fun b _ o e => by rw [h3]; exact Heap.get?_push_of_some _ e
  -- the block
  have I4 := block_start I3 ok hN f3
  have G := hg s3 H3 s3.heap.objs.size (cellsFrom (s3.heap.objs.size + 1) scope.names (cloFrom X.env.cells scope.names [])) fp
  have Tt := ht s3 H3 s3.heap.objs.size (cellsFrom (s3.heap.objs.size + 1) scope.names (cloFrom X.env.cells scope.names [])) fp
  have Kk := hk s3 H3 s3.heap.objs.size (cellsFrom (s3.heap.objs.size + 1) scope.names (cloFrom X.env.cells scope.names [])) fp
  have Ee := he s3 H3 s3.heap.objs.size (cellsFrom (s3.heap.objs.size + 1) scope.names (cloFrom X.env.cells scope.names [])) fp
  rw [hs3]
  show codeAny _ _ (.compStart (.DictComp kx vx [⟨tg, iter, ifs, 0⟩] scope pos) 0 (.ref it) (.ref s2.heap.objs.size) (compEnvC scope (cellsFrom (s3.heap.objs.size + 1) scope.names (cloFrom X.env.cells scope.names [])) s3.heap.objs.size X.env)) (compPost (model X.prog X.w) X.A X.xe use Qf (.ref s2.heap.objs.size) s3.heap.objs.size) { s3 with heap := pushCells (s3.heap.push { cls := .type "dict", data := .dict #[] }) scope.names }
  rw [hD]
  obtain ⟨ce, hce⟩ : ∃ ce, compEnvC scope (cellsFrom (s3.heap.objs.size + 1) scope.names (cloFrom X.env.cells scope.names [])) s3.heap.objs.size X.env = ce := ⟨_, rfl⟩
  have cL : ce.locals = s3.heap.objs.size := by subst hce; rfl
  rw [hce] at I4 G Tt Kk Ee ⊢
  obtain ⟨s4, hs4⟩ : ∃ s4 : Shared, { s3 with heap := pushCells (s3.heap.push { cls := .type "dict", data := .dict #[] }) scope.names } = s4 := ⟨_, rfl⟩
  rw [hs4] at I4 ⊢
  have st4 : tn 0 s4.heap := T.keep _ _ _ st3 fun b _ o e => by rw [← hs4]; exact pushCells_keeps _ _ _ _ (Heap.get?_push_of_some _ e)
  -- the iterator's own objects stay untracked
  have fr : ∀ {σ' : L2.St} {H' : Hp} {s' : Shared}, Inv (X.blk s3 H3 scope ce fp) [] σ' H' s' → (∀ b ∈ fp, H' b = none) → ∀ b ∈ fp, FpOk (X.blk s3 H3 scope ce fp) [] H' b := fun {σ' H' s'} I' hn b hb =>
    ⟨hn b hb, (I'.ok.exf b hb).1, I'.ok.exfs b hb, .inl hb, fun x c e => (I'.ok.exf b hb).2 x c e, fun p hp => absurd (show p ∈ ([] : List (Addr × Obj)) ++ [] from hp) (by simp)⟩
  refine codeAny_compStart_dict ?loop (T.self X.A 0 _ _ _ st4 ?loop)
  refine compLoop_anyD (fun n s' => ∃ i H', Inv (X.blk s3 H3 scope ce fp) [] (wipe σ (own.map (·.2))) H' s' ∧ tn i s'.heap ∧ (∀ b ∈ fp, H' b = none) ∧ W i n H') ?_ m0 ⟨0, H3, I4, st4, fun b hb => (f3 b hb).1.1, by rw [← hH3]; exact w0⟩
  rintro n s5 ⟨i, H5, I5, st5, n5, w5⟩
  rcases turn i n H5 w5 with ⟨stop, qq⟩ | ⟨go, Nx, hNx, step⟩
  · refine thnF (T.done (X.blk s3 H3 scope ce fp) rfl rfl rfl hc i [] s5 _ H5 (fun _ _ => False) I5 (fr I5 n5) st5 stop) fun r s6 ⟨hr, I6⟩ => ?_
    subst hr
    have I7 : Inv X pins σ H5 s6 := I3.call' (ch := fp) I6.os I6.base I6.hok I6.bare fun b hb => ⟨(f3 b hb).1.2.2.2.1, (f3 b hb).1.2.1, (f3 b hb).1.2.2.2.2.1, (f3 b hb).1.2.2.2.2.2⟩
    have nC : H5 s3.heap.objs.size = none := cL ▸ (show H5 ce.locals = none from I6.free)
    obtain ⟨m, hn, _⟩ := I6.loc
    have hn : s6.heap.Ns ce.locals m := hn
    rw [cL] at hn
    exact hRR D s3.heap.objs.size s6 m H5 I7 qq hn (I3.fpOk (Nat.le_refl _) nC)
  · refine thnF (T.item (X.blk s3 H3 scope ce fp) rfl rfl rfl hc i [] s5 _ H5 (fun _ _ => False) I5 (fr I5 n5) st5 go) fun r s6 ⟨u, hr, h6⟩ => ?_
    subst hr
    refine thnF h6 fun _ s7 ⟨x, H7, I7, r7, y7, st7, n7⟩ => ?_
    have Ip := I7.pinned (fr I7 n7) (T.obj _ _ st7)
    refine thnF (G.run _ s7 _ H7 x u _ Ip r7 (step x H7 y7)) fun _ s8 ⟨σ8, H8, I8, hw8, q8⟩ => ?_
    refine thnF (Tt.run _ s8 σ8 H8 _ I8 q8) fun b s9 ⟨H9, I9, q9⟩ => ?_
    have fin : ∀ {s' : Shared} {H' : Hp}, Inv (X.blk s3 H3 scope ce fp) ([] ++ pinsAt fp s7.heap) σ8 H' s' → Nx H' → ∃ m, m < n ∧ ∃ i H', Inv (X.blk s3 H3 scope ce fp) [] (wipe σ (own.map (·.2))) H' s' ∧ tn i s'.heap ∧ (∀ b ∈ fp, H' b = none) ∧ W i m H' := by
      intro s' H' I' nx
      obtain ⟨m', hm, w'⟩ := hNx H' nx
      have pin : ∀ b ∈ fp, ∀ o, s7.heap.get? b = some o → s'.heap.get? b = some o ∧ H' b = none := fun b hb o e => ⟨(I'.pin (b, o) (List.mem_append_right _ (List.mem_append_right _ (mem_pinsAt hb e)))).1, (I'.pin (b, o) (List.mem_append_right _ (List.mem_append_right _ (mem_pinsAt hb e)))).2.1⟩
      refine ⟨m', hm, i + 1, H', (I'.unpinned (pins := [])).weak (by rw [← hw8, wipe_length]) (fun j v e => ?_), T.keep _ _ _ st7 fun b hb o e => (pin b hb o e).1, fun b hb => ?_, w'⟩
      · rw [← hw8] at e
        exact (wipe_some e).1
      · obtain ⟨o, e, _⟩ := T.obj _ _ st7 b hb
        exact (pin b hb o e).2
    cases b with
    | false => exact fin I9 q9
    | true =>
      refine thnF (Kk.run _ s9 σ8 H9 _ I9 q9) fun z s10 ⟨yk, H10, I10, r10, q10⟩ => ?_
      refine thnF (Ee.run _ s10 σ8 H10 _ I10 q10) fun z2 s11 ⟨yv, H11, I11, r11, H12, put, nx⟩ => ?_
      obtain ⟨kb, xs, k, rfl, hD11, ks, ka, dp, hl, rfl⟩ := put
      exact dn_put (X := X.blk s3 H3 scope ce fp) hu I11 hD11 ks ka dp hl r10 r11 fun s12 I12 => fin I12 nx
theorem pe_dcN {kx vx tg iter : Expr} {ifs : List Expr} {scope : Scope} {own : List (Str × Nat)} {pos : Pos} {wi : TI} {g : TG} {tt : TT} {tk tv : TE} (hc : X.calm = true) (hu : X.A.units + 8 < cLine) (hN : X.N.Nodup) (hi : PI X tg iter wi) (ok : BlkOk X.N X.env.scope scope own)
    (hg : ∀ (s : Shared) (H : Hp) (C : Addr) (cl : List (Str × Addr)) (fp : List Addr), PG (X.blk s H scope (compEnvC scope cl C X.env) fp) tg g) (ht : ∀ (s : Shared) (H : Hp) (C : Addr) (cl : List (Str × Addr)) (fp : List Addr), PTs (X.blk s H scope (compEnvC scope cl C X.env) fp) ifs tt)
    (hk : ∀ (s : Shared) (H : Hp) (C : Addr) (cl : List (Str × Addr)) (fp : List Addr), PE (X.blk s H scope (compEnvC scope cl C X.env) fp) kx tk)
    (he : ∀ (s : Shared) (H : Hp) (C : Addr) (cl : List (Str × Addr)) (fp : List Addr), PE (X.blk s H scope (compEnvC scope cl C X.env) fp) vx tv) (hs : ∀ x, foldedSetIterable iter X.env x = pure x := by intro _; rfl) :
    PE X (.DictComp kx vx [⟨tg, iter, ifs, 0⟩] scope pos) (tDcN X.prog X.w X.K wi g tt tk tv (own.map (·.2))) := by
  refine ⟨fun pins s σ H Q I h => ?_⟩
  rw [arm_eval_DictComp]
  refine dcn_core hc hu hN I hi ok hg ht hk he hs h fun D C s' m H' I' q hn f => ⟨m, hn, fun h'' sb => ?_⟩
  obtain ⟨g0, g1, g2, g3, g4, g5⟩ := f
  exact ⟨.ref D, H', I'.turned (t' := s'.toks) (fun b o hb e => (sb.2 b hb).trans e) g0 g1 g3 g4 g5, rfl, q⟩
/-- what a comprehension gives is stored at once, where it is a local's -/
theorem store_comp {pins : List (Addr × Obj)} {σ : L2.St} {H : Hp} {D : Ends} {i : Nat} {y : Str} {py : Pos} {L C : Addr} {s' : Shared} {m : Str → Option Value} {H' : Hp} (hN : X.N.Nodup) (hy : X.N[i]? = some y) (hyl : X.env.scope.names.lookup y = some .local)
    (I' : Inv X pins σ H' s') (q : gName i (.ref L) σ H' D.nx) (hn : s'.heap.Ns C m) (f : FpOk X pins H' C) :
    compPost (model X.prog X.w) X.A X.xe (some (assign (.Name y py) X.env)) (fun _ s' => SP X pins D .next s') (.ref L) C (.ok .next) s' := by
  show wpAny _ _ (assign (.Name y py) X.env (.ref L)) _ _ _
  obtain ⟨g0, g1, g2, g3, g4, g5⟩ := f
  refine wpAny_assign_Name (store_ok2 (v := V.ref L) I' hN hy (.inl hyl) rfl (fun s2 I2 ⟨a, sb, ha⟩ => ?_) (.inr hyl))
  have ne : C ≠ a := ha.elim (fun z => z ▸ g1) fun z e => g4 y a z e.symm
  exact ⟨m, hn.sameBut sb ne, fun h3 sb3 => ⟨_, H', I2.turned (t' := s2.toks) (fun b o hb e => (sb3.2 b hb).trans e) g0 g1 g3 g4 g5, q⟩⟩
/-- name = {..} on one line, the name a local; keys ints or texts -/
theorem ps_setDc {i : Nat} {y : Str} {py : Pos} {kx vx tg iter : Expr} {ifs : List Expr} {scope : Scope} {own : List (Str × Nat)} {pos spos : Pos} {wi : TI} {g : TG} {tt : TT} {tk tv : TE} (hc : X.calm = true) (hN : X.N.Nodup) (hy : X.N[i]? = some y) (hyl : X.env.scope.names.lookup y = some .local)
    (hsw : swapsWith (.DictComp kx vx [⟨tg, iter, ifs, 0⟩] scope pos) (some (.Name y py)) spos.line X.env = pure true) (hi : PI X tg iter wi) (ok : BlkOk X.N X.env.scope scope own)
    (hg : ∀ (s : Shared) (H : Hp) (C : Addr) (cl : List (Str × Addr)) (fp : List Addr), PG (X.blk s H scope (compEnvC scope cl C X.env) fp) tg g) (ht : ∀ (s : Shared) (H : Hp) (C : Addr) (cl : List (Str × Addr)) (fp : List Addr), PTs (X.blk s H scope (compEnvC scope cl C X.env) fp) ifs tt)
    (hk : ∀ (s : Shared) (H : Hp) (C : Addr) (cl : List (Str × Addr)) (fp : List Addr), PE (X.blk s H scope (compEnvC scope cl C X.env) fp) kx tk)
    (he : ∀ (s : Shared) (H : Hp) (C : Addr) (cl : List (Str × Addr)) (fp : List Addr), PE (X.blk s H scope (compEnvC scope cl C X.env) fp) vx tv) (hs : ∀ x, foldedSetIterable iter X.env x = pure x := by intro _; rfl) :
    PS X (.Assign [.Name y py] (.DictComp kx vx [⟨tg, iter, ifs, 0⟩] scope pos) spos) (tAsg (tDc wi g tt tk tv (own.map (·.2))) (gName i)) := by
  refine ⟨fun pins s σ H D I h => ?_⟩
  rw [exec_Assign_Name_used _ _ _ _ hsw]
  refine wpAny_bind (wpAny_standAt (wpAny_bind ?_))
  show wpAny _ X.A (do let _ ← comprehension (.DictComp kx vx [⟨tg, iter, ifs, 0⟩] scope pos) scope X.env (firstIterPos [⟨tg, iter, ifs, 0⟩] pos) newDict false (eval iter X.env) (some (assign (.Name y py) X.env))) _ _ s
  have h : tDc wi g tt tk tv (own.map (·.2)) σ H (fun x H1 => gName i x σ H1 D.nx) := h
  exact wpAny_bind (thn (dc_core (Qf := fun _ s' => SP X pins D .next s') hc hN I hi ok hg ht hk he hs h fun L C s' m H' I' q hn f => store_comp (H := H) hN hy hyl I' q hn f) fun _ s' hq => wpAny_pure (wpAny_pure hq))
/-- the same, keys nested tuples -/
theorem ps_setDcN {i : Nat} {y : Str} {py : Pos} {kx vx tg iter : Expr} {ifs : List Expr} {scope : Scope} {own : List (Str × Nat)} {pos spos : Pos} {wi : TI} {g : TG} {tt : TT} {tk tv : TE} (hc : X.calm = true) (hu : X.A.units + 8 < cLine) (hN : X.N.Nodup) (hy : X.N[i]? = some y) (hyl : X.env.scope.names.lookup y = some .local)
    (hsw : swapsWith (.DictComp kx vx [⟨tg, iter, ifs, 0⟩] scope pos) (some (.Name y py)) spos.line X.env = pure true) (hi : PI X tg iter wi) (ok : BlkOk X.N X.env.scope scope own)
    (hg : ∀ (s : Shared) (H : Hp) (C : Addr) (cl : List (Str × Addr)) (fp : List Addr), PG (X.blk s H scope (compEnvC scope cl C X.env) fp) tg g) (ht : ∀ (s : Shared) (H : Hp) (C : Addr) (cl : List (Str × Addr)) (fp : List Addr), PTs (X.blk s H scope (compEnvC scope cl C X.env) fp) ifs tt)
    (hk : ∀ (s : Shared) (H : Hp) (C : Addr) (cl : List (Str × Addr)) (fp : List Addr), PE (X.blk s H scope (compEnvC scope cl C X.env) fp) kx tk)
    (he : ∀ (s : Shared) (H : Hp) (C : Addr) (cl : List (Str × Addr)) (fp : List Addr), PE (X.blk s H scope (compEnvC scope cl C X.env) fp) vx tv) (hs : ∀ x, foldedSetIterable iter X.env x = pure x := by intro _; rfl) :
    PS X (.Assign [.Name y py] (.DictComp kx vx [⟨tg, iter, ifs, 0⟩] scope pos) spos) (tAsg (tDcN X.prog X.w X.K wi g tt tk tv (own.map (·.2))) (gName i)) := by
  refine ⟨fun pins s σ H D I h => ?_⟩
  rw [exec_Assign_Name_used _ _ _ _ hsw]
  refine wpAny_bind (wpAny_standAt (wpAny_bind ?_))
  show wpAny _ X.A (do let _ ← comprehension (.DictComp kx vx [⟨tg, iter, ifs, 0⟩] scope pos) scope X.env (firstIterPos [⟨tg, iter, ifs, 0⟩] pos) newDict false (eval iter X.env) (some (assign (.Name y py) X.env))) _ _ s
  have h : tDcN X.prog X.w X.K wi g tt tk tv (own.map (·.2)) σ H (fun x H1 => gName i x σ H1 D.nx) := h
  exact wpAny_bind (thn (dcn_core (Qf := fun _ s' => SP X pins D .next s') hc hu hN I hi ok hg ht hk he hs h fun L C s' m H' I' q hn f => store_comp (H := H) hN hy hyl I' q hn f) fun _ s' hq => wpAny_pure (wpAny_pure hq))
end
end DN

namespace K17
open L2 PySem PySem.Spec PyProof.Rows RZ
abbrev sRHeld : Stmt := inClass (top 16) 6
abbrev sPlaces : Stmt := top 19
def quiet3 : List Str := ["take", "back", "install"]
def mns : List Str := ["begun", "each", "forward", "one"]
structure TxtX (K : PySem.W.Frag) (mg : Str → Option Value) : Prop extends TxtE K mg where
  set : mg "set" = none
  gone : ∃ t, mg "GONE" = some (.int (-2) t)
  quiet : ∃ p, mg "QUIET_WORDS" = some (.ref p) ∧ SqT K (fun _ => none) p (quiet3.map V.str)
  plain : ∃ p, mg "PLAIN_MANNERS" = some (.ref p) ∧ SqT K (fun _ => none) p (mns.map V.str)
  alike : ∃ t, mg "ALIKE" = some (.str "alike" t)
section
variable {base : Heap} {P : Program} {w : World} {K : PySem.W.Frag} {mg : Str → Option Value}
/-! ### held -/
def heldL (now : Int) (kv : List Int) (ops : List (Nat × Int × Int)) : List Int := now :: (kv ++ ops.flatMap fun o => [o.2.1, o.2.2].filter fun x => decide (x ≠ -1))
theorem held_le {now : Int} {kv : List Int} {ops : List (Nat × Int × Int)} (lo : ops.length ≤ 4) (lk : kv.length ≤ 4) : (heldL now kv ops).length ≤ 13 := by
  have h1 := flat_len (f := fun o : Nat × Int × Int => [o.2.1, o.2.2].filter fun x => decide (x ≠ -1)) (b := 2) (l := ops) fun o _ => List.length_filter_le _ _
  unfold heldL
  rw [List.length_cons, List.length_append]
  omega
def spHeld (K : PySem.W.Frag) (C : Addr) : Sp := fun vs H Q _ => ∃ (r o kt : Addr) (ws ya yb : List Str) (bs : List Bool) (ops : List (Nat × Int × Int)) (kv : List Int) (now : Int), vs = [.ref r, .ref o, .ref kt, .int now] ∧ RoadAt H C r ws ya yb bs ∧ OpsAt K H o ops ∧ SqT K H kt (intV kv) ∧ ops.length ≤ 4 ∧ kv.length ≤ 4 ∧
  ∀ H' p hs, Same H H' → H' p = some (.lst (intV hs)) → hs.Pairwise (· < ·) → (∀ x, x ∈ hs ↔ x ∈ heldL now kv ops) → hs.length ≤ 20 → Q (.ref p) H'
abbrev nHeld : List Str := ["self", "openings", "kept", "present", "numbers", "opening", "number"]
theorem scHeld : FnScope nHeld ["self", "openings", "kept", "present"] (defScope sRHeld) := ⟨rfl, rfl, rfl, by decide +kernel, rfl, by decide +kernel, by decide +kernel⟩
theorem nodup_lt {hs : List Int} (h : hs.Pairwise (· < ·)) : hs.Nodup := h.imp fun z => by omega
theorem ok_held {f C : Addr} {fd : FuncData} (F : Fun K "held" "Road.held" sRHeld f fd) (T : TxtX K mg) (R : RoadT K mg C) : FnOk P w K mg base CX0 1 f fd ["self", "openings", "kept", "present"] (spHeld K C) := by
  refine F.ok scHeld (fun vs H Q E h => ?_) (fun cdv A outer s H vs Q E hr h => ?_)
  · obtain ⟨r, o, kt, ws, ya, yb, bs, ops, kv, now, rfl, _⟩ := h
    rfl
  · obtain ⟨r, o, kt, ws, ya, yb, bs, ops, kv, now, rfl, ra, ⟨ts, ho, pr⟩, hk, lo, lk, k⟩ := h
    obtain ⟨dx, na, c, pw, kp, tws, hr0, ha, hc, hpw, prs, hkp⟩ := ra.ex
    obtain ⟨t1, g1⟩ := T.none1
    have tl : ts.length = ops.length := Paired.length pr
    refine ⟨_, pss_cons (ps_set (i := 4) scHeld.nd rfl (.inl rfl) (pe_lst (pa_cons (pv 3) (StX.pa_star (pv 2) pa_nil))))
      (pss_cons (ps_for PassesOwn.never rfl (pi_tup (pv 1)) (pg_name (i := 5) scHeld.nd rfl (.inl rfl))
        (pss_one (ps_expr (pe_bm PySem.F.plainAttrs_list PySem.F.slot_list_extend PySem.F.type_list_extend mt_extend (pv 4) (pa_cons (pe_lc (own := [("number", 6)]) (g := gName 6) rfl scHeld.nd (pi_tup (pe_slice (r := rSlA K) sl_tupA (pv 5) (po_some pe_int) (po_some (pe_op op_add pe_int (pe_fld (pv 0) rfl)))))
          (blkOk_by (N := nHeld) (sc := defScope sRHeld) (by decide +kernel)) (fun _ _ _ _ _ => pg_name (i := 6) scHeld.nd rfl (Or.inl rfl)) (fun _ _ _ _ _ => pts_one (pt_cmpR op_ne (pv 6) (pe_glob (v := .int (-1)) (by rfl) g1 ⟨_, rfl⟩) (nomark _)))
          (fun _ _ _ _ _ => pv 6)) pa_nil)))))
      (pss_one (ps_ret (pe_callB (cr_sortedSet rfl) (by rfl) T.sorted (by decide +kernel) (pa_cons (pe_callTy (DN.cr_setL rfl) (by rfl) T.set (by decide +kernel) (pa_cons (pv 4) pa_nil)) pa_nil))))), ?_⟩
    refine ⟨_, rfl, _, rfl, kt, _, rfl, .inl hk, (by rw [List.length_cons, List.length_append]; unfold intV; rw [List.length_map]; exact Nat.le_of_lt (small1000 (by show kv.length + 0 + 1 ≤ 1000; omega))), fun N nN => ?_⟩
    have s1 := same_upd (o := .lst (.int now :: (intV kv ++ []))) nN
    have hN1 : (upd H N (.lst (.int now :: (intV kv ++ [])))) N = some (.lst (intV (heldL now kv []))) := by rw [upd_same]; simp [heldL, intV]
    generalize (upd H N (.lst (.int now :: (intV kv ++ [])))) = H1 at s1 hN1
    refine ⟨_, rfl, o, rfl, ⟨_, sqT_same s1 ho⟩, ?_⟩
    refine for_tup (K := K) (xs := ts.map V.ref) (fun i σ H' => (∃ b c, σ = [some (.ref r), some (.ref o), some (.ref kt), some (.int now), some (.ref N), b, c]) ∧ Same H H' ∧ H' N = some (.lst (intV (heldL now kv (ops.take i))))) ⟨⟨_, _, rfl⟩, s1, hN1⟩ (fun i σ H' _ q => sqT_same q.2.1 ho) ?_ ?_
    · rintro i x σ H2 hx ⟨⟨b, c', rfl⟩, s2, hN2⟩
      rw [List.getElem?_map] at hx
      obtain ⟨t, ht, rfl⟩ := Option.map_eq_some_iff.mp hx
      obtain ⟨q, hq1, hq2⟩ := paired_get pr ht
      have il := (List.getElem?_eq_some_iff.mp ht).1
      refine ⟨_, rfl, .inl ⟨rfl, _, SqL.of hN2⟩, ?_⟩
      dsimp only [tCons, tNil, tLc, iTup, List.map]
      refine ⟨_, rfl, _, rfl, _, rfl, r, C, dx, _, .int 2, rfl, s2 _ _ hr0, R.cl, R.n1, rfl, 1, 2, rfl, rfl, _, rfl, t, _, rfl, sqT_same s2 hq2, (fun e => absurd e.1 (show ¬ HT.sIx 3 0 (some 1) = 0 by decide)), fun _ u nu => ?_⟩
      have s3 := same_upd (o := .tup (cutV [.int (q.1 : Int), .int q.2.1, .int q.2.2] (some 1) (some (1 + 2)))) nu
      have hu : (upd H2 u (.tup (cutV [.int (q.1 : Int), .int q.2.1, .int q.2.2] (some 1) (some (1 + 2))))) u = some (.tup [.int q.2.1, .int q.2.2]) := upd_same
      generalize (upd H2 u (.tup (cutV [.int (q.1 : Int), .int q.2.1, .int q.2.2] (some 1) (some (1 + 2))))) = H3 at s3 hu
      refine ⟨u, rfl, ⟨_, SqT.of hu⟩, fun D nD => ?_⟩
      refine lc_tup (K := K) (xs := [.int q.2.1, .int q.2.2]) (fun j H' => Same H3 H' ∧ H' D = some (.lst (intV (([q.2.1, q.2.2].take j).filter fun x => decide (x ≠ -1))))) ⟨same_upd nD, upd_same⟩ (fun j H' _ z => sqT_same z.1 (SqT.of hu)) ?_ ?_
      · rintro j x H4 hx ⟨s4, hD⟩
        obtain ⟨y, hy, rfl⟩ : ∃ y, [q.2.1, q.2.2][j]? = some y ∧ x = .int y := by
          have lj : j < 2 := (List.getElem?_eq_some_iff.mp hx).1
          match j, lj, hx with
          | 0, _, hx => cases hx; exact ⟨_, rfl, rfl⟩
          | 1, _, hx => cases hx; exact ⟨_, rfl, rfl⟩
        have e2 : ([q.2.1, q.2.2].take (j + 1)).filter (fun x => decide (x ≠ -1)) = ([q.2.1, q.2.2].take j).filter (fun x => decide (x ≠ -1)) ++ [y].filter (fun x => decide (x ≠ -1)) := by
          rw [take_snoc hy, List.filter_append]
        refine ⟨rfl, ?_⟩
        refine ⟨_, rfl, rfl, _, rfl, ?_⟩
        refine ite2 (fun c1 => ?_) (fun c1 => ?_)
        · have c2 : y ≠ -1 := fun e => by
            rw [e] at c1
            exact absurd c1 (by decide)
          refine ⟨_, rfl, _, hD, ?_, same_new s4 nD, ?_⟩
          · have := List.length_filter_le (fun x : Int => decide (x ≠ -1)) ([q.2.1, q.2.2].take j)
            rw [List.length_take] at this
            unfold intV
            rw [List.length_map]
            have z : [q.2.1, q.2.2].length = 2 := rfl
            exact small1000 (by omega)
          · rw [upd_same, e2, List.filter_cons_of_pos (by rw [decide_eq_true_eq]; exact c2)]
            unfold intV
            rw [List.map_append]
            rfl
        · have c2 : y = -1 := Classical.byContradiction fun e => c1 (by
            show (!decide (V.int y = V.int (-1))) = true
            rw [decide_eq_false fun z => e (V.int.inj z)]
            rfl)
          refine ⟨s4, ?_⟩
          rw [hD, e2, c2]
          simp
      · rintro H4 ⟨s4, hD⟩
        have hN4 := s4 _ _ (s3 _ _ hN2)
        have e1 : heldL now kv (ops.take (i + 1)) = heldL now kv (ops.take i) ++ ([q.2.1, q.2.2].filter fun x => decide (x ≠ -1)) := by
          unfold heldL
          rw [take_snoc hq1, List.flatMap_append, List.flatMap_cons, List.flatMap_nil, List.append_nil]
          simp only [List.cons_append, List.append_assoc]
        have hll := held_le (now := now) (kv := kv) (ops := ops.take i) (by rw [List.length_take]; omega) lk
        have h2 := List.length_filter_le (fun x : Int => decide (x ≠ -1)) [q.2.1, q.2.2]
        refine ⟨N, D, _, _, rfl, rfl, hN4, hD, ?_, ?_⟩
        · unfold intV
          rw [List.length_map, List.length_map]
          have : [q.2.1, q.2.2].length = 2 := rfl
          exact Nat.le_of_lt (small1000 (by show (heldL now kv (ops.take i)).length + ([q.2.1, q.2.2].filter fun x => decide (x ≠ -1)).length ≤ 1000; omega))
        · refine ⟨⟨_, _, rfl⟩, same_new ((s2.trans s3).trans s4) nN, ?_⟩
          rw [upd_same, e1]
          unfold intV
          rw [List.map_append]
          rfl
    · rintro σ H2 ⟨⟨b, c', rfl⟩, s2, hN2⟩
      rw [List.length_map, tl, List.take_length] at hN2
      have h30 := held_le (now := now) (kv := kv) (ops := ops) lo lk
      refine ⟨_, rfl, N, heldL now kv ops, rfl, SqL.of hN2, by omega, fun p n np hn => ?_⟩
      have s3 := same_upd (o := SetO w p (fun j => decide (j ∈ heldL now kv ops)) n) np
      refine ⟨p, _, n, rfl, upd_same, by omega, fun hs q srt mem hln nq => ?_⟩
      exact k _ q hs ((s2.trans s3).trans (same_upd nq)) upd_same srt (fun x => by rw [mem]; exact decide_eq_true_iff) (by omega)
end
end K17

namespace K17
open L2 PySem PySem.Spec PyProof.Rows RZ
abbrev sRenumbered : Stmt := top 20
/-- a dict comprehension by a walk -/
theorem dc_it {J : It} {n : Nat} {G : Hp → Prop} {Y : Nat → Hp → V → Hp → Prop} (w : Walk J n G Y) {g : TG} {tt : TT} {tk tv : TE} {vs : List Nat} {σ : L2.St} {H1 : Hp} {D : Addr} {Qd : Hp → Prop} (Pv : Nat → Hp → Prop) (h0 : Pv 0 (upd H1 D (.dK []))) (hG : ∀ i H, i ≤ n → Pv i H → G H)
    (hs : ∀ i x H H', i < n → Pv i H → Y i H x H' → g x (wipe σ vs) H' fun σ2 H2 => wipe σ2 vs = wipe σ vs ∧ tt σ2 H2 fun b H3 =>
      if b = true then tk σ2 H3 fun y H4 => tv σ2 H4 fun z H5 => ∃ kvs k, y = kV k ∧ H5 D = some (.dK kvs) ∧ kvs.length < sizeLine ∧ Pv (i + 1) (upd H5 D (.dK (putK kvs k z))) else Pv (i + 1) H3) (hd : ∀ H, Pv n H → Qd H) :
    ∃ W : Nat → Nat → Hp → Prop, (∃ m, W 0 m (upd H1 D (.dK []))) ∧ ∀ i m H, W i m H →
      (J.stop i H ∧ Qd H) ∨ (J.go i H ∧ ∃ Nx : Hp → Prop, (∀ H', Nx H' → ∃ m', m' < m ∧ W (i + 1) m' H') ∧ ∀ x H', J.yld i H x H' → g x (wipe σ vs) H' fun σ2 H2 => wipe σ2 vs = wipe σ vs ∧ tt σ2 H2 fun b H3 =>
        if b = true then tk σ2 H3 fun y H4 => tv σ2 H4 fun z H5 => ∃ kvs k, y = kV k ∧ H5 D = some (.dK kvs) ∧ kvs.length < sizeLine ∧ Nx (upd H5 D (.dK (putK kvs k z))) else Nx H3) := by
  refine ⟨fun i m H => m = n - i ∧ i ≤ n ∧ Pv i H, ⟨n, rfl, Nat.zero_le _, h0⟩, ?_⟩
  rintro i m H ⟨rfl, hi, p⟩
  have q := hG i H hi p
  by_cases lt : i < n
  · exact .inr ⟨w.goes i H lt q, Pv (i + 1), fun H' p' => ⟨n - (i + 1), by omega, rfl, lt, p'⟩, fun x H' y => hs i x H H' lt p (w.yields i H x H' lt q y)⟩
  · obtain rfl : i = n := by omega
    exact .inl ⟨w.stops H q, hd H p⟩
/-! ### places_of -/
/-- the ranks of L in a dict, -1 for none -/
def PlacesAt (H : Hp) (d : Addr) (L : List Int) : Prop := ∃ kvs : List (Key × V), H d = some (.dK kvs) ∧ ∀ x : Int, valV kvs (.inl x) = if x = -1 then some (.int (-1)) else if x ∈ L then some (.int (rk L x)) else none
theorem PlacesAt.same {H H' : Hp} {d : Addr} {L : List Int} (h : PlacesAt H d L) (s : Same H H') : PlacesAt H' d L := by
  obtain ⟨kvs, a, b⟩ := h
  exact ⟨kvs, s _ _ a, b⟩
theorem rank_at {hs L : List Int} (srt : hs.Pairwise (· < ·)) (mem : ∀ x, x ∈ hs ↔ x ∈ L) {j : Nat} {x : Int} (h : hs[j]? = some x) : rk L x = (j : Int) := by
  obtain ⟨lt, e⟩ := List.getElem?_eq_some_iff.mp h
  have e1 : (below L x).length = (hs.take j).length := by
    refine len_eq (below_nodup L x) ((nodup_lt srt).sublist (List.take_sublist _ _)) fun y => ?_
    rw [mem_below, ← mem]
    have sp : hs = hs.take j ++ x :: hs.drop (j + 1) := by
      rw [← e, ← List.drop_eq_getElem_cons lt, List.take_append_drop]
    have srt' := srt
    rw [sp, List.pairwise_append] at srt'
    obtain ⟨_, p2, p3⟩ := srt'
    constructor
    · rintro ⟨hy, hl⟩
      rw [sp] at hy
      rcases List.mem_append.mp hy with q | q
      · exact q
      · exfalso
        rcases List.mem_cons.mp q with rfl | q
        · omega
        · have := (List.pairwise_cons.mp p2).1 y q
          omega
    · intro hy
      exact ⟨List.take_subset _ _ hy, p3 y hy x List.mem_cons_self⟩
  unfold rk
  rw [e1, List.length_take, Nat.min_eq_left (Nat.le_of_lt lt)]
section
variable {base : Heap} {P : Program} {w : World} {K : PySem.W.Frag} {mg : Str → Option Value}
def spPlaces (K : PySem.W.Frag) : Sp := fun vs H Q _ => ∃ (n : Addr) (hs L : List Int), vs = [.ref n] ∧ H n = some (.lst (intV hs)) ∧ hs.Pairwise (· < ·) ∧ (∀ x, x ∈ hs ↔ x ∈ L) ∧ hs.length ≤ 20 ∧ ∀ H' d, Same H H' → PlacesAt H' d L → Q (.ref d) H'
abbrev nPlaces : List Str := ["numbers", "places", "at", "number"]
theorem scPlaces : FnScope nPlaces ["numbers"] (defScope sPlaces) := ⟨rfl, rfl, rfl, by decide +kernel, rfl, by decide +kernel, by decide +kernel⟩
theorem ok_places {f : Addr} {fd : FuncData} (F : Fun K "places_of" "places_of" sPlaces f fd) (T : TxtX K mg) : FnOk P w K mg base CX0 1 f fd ["numbers"] (spPlaces K) := by
  refine F.ok scPlaces (fun vs H Q E h => ?_) (fun cdv A outer s H vs Q E hr h => ?_)
  · obtain ⟨n, hs, L, rfl, _⟩ := h
    rfl
  · obtain ⟨n, hs, L, rfl, hn, srt, mem, l20, k⟩ := h
    obtain ⟨t1, g1⟩ := T.none1
    refine ⟨_, pss_cons (DN.ps_setDc (i := 1) (own := [("at", 2), ("number", 3)]) (g := gTup K 2 (gCons (gName 2) (gCons (gName 3) gNil))) (tt := tYes) rfl scPlaces.nd rfl rfl rfl (pi_enum (by rfl) T.enum (pa_cons (pv 0) pa_nil))
          (blkOk_by (N := nPlaces) (sc := defScope sPlaces) (by decide +kernel)) (fun _ _ _ _ _ => pg_tup rfl (pgs_cons (pg_name (i := 2) scPlaces.nd rfl (Or.inl rfl)) (pgs_cons (pg_name (i := 3) scPlaces.nd rfl (Or.inl rfl)) pgs_nil))) (fun _ _ _ _ _ => pts_nil)
          (fun _ _ _ _ _ => pv 3) (fun _ _ _ _ _ => pv 2))
      (pss_cons (ps_dput (units1 hr) (pv 1) (pe_glob (v := .int (-1)) (by rfl) g1 ⟨_, rfl⟩) (pe_glob (v := .int (-1)) (by rfl) g1 ⟨_, rfl⟩) (by rfl))
      (pss_one (ps_ret (pv 1)))), ?_⟩
    dsimp only [tSeq, tAsg, tDc, iEnum, tCons, tNil, List.map]
    refine ⟨_, rfl, n, _, rfl, SqL.of hn, fun D nD => ?_⟩
    refine dc_it (walk_enum (K := K) (a := n) (xs := intV hs)) (fun i H' => Same H H' ∧ ∃ kvs : List (Key × V), H' D = some (.dK kvs) ∧ kvs.length ≤ i ∧ (∀ j x, j < i → hs[j]? = some x → valV kvs (.inl x) = some (.int (j : Nat))) ∧ ∀ x, x ∉ hs.take i → valV kvs (.inl x) = none)
      ⟨same_upd nD, [], upd_same, Nat.le_refl _, fun j x hj => absurd hj (Nat.not_lt_zero _), fun x _ => rfl⟩ (fun i H' _ z => SqL.of (z.1 _ _ hn)) ?_ ?_
    · rintro i v H1 H2 hi ⟨s1, kvs, hD, lk, v1, v2⟩ ⟨T', x1, x2, rfl, nT, rfl, e1, e2⟩
      cases (show some (V.int (i : Nat)) = some x1 from e1)
      have e2' : (intV hs)[i]? = some x2 := e2
      unfold intV at e2'
      rw [List.getElem?_map] at e2'
      obtain ⟨y, hy, rfl⟩ := Option.map_eq_some_iff.mp e2'
      have s2 := same_upd (o := .tup [V.int (i : Nat), V.int y]) nT
      have hil : i < hs.length := (List.getElem?_eq_some_iff.mp hy).1
      refine ⟨T', _, rfl, SqT.of upd_same, rfl, _, _, rfl, _, _, rfl, rfl, rfl, ?_⟩
      have tk := take_snoc hy
      have ny : y ∉ hs.take i := fun q => by
        have nd := (nodup_lt srt).sublist (List.take_sublist (i + 1) hs)
        rw [tk, List.nodup_append] at nd
        exact nd.2.2 y q y (List.mem_singleton.mpr rfl) rfl
      refine ⟨_, rfl, _, rfl, kvs, .inl y, rfl, s2 _ _ hD, Nat.lt_of_le_of_lt lk (Nat.lt_of_lt_of_le hi (by unfold intV; rw [List.length_map]; exact Nat.le_of_lt (small1000 (by omega)))), same_new (s1.trans s2) nD, _, upd_same, ?_, ?_, ?_⟩
      · have := length_putK kvs (Sum.inl y : Key) (V.int (i : Nat))
        omega
      · intro j x hj hx
        rw [valV_put]
        by_cases c : x = y
        · subst c
          rw [if_pos rfl, nodup_idx (nodup_lt srt) hx hy]
        · rw [if_neg (fun z => c (Sum.inl.inj z))]
          refine v1 j x ?_ hx
          rcases Nat.lt_or_ge j i with q | q
          · exact q
          · have : j = i := by omega
            subst this
            rw [hy] at hx
            exact absurd (Option.some.inj hx).symm c
      · intro x hx
        rw [tk] at hx
        rw [valV_put, if_neg (fun z => hx (by rw [Sum.inl.inj z]; simp))]
        exact v2 x fun z => hx (List.mem_append_left _ z)
    · rintro H1 ⟨s1, kvs, hD, lk, v1, v2⟩
      have lh : (intV hs).length = hs.length := by unfold intV; rw [List.length_map]
      rw [lh] at v1 v2 lk
      refine ⟨_, rfl, D, _, rfl, DPut.k (k := .inl (-1)) hD (small1000 (by omega)), ?_⟩
      refine ⟨_, rfl, k _ D (same_new s1 nD) ⟨_, upd_same, fun x => ?_⟩⟩
      rw [valV_put]
      by_cases c : x = -1
      · rw [if_pos (by rw [c]), if_pos c]
      · rw [if_neg (fun z => c (Sum.inl.inj z)), if_neg c]
        by_cases m : x ∈ L
        · rw [if_pos m]
          obtain ⟨j, hj⟩ := List.mem_iff_getElem?.mp ((mem x).mpr m)
          rw [rank_at srt mem hj]
          exact v1 j x (List.getElem?_eq_some_iff.mp hj).1 hj
        · rw [if_neg m]
          exact v2 x (by rw [List.take_length]; exact fun z => m ((mem x).mp z))
end
end K17

namespace K17
open L2 PySem PySem.Spec PyProof.Rows RZ
theorem sqT_wr {K : PySem.W.Frag} {H : Hp} {u D : Addr} {xs zs : List V} {o : HO} (h : SqT K H u xs) (hD : H D = some (.lst zs)) : SqT K (upd H D o) u xs := by
  rcases h with (h | ⟨o', h⟩) | h
  · exact .inl (.inl (by rw [upd_ne (fun e => by rw [e, hD] at h; cases h)]; exact h))
  · exact .inl (.inr ⟨o', by rw [upd_ne (fun e => by rw [e, hD] at h; cases h)]; exact h⟩)
  · exact .inr h
section
variable {base : Heap} {P : Program} {w : World} {K : PySem.W.Frag} {mg : Str → Option Value}
/-! ### renumbered -/
def plOp (L : List Int) (o : Nat × Int × Int) : Nat × Int × Int := (o.1, pl L o.2.1, pl L o.2.2)
def spRenumbered (K : PySem.W.Frag) : Sp := fun vs H Q _ => ∃ (o d : Addr) (ops : List (Nat × Int × Int)) (L : List Int), vs = [.ref o, .ref d] ∧ OpsAt K H o ops ∧ ops.length ≤ 9 ∧ PlacesAt H d L ∧ ∀ H' t, Same H H' → OpsAt K H' t (ops.map (plOp L)) → Q (.ref t) H'
abbrev nRenumbered : List Str := ["openings", "places", "row", "number"]
theorem scRenumbered : FnScope nRenumbered ["openings", "places"] (defScope sRenumbered) := ⟨rfl, rfl, rfl, by decide +kernel, rfl, by decide +kernel, by decide +kernel⟩
abbrev blkN : Scope := { kind := ScopeKind.function, names := [(Str.ofString ".0", NameKind.local), (Str.ofString "row", NameKind.local), (Str.ofString "places", NameKind.cell)], isGenerator := false, isCoroutine := false }
theorem ok_renumbered {f : Addr} {fd : FuncData} (F : Fun K "renumbered" "renumbered" sRenumbered f fd) (T : TxtX K mg) : FnOk P w K mg base CX0 1 f fd ["openings", "places"] (spRenumbered K) := by
  refine F.ok scRenumbered (fun vs H Q E h => ?_) (fun cdv A outer s H vs Q E hr h => ?_)
  · obtain ⟨o, d, ops, L, rfl, _⟩ := h
    rfl
  · obtain ⟨o, d, ops, L, rfl, ⟨ts, ho, pr⟩, l9, hd, k⟩ := h
    obtain ⟨t2, g2⟩ := T.gone
    have tl : ts.length = ops.length := Paired.length pr
    refine ⟨_, pss_one (ps_ret (pe_callTy call_tupD (by rfl) T.tuple (by decide +kernel) (pa_cons (pe_lc (own := [("row", 2)]) (g := gName 2) (tt := tYes) (te := tTup (tCons (tOp (rIxT K) (tVar 2) (tC (.int 0))) (StX.tStar K (tLc (iTup K (tSl (rSlA K) (tVar 2) (tPart (tC (.int 1))) tNoPart)) (gName 3) tYes (tDGet2 (tVar 1) (tVar 3) (tC (.int (-2)))) [3]) tNil))) rfl scRenumbered.nd (pi_tup (pv 0))
          (blkOk_by (N := nRenumbered) (sc := defScope sRenumbered) (by decide +kernel)) (fun _ _ _ _ _ => pg_name (i := 2) scRenumbered.nd rfl (Or.inl rfl)) (fun _ _ _ _ _ => pts_nil)
          (fun _ _ _ _ _ => pe_tup (pa_cons (pe_ix (r := rIxT K) ix_tup (pv 2) pe_int (fun _ _ => rfl)) (StX.pa_star (pe_lc (own := [("number", 3)]) (g := gName 3) (tt := tYes) rfl scRenumbered.nd (pi_tup (pe_slice (r := rSlA K) sl_tupA (pv 2) (po_some pe_int) po_none))
            (blkOk_by (N := nRenumbered) (sc := blkN) (by decide +kernel)) (fun _ _ _ _ _ => pg_name (i := 3) scRenumbered.nd rfl (Or.inl rfl)) (fun _ _ _ _ _ => pts_nil)
            (fun _ _ _ _ _ => pe_dget2 (units1 hr) (pv 1) (pv 3) (pe_glob (v := .int (-2)) (by rfl) g2 ⟨_, rfl⟩) ⟨rfl, rfl, rfl, rfl⟩)) pa_nil)))) pa_nil))), ?_⟩
    have ld : ∀ (H' : Hp) (x : Int), PlacesAt H' d L → ∃ kvs : List (Key × V), H' d = some (.dK kvs) ∧ (valV kvs (.inl x)).getD (.int (-2)) = .int (pl L x) := fun H' x z => by
      obtain ⟨kvs, a, b⟩ := z
      refine ⟨kvs, a, ?_⟩
      rw [b]
      unfold pl
      by_cases c1 : x = -1
      · rw [if_pos c1, if_pos c1]
        rfl
      · rw [if_neg c1, if_neg c1]
        by_cases c2 : x ∈ L
        · rw [if_pos c2, if_pos c2]
          rfl
        · rw [if_neg c2, if_neg c2]
          rfl
    dsimp only [tRet, tCB, tCons, tNil, List.map]
    refine ⟨_, rfl, o, rfl, ⟨_, ho⟩, fun D nD => ?_⟩
    refine lc_tup (K := K) (xs := ts.map V.ref) (fun i H' => Same H H' ∧ ∃ us : List Addr, H' D = some (.lst (us.map V.ref)) ∧ us.length = i ∧ Paired (fun (u : Addr) (q : Nat × Int × Int) => SqT K H' u [.int (q.1 : Int), .int q.2.1, .int q.2.2]) us ((ops.take i).map (plOp L))) ⟨same_upd nD, [], upd_same, rfl, .nil⟩ (fun i H' _ z => sqT_same z.1 ho) ?_ ?_
    · rintro i x H1 hx ⟨s1, us, hD, lu, pu⟩
      rw [List.getElem?_map] at hx
      obtain ⟨t, ht, rfl⟩ := Option.map_eq_some_iff.mp hx
      obtain ⟨q, hq1, hq2⟩ := paired_get pr ht
      have il := (List.getElem?_eq_some_iff.mp ht).1
      refine ⟨rfl, ?_⟩
      refine ⟨_, rfl, t, _, 0, .int (q.1 : Int), rfl, rfl, sqT_same s1 hq2, atI_nat (j := 0) rfl, ?_⟩
      refine ⟨_, rfl, _, rfl, t, _, rfl, sqT_same s1 hq2, (fun e => absurd e.1 (show ¬ HT.sIx 3 0 (some 1) = 0 by decide)), fun _ u nu => ?_⟩
      have s2 := same_upd (o := .tup (cutV [.int (q.1 : Int), .int q.2.1, .int q.2.2] (some 1) none)) nu
      have hu : (upd H1 u (.tup (cutV [.int (q.1 : Int), .int q.2.1, .int q.2.2] (some 1) none))) u = some (.tup [.int q.2.1, .int q.2.2]) := upd_same
      generalize (upd H1 u (.tup (cutV [.int (q.1 : Int), .int q.2.1, .int q.2.2] (some 1) none))) = H2 at s2 hu
      refine ⟨u, rfl, ⟨_, SqT.of hu⟩, fun D2 nD2 => ?_⟩
      refine lc_tup (K := K) (xs := [.int q.2.1, .int q.2.2]) (fun j H' => Same H2 H' ∧ H' D2 = some (.lst (([V.int (pl L q.2.1), V.int (pl L q.2.2)]).take j))) ⟨same_upd nD2, upd_same⟩ (fun j H' _ z => sqT_same z.1 (SqT.of hu)) ?_ ?_
      · rintro j x H3 hx ⟨s3, hD2⟩
        have jl : j < 2 := (List.getElem?_eq_some_iff.mp hx).1
        have s03 := (s1.trans s2).trans s3
        obtain ⟨y, rfl, ey⟩ : ∃ y, x = .int y ∧ (([V.int (pl L q.2.1), V.int (pl L q.2.2)]).take j) ++ [V.int (pl L y)] = ([V.int (pl L q.2.1), V.int (pl L q.2.2)]).take (j + 1) := by
          match j, jl with
          | 0, _ => cases hx; exact ⟨_, rfl, rfl⟩
          | 1, _ => cases hx; exact ⟨_, rfl, rfl⟩
        obtain ⟨kvs, g1, g3⟩ := ld _ y (hd.same s03)
        refine ⟨rfl, ?_⟩
        refine ⟨_, rfl, d, rfl, .inl ⟨_, .inl g1⟩, _, rfl, _, DGet.k (k := .inl y) g1, _, hD2, ?_, same_new s3 nD2, ?_⟩
        · rw [List.length_take]
          exact small1000 (by show min j 2 ≤ 1000; omega)
        · rw [upd_same, g3, ey]
      · rintro H3 ⟨s3, hD2⟩
        have hD2' : H3 D2 = some (.lst [V.int (pl L q.2.1), V.int (pl L q.2.2)]) := hD2
        refine ⟨D2, _, rfl, .inr (SqL.of hD2'), (by show 3 ≤ sizeLine; decide), fun e ne => ?_⟩
        have s4 := same_upd (o := .tup [.int (q.1 : Int), V.int (pl L q.2.1), V.int (pl L q.2.2)]) ne
        have s14 := (s2.trans s3).trans s4
        refine ⟨_, s14 _ _ hD, by rw [List.length_map, lu]; exact small1000 (by omega), same_new (s1.trans s14) nD, us ++ [e], by rw [upd_same, List.map_append]; rfl, by rw [List.length_append, lu]; rfl, ?_⟩
        rw [take_snoc hq1, List.map_append]
        exact paired_snoc (paired_mono (fun _ _ z => sqT_wr (sqT_same s14 z) (s14 _ _ hD)) pu) (sqT_wr (SqT.of upd_same) (s14 _ _ hD))
    · rintro H1 ⟨s1, us, hD, lu, pu⟩
      rw [List.length_map, tl, List.take_length] at pu
      refine ⟨D, _, rfl, SqL.of hD, fun l ob nl od => ?_⟩
      have s2 := same_upd (o := .frz ob (.tup (us.map V.ref))) nl
      exact k _ l (s1.trans s2) ⟨us, TupD.sq ⟨ob, upd_same, od⟩, paired_mono (fun _ _ z => sqT_same s2 z) pu⟩
end
end K17

namespace K17
open L2 PySem PySem.Spec PyProof.Rows RZ
abbrev sFirstTail : Stmt := top 26
abbrev sFirstRest : Stmt := top 27
abbrev sJudged : Stmt := top 28
abbrev sRestRen : Stmt := top 29
section
variable {base : Heap} {P : Program} {w : World} {K : PySem.W.Frag} {mg : Str → Option Value}
theorem alike_eq : decide (V.str ("alike" : Str) = V.str "alike") = true := decide_eq_true rfl
/-! ### first_tail, first_rest -/
def spFirstTail : Sp := fun vs H Q _ => vs = [.str "alike"] ∧ ∀ H' t, Same H H' → H' t = some (.tup []) → Q (.ref t) H'
theorem scFirstTail : FnScope ["manner"] ["manner"] (defScope sFirstTail) := ⟨rfl, rfl, rfl, by decide +kernel, rfl, by decide +kernel, by decide +kernel⟩
theorem ok_firstTail {f : Addr} {fd : FuncData} (F : Fun K "first_tail" "first_tail" sFirstTail f fd) (T : TxtX K mg) : FnOk P w K mg base CX0 1 f fd ["manner"] spFirstTail := by
  refine F.ok scFirstTail (fun vs H Q E h => ?_) (fun cdv A outer s H vs Q E hr h => ?_)
  · obtain ⟨rfl, _⟩ := h
    rfl
  · obtain ⟨rfl, k⟩ := h
    obtain ⟨t1, g1⟩ := T.none1
    obtain ⟨ta, ga⟩ := T.alike
    refine ⟨_, pss_one (ps_ret (pe_ifExp (pt_cmpR op_eq (pv 0) (pe_glob (v := .str "alike") (by rfl) ga ⟨_, rfl⟩) (nomark _)) (pe_tup pa_nil) (pe_tup (pa_cons (pe_glob (v := .int (-1)) (by rfl) g1 ⟨_, rfl⟩) pa_nil)))), ?_⟩
    refine ⟨_, rfl, rfl, _, rfl, ?_⟩
    refine ite2 (fun _ => ?_) (fun q => absurd alike_eq q)
    exact ⟨(by show 0 ≤ sizeLine; decide), fun t nt => k _ t (same_upd nt) upd_same⟩
def spFirstRest : Sp := fun vs H Q _ => ∃ (now : Nat), vs = [.str "alike", .int (now : Int)] ∧ ∀ H' t, Same H H' → H' t = some (.tup []) → Q (.ref t) H'
theorem scFirstRest : FnScope ["manner", "present"] ["manner", "present"] (defScope sFirstRest) := ⟨rfl, rfl, rfl, by decide +kernel, rfl, by decide +kernel, by decide +kernel⟩
theorem ok_firstRest {f : Addr} {fd : FuncData} (F : Fun K "first_rest" "first_rest" sFirstRest f fd) (T : TxtX K mg) : FnOk P w K mg base CX0 1 f fd ["manner", "present"] spFirstRest := by
  refine F.ok scFirstRest (fun vs H Q E h => ?_) (fun cdv A outer s H vs Q E hr h => ?_)
  · obtain ⟨now, rfl, _⟩ := h
    rfl
  · obtain ⟨now, rfl, k⟩ := h
    obtain ⟨t1, g1⟩ := T.none1
    obtain ⟨ta, ga⟩ := T.alike
    refine ⟨_, pss_cons (ps_if (pt_cmpR op_eq (pv 0) (pe_glob (v := .str "alike") (by rfl) ga ⟨_, rfl⟩) (nomark _)) (pss_one (ps_ret (pe_tup pa_nil))) pss_nil)
      (pss_cons (ps_if (pt_cmpR op_eq (pv 0) pe_str (nomark _)) (pss_one (ps_ret (pe_tup (pa_cons (pv 1) pa_nil)))) pss_nil)
      (pss_cons (ps_if (pt_cmpR op_eq (pv 0) pe_str (nomark _)) (pss_one (ps_ret (pe_tup (pa_cons pe_int pa_nil)))) pss_nil)
      (pss_one (ps_ret (pe_tup (pa_cons (pe_glob (v := .int (-1)) (by rfl) g1 ⟨_, rfl⟩) pa_nil)))))), ?_⟩
    refine ⟨_, rfl, rfl, _, rfl, ?_⟩
    refine ite2 (fun _ => ?_) (fun q => absurd alike_eq q)
    exact ⟨(by show 0 ≤ sizeLine; decide), fun t nt => k _ t (same_upd nt) upd_same⟩
/-! ### judged -/
def spJudged (K : PySem.W.Frag) : Sp := fun vs H Q _ => ∃ (n t rs : Addr) (a b : Int), vs = [.str "alike", .ref n, .ref t, .ref rs] ∧ SqT K H n [.int a, .int b] ∧
  (a ≠ b → Q .non H) ∧ (a = b → ∀ H' u, Same H H' → H' u = some (.tup [.ref t, .ref rs]) → Q (.ref u) H')
abbrev nJudged : List Str := ["manner", "numbers", "tail", "rest", "number"]
theorem scJudged : FnScope nJudged ["manner", "numbers", "tail", "rest"] (defScope sJudged) := ⟨rfl, rfl, rfl, by decide +kernel, rfl, by decide +kernel, by decide +kernel⟩
theorem ok_judged {f : Addr} {fd : FuncData} (F : Fun K "judged" "judged" sJudged f fd) (T : TxtX K mg) : FnOk P w K mg base CX0 1 f fd ["manner", "numbers", "tail", "rest"] (spJudged K) := by
  refine F.ok scJudged (fun vs H Q E h => ?_) (fun cdv A outer s H vs Q E hr h => ?_)
  · obtain ⟨n, t, rs, a, b, rfl, _⟩ := h
    rfl
  · obtain ⟨n, t, rs, a, b, rfl, hn, k0, k1⟩ := h
    obtain ⟨t1, g1⟩ := T.none1
    obtain ⟨ta, ga⟩ := T.alike
    refine ⟨_, pss_cons (ps_set (i := 4) scJudged.nd rfl (.inl rfl) (pe_ix (r := rIxT K) ix_tup (pv 1) pe_int (fun _ _ => rfl)))
      (pss_cons (ps_if (pt_cmpR op_eq (pv 0) (pe_glob (v := .str "alike") (by rfl) ga ⟨_, rfl⟩) (nomark _)) (pss_one (ps_ret (pe_ifExp (pt_cmpR op_eq (pv 4) (pe_ix (r := rIxT K) ix_tup (pv 1) pe_int (fun _ _ => rfl)) (nomark _)) (pe_tup (pa_cons (pv 2) (pa_cons (pv 3) pa_nil))) pe_non))) pss_nil)
      (pss_cons (ps_if (pt_cmpR op_eq (pv 0) pe_str (nomark _)) (pss_one (ps_ret (pe_ifExp (pt_cmpR (r := rIn K false) op_in_seq (pe_ix (r := rIxT K) ix_tup (pv 2) pe_int (fun _ _ => rfl)) (pe_tup (pa_cons (pe_glob (v := .int (-1)) (by rfl) g1 ⟨_, rfl⟩) (pa_cons (pv 4) pa_nil))) (by rfl)) (pe_tup (pa_cons (pe_tup (pa_cons (pv 4) pa_nil)) (pa_cons (pv 3) pa_nil))) pe_non))) pss_nil)
      (pss_cons (ps_if (pt_cmpR op_eq (pv 0) pe_str (nomark _)) (pss_one (ps_ret (pe_ifExp (pt_cmpR op_le (pe_ix (r := rIxL K) ix_list (pv 3) pe_int (fun _ _ => rfl)) (pv 4) (nomark _)) (pe_tup (pa_cons (pv 2) (pa_cons (pe_tup (pa_cons (pv 4) pa_nil)) pa_nil))) pe_non))) pss_nil)
      (pss_one (ps_ret (pe_ifExp (pt_cmpR (r := rIn K false) op_in_seq (pe_ix (r := rIxL K) ix_list (pv 3) pe_int (fun _ _ => rfl)) (pe_tup (pa_cons (pe_glob (v := .int (-1)) (by rfl) g1 ⟨_, rfl⟩) (pa_cons (pv 4) pa_nil))) (by rfl)) (pe_tup (pa_cons (pv 2) (pa_cons (pe_tup (pa_cons (pv 4) pa_nil)) pa_nil))) pe_non)))))), ?_⟩
    refine ⟨_, rfl, n, _, 0, .int a, rfl, rfl, hn, atI_nat (j := 0) rfl, ?_⟩
    refine ⟨_, rfl, rfl, _, rfl, ?_⟩
    refine ite2 (fun _ => ?_) (fun q => absurd alike_eq q)
    refine ⟨_, rfl, _, rfl, n, _, 1, .int b, rfl, rfl, hn, atI_nat (j := 1) rfl, rfl, _, rfl, ?_⟩
    refine ite2 (fun c => ?_) (fun c => ?_)
    · exact ⟨_, rfl, _, rfl, (by show 2 ≤ sizeLine; decide), fun u nu => k1 (V.int.inj (of_decide_eq_true c)) _ u (same_upd nu) upd_same⟩
    · exact k0 (fun e => c (decide_eq_true (by rw [e])))
/-! ### rest_renumbered -/
def spRestRen (K : PySem.W.Frag) : Sp := fun vs H Q _ => ∃ (rs n d : Addr), vs = [.str "alike", .ref rs, .ref n, .ref d] ∧ Q (.ref rs) H
abbrev nRestRen : List Str := ["manner", "rest", "numbers", "places", "number"]
theorem scRestRen : FnScope nRestRen ["manner", "rest", "numbers", "places"] (defScope sRestRen) := ⟨rfl, rfl, rfl, by decide +kernel, rfl, by decide +kernel, by decide +kernel⟩
theorem alike_no : ¬ (("alike" : Str) ∈ mns) := by decide +kernel
theorem ok_restRen {f : Addr} {fd : FuncData} (F : Fun K "rest_renumbered" "rest_renumbered" sRestRen f fd) (T : TxtX K mg) : FnOk P w K mg base CX0 1 f fd ["manner", "rest", "numbers", "places"] (spRestRen K) := by
  refine F.ok scRestRen (fun vs H Q E h => ?_) (fun cdv A outer s H vs Q E hr h => ?_)
  · obtain ⟨rs, n, d, rfl, _⟩ := h
    rfl
  · obtain ⟨rs, n, d, rfl, k⟩ := h
    obtain ⟨t2, g2⟩ := T.gone
    obtain ⟨pp, gp, hpp⟩ := T.plain
    refine ⟨_, pss_cons (ps_if (pt_cmpR op_eq (pv 0) pe_str (nomark _)) (pss_one (ps_ret (pe_tup (pa_cons (pe_callB call_len_seq (by rfl) T.len PySem.boot_len (pa_cons (pe_lc (own := [("number", 4)]) (g := gName 4) rfl scRestRen.nd (pi_list (pv 2))
          (blkOk_by (N := nRestRen) (sc := defScope sRestRen) (by decide +kernel)) (fun _ _ _ _ _ => pg_name (i := 4) scRestRen.nd rfl (Or.inl rfl)) (fun _ _ _ _ _ => pts_one (pt_cmpR op_lt (pv 4) (pe_ix (r := rIxL K) ix_list (pv 1) pe_int (fun _ _ => rfl)) (nomark _)))
          (fun _ _ _ _ _ => pv 4)) pa_nil)) pa_nil)))) pss_nil)
      (pss_cons (ps_if (pt_cmpR (r := rIn K false) op_in_seq (pv 0) (pe_glob (v := .ref pp) (by rfl) gp rfl) (by rfl)) (pss_one (ps_ret (pe_tup (pa_cons (pe_dget2 (units1 hr) (pv 3) (pe_ix (r := rIxL K) ix_list (pv 1) pe_int (fun _ _ => rfl)) (pe_glob (v := .int (-2)) (by rfl) g2 ⟨_, rfl⟩) ⟨rfl, rfl, rfl, rfl⟩) pa_nil)))) pss_nil)
        (pss_one (ps_ret (pv 1)))), ?_⟩
    refine ⟨_, rfl, rfl, _, rfl, ?_⟩
    refine ite2 (fun q => absurd q (show ¬ decide (V.str ("alike" : Str) = V.str ("forward" : Str)) = true by decide)) (fun _ => ?_)
    refine ⟨_, rfl, pp, _, rfl, .inr (sqT_any hpp), rfl, strs_flat _, _, rfl, ?_⟩
    refine ite2 (fun q => absurd (show inV (.str "alike") (mns.map V.str) = true from q) (by rw [inV_str, decide_eq_false alike_no]; decide)) (fun _ => ?_)
    exact ⟨_, rfl, k⟩
end
end K17

namespace K17
open L2 PySem PySem.Spec PyProof.Rows RZ
abbrev sKb : Stmt := top 21
abbrev sAllT : Stmt := top 22
/-! ### all tuples of numbers -/
def extT (n : Nat) (r : List Int) : List (List Int) := (List.range n).map fun (j : Nat) => r ++ [(j : Int)]
def allT : Nat → Nat → List (List Int)
  | 0, _ => [[]]
  | k + 1, n => (allT k n).flatMap (extT n)
theorem free_of {H H' : Hp} {p : Addr} (s : Same H H') (n : H' p = none) : H p = none := by
  cases e : H p with
  | none => rfl
  | some o => rw [s _ _ e] at n; cases n
theorem small9 {n : Nat} (h : n ≤ 9000) : n < sizeLine := Nat.lt_of_le_of_lt h (by rw [sizeLine_eq]; decide)
theorem extT_len (n : Nat) (r : List Int) : (extT n r).length = n := by
  unfold extT
  rw [List.length_map, List.length_range]
theorem allT_len (n : Nat) : ∀ k, (allT k n).length ≤ n ^ k
  | 0 => Nat.le_refl _
  | k + 1 => by
    have h1 := flat_len (f := extT n) (b := n) (l := allT k n) fun r _ => Nat.le_of_eq (extT_len n r)
    have h2 := Nat.mul_le_mul_right n (allT_len n k)
    rw [Nat.pow_succ]
    exact Nat.le_trans h1 h2
theorem allT_625 {k n : Nat} (hk : k ≤ 4) (hn : n ≤ 5) : (allT k n).length ≤ 625 := by
  refine Nat.le_trans (allT_len n k) ?_
  have h1 : n ^ k ≤ 5 ^ k := Nat.pow_le_pow_left hn k
  have h2 : 5 ^ k ≤ 5 ^ 4 := Nat.pow_le_pow_right (by decide) hk
  exact Nat.le_trans h1 h2
theorem mem_allT {n : Nat} : ∀ {k : Nat} {xs : List Int}, xs ∈ allT k n ↔ xs.length = k ∧ ∀ x ∈ xs, 0 ≤ x ∧ x < n
  | 0, xs => by
    constructor
    · intro h
      rw [List.mem_singleton.mp h]
      exact ⟨rfl, fun x hx => (List.not_mem_nil hx).elim⟩
    · rintro ⟨h, _⟩
      exact List.mem_singleton.mpr (List.eq_nil_of_length_eq_zero h)
  | k + 1, xs => by
    show xs ∈ (allT k n).flatMap (extT n) ↔ _
    rw [List.mem_flatMap]
    constructor
    · rintro ⟨r, hr, hx⟩
      obtain ⟨j, hj, rfl⟩ := List.mem_map.mp hx
      obtain ⟨h1, h2⟩ := mem_allT.mp hr
      refine ⟨by rw [List.length_append, h1]; rfl, fun x hx => ?_⟩
      rcases List.mem_append.mp hx with q | q
      · exact h2 x q
      · rw [List.mem_singleton.mp q]
        have := List.mem_range.mp hj
        omega
    · rintro ⟨h1, h2⟩
      rcases List.eq_nil_or_concat xs with e | ⟨r, x, e⟩
      · rw [e] at h1
        cases h1
      · rw [List.concat_eq_append] at e
        subst e
        rw [List.length_append] at h1
        have hx := h2 x (by simp)
        refine ⟨r, mem_allT.mpr ⟨Nat.succ.inj h1, fun y hy => h2 y (List.mem_append_left _ hy)⟩, List.mem_map.mpr ⟨x.toNat, List.mem_range.mpr (by omega), ?_⟩⟩
        rw [Int.toNat_of_nonneg hx.1]
section
variable {base : Heap} {P : Program} {w : World} {K : PySem.W.Frag} {mg : Str → Option Value}
def TsAt (K : PySem.W.Frag) (H : Hp) : List Addr → List (List Int) → Prop := Paired fun t r => SqT K H t (intV r)
theorem TsAt.same {H H' : Hp} {ts : List Addr} {rs : List (List Int)} (h : TsAt K H ts rs) (s : Same H H') : TsAt K H' ts rs := paired_mono (fun _ _ z => sqT_same s z) h
def spAllT (K : PySem.W.Frag) : Sp := fun vs H Q _ => ∃ (k n : Nat), vs = [.int (k : Int), .int (n : Int)] ∧ k ≤ 4 ∧ n ≤ 5 ∧ ∀ H' p ts, Same H H' → H p = none → H' p = some (.lst (ts.map V.ref)) → TsAt K H' ts (allT k n) → Q (.ref p) H'
abbrev nAllT : List Str := ["many", "size", "rows", "_", "row", "number"]
theorem scAllT : FnScope nAllT ["many", "size"] (defScope sAllT) := ⟨rfl, rfl, rfl, by decide +kernel, rfl, by decide +kernel, by decide +kernel⟩
theorem intV_snoc (r : List Int) (x : Int) : intV r ++ [V.int x] = intV (r ++ [x]) := by
  unfold intV
  rw [List.map_append]
  rfl
theorem ok_allT {f : Addr} {fd : FuncData} (F : Fun K "all_tuples" "all_tuples" sAllT f fd) (T : TxtX K mg) : FnOk P w K mg base CX0 1 f fd ["many", "size"] (spAllT K) := by
  refine F.ok scAllT (fun vs H Q E h => ?_) (fun cdv A outer s H vs Q E hr h => ?_)
  · obtain ⟨k, n, rfl, _⟩ := h
    rfl
  · obtain ⟨k, n, rfl, hk, hn, kk⟩ := h
    refine ⟨_, pss_cons (ps_set (i := 2) scAllT.nd rfl (.inl rfl) (pe_lst (pa_cons (pe_tup pa_nil) pa_nil)))
      (pss_cons (ps_for PassesOwn.never rfl (pi_range1 (by rfl) T.range (pa_cons (pv 0) pa_nil)) (pg_name (i := 3) scAllT.nd rfl (.inl rfl))
        (pss_one (ps_setLc2 (i := 2) (own := [("row", 4), ("number", 5)]) (vs1 := [5]) (g := gName 4) (g1 := gName 5) (tt := tYes) (tt1 := tYes) (wi1 := iRng1 (tCons (tVar 1) tNil)) (te := tTup (StX.tStar K (tVar 4) (tCons (tVar 5) tNil))) rfl scAllT.nd rfl rfl rfl (pi_list (pv 2))
          (blkOk_by (N := nAllT) (sc := defScope sAllT) (by decide +kernel)) (by decide) (fun _ _ _ _ _ => pg_name (i := 4) scAllT.nd rfl (Or.inl rfl)) (fun _ _ _ _ _ => pts_nil) (fun _ _ _ _ _ => pi_range1 (by rfl) T.range (pa_cons (pv 1) pa_nil))
          (fun _ _ _ _ _ => pg_name (i := 5) scAllT.nd rfl (Or.inl rfl)) (fun _ _ _ _ _ => pts_nil) (fun _ _ _ _ _ => pe_tup (StX.pa_star (pv 4) (pa_cons (pv 5) pa_nil))))))
      (pss_one (ps_ret (pv 2)))), ?_⟩
    refine ⟨(by show 0 ≤ sizeLine; exact Nat.zero_le _), fun e ne => ⟨(by show 1 ≤ sizeLine; decide), fun R nR => ?_⟩⟩
    have s1 := same_upd (o := .tup []) ne
    have s2 := same_upd (o := .lst [.ref e]) nR
    have he : (upd (upd H e (.tup [])) R (.lst [.ref e])) e = some (.tup (intV [])) := s2 _ _ upd_same
    have hR : (upd (upd H e (.tup [])) R (.lst [.ref e])) R = some (.lst [.ref e]) := upd_same
    have s12 := s1.trans s2
    generalize (upd (upd H e (.tup [])) R (.lst [.ref e])) = H1 at s12 he hR
    refine ⟨_, rfl, _, rfl, by omega, by omega, ?_⟩
    refine for_range (lo := 0) (n := ((k : Nat) : Int).toNat) (fun i σ H' => Same H H' ∧ ∃ b p ts, σ = [some (.int (k : Int)), some (.int (n : Int)), some (.ref p), b, none, none] ∧ H p = none ∧ H' p = some (.lst (ts.map V.ref)) ∧ TsAt K H' ts (allT i n)) ⟨s12, _, R, [e], rfl, free_of s1 nR, hR, .cons (SqT.of he) .nil⟩ ?_ ?_
    · rintro i σ H2 hi ⟨s3, b, p, ts, rfl, fp, hp, pts⟩
      have hi' : i < k := by omega
      have lt : ts.length = (allT i n).length := Paired.length pts
      have l625 := allT_625 (k := i) (n := n) (by omega) hn
      refine ⟨_, rfl, p, rfl, ⟨_, SqL.of hp⟩, fun D nD => ?_⟩
      -- the rows made anew
      have flen : ∀ a, ((((allT i n).take a).flatMap (extT n)).length) ≤ 3125 := fun a => by
        have h1 := flat_len (f := extT n) (b := n) (l := (allT i n).take a) fun r _ => Nat.le_of_eq (extT_len n r)
        have h2 : ((allT i n).take a).length ≤ 625 := by rw [List.length_take]; omega
        have h3 : ((allT i n).take a).length * n ≤ 625 * 5 := Nat.mul_le_mul h2 hn
        omega
      refine ⟨fun a mm H3 => mm = ts.length - a ∧ a ≤ ts.length ∧ Same H2 H3 ∧ ∃ us : List Addr, H3 D = some (.lst (us.map V.ref)) ∧ TsAt K H3 us (((allT i n).take a).flatMap (extT n)), ⟨_, rfl, Nat.zero_le _, same_upd nD, [], upd_same, .nil⟩, ?_⟩
      rintro a mm H3 ⟨rfl, ha, s4, us, hD, pus⟩
      by_cases hlt : a < ts.length
      · obtain ⟨r, hr⟩ : ∃ r, (allT i n)[a]? = some r := ⟨_, List.getElem?_eq_getElem (by omega)⟩
        obtain ⟨t, ht, htr⟩ := paired_get' pts hr
        refine .inr ⟨⟨_, .ref t, SqL.of (s4 _ _ hp), by rw [List.getElem?_map, ht]; rfl⟩, fun H' => Same H2 H' ∧ ∃ us : List Addr, H' D = some (.lst (us.map V.ref)) ∧ TsAt K H' us (((allT i n).take (a + 1)).flatMap (extT n)), fun H' ⟨q1, q2⟩ => ⟨_, by omega, rfl, hlt, q1, q2⟩, fun x H' y => ?_⟩
        obtain ⟨ey, y⟩ := y
        subst ey
        have y' := y _ (SqL.of (s4 _ _ hp))
        rw [List.getElem?_map, ht] at y'
        cases y'
        refine ⟨rfl, ?_⟩
        refine ⟨_, rfl, _, rfl, by omega, by omega, ?_⟩
        refine ⟨fun j mm H4 => mm = n - j ∧ j ≤ n ∧ Same H2 H4 ∧ ∃ us : List Addr, H4 D = some (.lst (us.map V.ref)) ∧ TsAt K H4 us (((allT i n).take a).flatMap (extT n) ++ (extT n r).take j), ⟨_, rfl, Nat.zero_le _, s4, us, hD, by rw [List.take_zero, List.append_nil]; exact pus⟩, ?_⟩
        rintro j mm H4 ⟨rfl, hj, s5, us4, hD4, pus4⟩
        have nn : ((n : Nat) : Int).toNat = n := by omega
        by_cases hjl : j < n
        · refine .inr ⟨(by show j < ((n : Nat) : Int).toNat; omega), fun H' => Same H2 H' ∧ ∃ us : List Addr, H' D = some (.lst (us.map V.ref)) ∧ TsAt K H' us (((allT i n).take a).flatMap (extT n) ++ (extT n r).take (j + 1)), fun H' ⟨q1, q2⟩ => ⟨_, by omega, rfl, hjl, q1, q2⟩, fun x H' y => ?_⟩
          obtain ⟨ey, ex⟩ := y
          subst ey ex
          refine ⟨rfl, ?_⟩
          refine ⟨_, rfl, t, _, rfl, .inl (sqT_same (s5) htr), _, rfl, ?_, fun q nq => ?_⟩
          · have := mem_allT.mp (List.mem_of_getElem? hr)
            rw [List.length_append]
            unfold intV
            rw [List.length_map, this.1]
            exact Nat.le_of_lt (small1000 (by show i + 1 ≤ 1000; omega))
          · have s6 := same_upd (o := .tup (intV r ++ [.int (0 + (j : Int))])) nq
            have lu : us4.length ≤ 4000 := by
              have h1 := Paired.length pus4
              rw [List.length_append, List.length_take, extT_len] at h1
              have := flen a
              omega
            refine ⟨_, s6 _ _ hD4, by rw [List.length_map]; exact small9 (by omega), same_new (s5.trans s6) nD, us4 ++ [q], by rw [upd_same, List.map_append]; rfl, ?_⟩
            have e1 : (extT n r)[j]? = some (r ++ [(j : Int)]) := by
              unfold extT
              rw [List.getElem?_map, List.getElem?_range hjl]
              rfl
            rw [take_snoc e1, ← List.append_assoc]
            refine paired_snoc (paired_mono (fun _ _ z => sqT_wr (sqT_same s6 z) (s6 _ _ hD4)) pus4) (sqT_wr (SqT.of ?_) (s6 _ _ hD4))
            rw [upd_same, intV_snoc, Int.zero_add]
        · have ej : j = n := by omega
          subst ej
          refine .inl ⟨(by show ((j : Nat) : Int).toNat ≤ j; omega), s5, us4, hD4, ?_⟩
          rw [take_snoc hr, List.flatMap_append, List.flatMap_cons, List.flatMap_nil, List.append_nil]
          have e9 : (extT j r).take j = extT j r := List.take_of_length_le (by rw [extT_len]; exact Nat.le_refl _)
          rw [e9] at pus4
          exact pus4
      · have ea : a = ts.length := by omega
        subst ea
        refine .inl ⟨⟨_, SqL.of (s4 _ _ hp), by rw [List.length_map]; exact Nat.le_refl _⟩, s3.trans s4, _, D, us, rfl, free_of s3 nD, hD, ?_⟩
        rw [List.take_of_length_le (by omega)] at pus
        exact pus
    · rintro σ H2 ⟨s3, b, p, ts, rfl, fp, hp, pts⟩
      have e : ((k : Nat) : Int).toNat = k := by omega
      rw [e] at pts
      exact ⟨_, rfl, kk H2 p ts s3 fp hp pts⟩
end
end K17

namespace K17
open L2 PySem PySem.Spec PyProof.Rows RZ
section
variable {base : Heap} {P : Program} {w : World} {K : PySem.W.Frag} {mg : Str → Option Value}
/-! ### kept_beginnings -/
def KbAt (K : PySem.W.Frag) (H : Hp) : List Addr → List (List Int × Nat) → Prop := Paired fun t q => ∃ kt : Addr, SqT K H t [.ref kt, .int (q.2 : Int)] ∧ SqT K H kt (intV q.1)
theorem KbAt.same {H H' : Hp} {ts : List Addr} {rs : List (List Int × Nat)} (h : KbAt K H ts rs) (s : Same H H') : KbAt K H' ts rs := paired_mono (fun _ _ ⟨kt, a, b⟩ => ⟨kt, sqT_same s a, sqT_same s b⟩) h
theorem KbAt.wr {H : Hp} {ts : List Addr} {rs : List (List Int × Nat)} {D : Addr} {zs : List V} {o : HO} (h : KbAt K H ts rs) (hD : H D = some (.lst zs)) : KbAt K (upd H D o) ts rs := paired_mono (fun _ _ ⟨kt, a, b⟩ => ⟨kt, sqT_wr a hD, sqT_wr b hD⟩) h
def KbAll (k : Nat) (rows : List (List Int × Nat)) : Prop := (∀ q ∈ rows, KbOk k q.1 q.2 ∧ q.2 ≤ k) ∧ ∀ kept now, KbOk k kept now → now ≤ k → (kept, now) ∈ rows
def bd : Nat → Nat
  | 0 => 0
  | 1 => 1
  | 2 => 17
  | 3 => 98
  | 4 => 354
  | _ => 979
theorem bd_step {k i : Nat} (hk : k ≤ 4) (hi : i ≤ 4) : (allT k (i + 1)).length + bd i ≤ bd (i + 1) := by
  have h1 := allT_len (i + 1) k
  have h2 : (i + 1) ^ k ≤ (i + 1) ^ 4 := Nat.pow_le_pow_right (by omega) hk
  match i, hi, h1, h2 with
  | 0, _, h1, h2 => simp only [bd] at *; omega
  | 1, _, h1, h2 => simp only [bd] at *; omega
  | 2, _, h1, h2 => simp only [bd] at *; omega
  | 3, _, h1, h2 => simp only [bd] at *; omega
  | 4, _, h1, h2 => simp only [bd] at *; omega
theorem bd_le (i : Nat) : bd i ≤ 979 := by
  match i with
  | 0 => decide
  | 1 => decide
  | 2 => decide
  | 3 => decide
  | 4 => decide
  | _ + 5 => exact Nat.le_refl 979
def spKb (K : PySem.W.Frag) : Sp := fun vs H Q _ => ∃ (k : Nat), vs = [.int (k : Int)] ∧ k ≤ 4 ∧ ∀ H' p ts rows, Same H H' → H p = none → H' p = some (.lst (ts.map V.ref)) → KbAt K H' ts rows → KbAll k rows → rows.length ≤ 979 → Q (.ref p) H'
abbrev nKb : List Str := ["many", "rows", "present", "kept", "number"]
theorem scKb : FnScope nKb ["many"] (defScope sKb) := ⟨rfl, rfl, rfl, by decide +kernel, rfl, by decide +kernel, by decide +kernel⟩
theorem inV_int (z : Int) : ∀ l : List Int, inV (.int z) (intV l) = decide (z ∈ l)
  | [] => rfl
  | a :: l => by
    show ((a == z) || inV (.int z) (intV l)) = _
    rw [inV_int z l, Bool.eq_iff_iff, Bool.or_eq_true, beq_iff_eq]
    simp only [decide_eq_true_eq, List.mem_cons]
    exact ⟨fun h => h.elim (fun e => .inl e.symm) .inr, fun h => h.elim (fun e => .inl e.symm) .inr⟩
theorem intV_flat (l : List Int) : (intV l).all flatV = true := by
  unfold intV
  rw [List.all_map]
  exact List.all_eq_true.mpr fun _ _ => rfl
def fullB (kept : List Int) (i : Nat) : List Bool := (List.range i).map fun (x : Nat) => decide (((x : Nat) : Int) ∈ kept)
theorem full_iff {kept : List Int} {i : Nat} : (fullB kept i).all id = true ↔ ∀ x, x < i → ((x : Nat) : Int) ∈ kept := by
  unfold fullB
  rw [List.all_map, List.all_eq_true]
  constructor
  · intro h x hx
    exact of_decide_eq_true (h x (List.mem_range.mpr hx))
  · intro h x hx
    exact decide_eq_true (h x (List.mem_range.mp hx))
theorem fullB_succ (kept : List Int) (i : Nat) : fullB kept (i + 1) = fullB kept i ++ [decide (((i : Nat) : Int) ∈ kept)] := by
  unfold fullB
  rw [List.range_succ, List.map_append]
  rfl
theorem kb_iff {k : Nat} {kept : List Int} {now : Nat} : KbOk k kept now ↔ kept ∈ allT k (now + 1) ∧ ∀ x, x < now → ((x : Nat) : Int) ∈ kept := by
  rw [mem_allT]
  constructor
  · rintro ⟨h1, h2, h3⟩
    exact ⟨⟨h1, fun x hx => by have := h2 x hx; omega⟩, h3⟩
  · rintro ⟨⟨h1, h2⟩, h3⟩
    exact ⟨h1, fun x hx => by have := h2 x hx; omega, h3⟩
theorem ok_kb {f : Addr} {fd : FuncData} (F : Fun K "kept_beginnings" "kept_beginnings" sKb f fd) (T : TxtX K mg) (GA : Has P w K mg base "all_tuples" 1 ["many", "size"] (spAllT K)) : FnOk P w K mg base CX0 2 f fd ["many"] (spKb K) := by
  refine F.ok scKb (fun vs H Q E h => ?_) (fun cdv A outer s H vs Q E hr h => ?_)
  · obtain ⟨k, rfl, _⟩ := h
    rfl
  · obtain ⟨k, rfl, hk, kk⟩ := h
    refine ⟨_, pss_cons (ps_set (i := 1) scKb.nd rfl (.inl rfl) (pe_lst pa_nil))
      (pss_cons (ps_for PassesOwn.never rfl (pi_range1 (by rfl) T.range (pa_cons (pe_op op_add (pv 0) pe_int) pa_nil)) (pg_name (i := 2) scKb.nd rfl (.inl rfl))
        (pss_one (ps_for PassesOwn.never rfl (pi_list (pe_has GA hr (pa_cons (pv 0) (pa_cons (pe_op op_add (pv 2) pe_int) pa_nil)))) (pg_name (i := 3) scKb.nd rfl (.inr rfl))
          (pss_one (ps_if (pt_val (pe_callB (cr_all rfl) (by rfl) T.all (by decide +kernel) (pa_cons (pe_lc (own := [("number", 4)]) (g := gName 4) (tt := tYes) rfl scKb.nd (pi_range1 (by rfl) T.range (pa_cons (pv 2) pa_nil))
              (blkOk_by (N := nKb) (sc := defScope sKb) (by decide +kernel)) (fun _ _ _ _ _ => pg_name (i := 4) scKb.nd rfl (Or.inl rfl)) (fun _ _ _ _ _ => pts_nil)
              (fun _ _ _ _ _ => pe_cmpR (r := rIn K false) op_in_seq (pv 4) (pv 3) (by rfl))) pa_nil)))
            (pss_one (ps_expr (pe_bm PySem.F.plainAttrs_list PySem.F.slot_list_append PySem.F.type_list_append mt_append (pv 1) (pa_cons (pe_tup (pa_cons (pv 3) (pa_cons (pv 2) pa_nil))) pa_nil)))) pss_nil)))))
      (pss_one (ps_ret (pv 1)))), ?_⟩
    refine ⟨(by show 0 ≤ sizeLine; exact Nat.zero_le _), fun R nR => ?_⟩
    refine ⟨_, rfl, _, _, rfl, rfl, _, rfl, by omega, by omega, ?_⟩
    have nn : ((k : Int) + 1).toNat = k + 1 := by omega
    refine for_range (lo := 0) (n := ((k : Int) + 1).toNat) (fun i σ H' => Same H H' ∧ (∃ b c, σ = [some (.int (k : Int)), some (.ref R), b, c, none]) ∧ ∃ ts rows, H' R = some (.lst (ts.map V.ref)) ∧ KbAt K H' ts rows ∧ rows.length ≤ bd i ∧ (∀ q ∈ rows, KbOk k q.1 q.2 ∧ q.2 ≤ k) ∧ ∀ kept now, KbOk k kept now → now < i → (kept, now) ∈ rows)
      ⟨same_upd nR, ⟨_, _, rfl⟩, [], [], upd_same, .nil, Nat.zero_le _, fun q hq => (List.not_mem_nil hq).elim, fun kept now _ h => absurd h (Nat.not_lt_zero _)⟩ ?_ ?_
    · rintro i σ H1 hi ⟨s1, ⟨b, c, rfl⟩, ts, rows, hR, pr, lr, h1, h2⟩
      have hi' : i ≤ k := by omega
      refine ⟨_, rfl, _, rfl, _, _, rfl, rfl, k, i + 1, by rw [Int.zero_add]; rfl, hk, by omega, fun H2 p us s2 fp hp pus => ?_⟩
      have l625 := allT_625 (k := k) (n := i + 1) hk (by omega)
      have lus : us.length = (allT k (i + 1)).length := Paired.length pus
      refine ⟨p, rfl, ⟨_, SqL.of hp⟩, ?_⟩
      have np : p ≠ R := fun e => by
        rw [e, hR] at fp
        cases fp
      refine for_list (K := K) (xs := us.map V.ref) (fun j σ H' => Same H H' ∧ H' p = some (.lst (us.map V.ref)) ∧ TsAt K H' us (allT k (i + 1)) ∧ (∃ c, σ = [some (.int (k : Int)), some (.ref R), some (.int (0 + (i : Int))), c, none]) ∧ ∃ ts rows, H' R = some (.lst (ts.map V.ref)) ∧ KbAt K H' ts rows ∧ rows.length ≤ bd i + j ∧ (∀ q ∈ rows, KbOk k q.1 q.2 ∧ q.2 ≤ k) ∧ (∀ kept now, KbOk k kept now → now < i → (kept, now) ∈ rows) ∧ ∀ kept ∈ (allT k (i + 1)).take j, KbOk k kept i → (kept, i) ∈ rows)
        ⟨s1.trans s2, hp, pus, ⟨_, rfl⟩, ts, rows, s2 _ _ hR, pr.same s2, by omega, h1, h2, fun kept h => by rw [List.take_zero] at h; exact (List.not_mem_nil h).elim⟩ (fun j σ H' _ q => SqL.of q.2.1) ?_ ?_
      · rintro j x σ H3 hx ⟨s3, hp3, pus3, ⟨c3, rfl⟩, ts3, rows3, hR3, pr3, lr3, g1, g2, g3⟩
        rw [List.getElem?_map] at hx
        obtain ⟨t, ht, rfl⟩ := Option.map_eq_some_iff.mp hx
        obtain ⟨kept, hk1, hk2⟩ := paired_get pus3 ht
        have jl := (List.getElem?_eq_some_iff.mp ht).1
        dsimp only [tCB, tCons, tNil, tLc, List.map]
        refine ⟨_, rfl, _, rfl, by omega, by omega, fun D nD => ?_⟩
        refine lc_range (lo := 0) (n := ((0 : Int) + (i : Int)).toNat) (fun x H' => Same H3 H' ∧ H' D = some (.lst ((fullB kept x).map V.bl))) ⟨same_upd nD, upd_same⟩ ?_ ?_
        · rintro x H4 hx4 ⟨s4, hD⟩
          refine ⟨rfl, _, rfl, _, rfl, t, _, rfl, .inr (sqT_same s4 hk2), rfl, intV_flat _, _, hD, ?_, same_new s4 nD, ?_⟩
          · unfold fullB
            rw [List.length_map, List.length_map, List.length_range]
            exact small1000 (by omega)
          · rw [upd_same, fullB_succ, List.map_append]
            show some (HO.lst (_ ++ [V.bl (inV (.int (0 + (x : Int))) (intV kept))])) = _
            rw [inV_int, Int.zero_add]
            rfl
        · rintro H4 ⟨s4, hD⟩
          refine ⟨D, _, rfl, SqL.of hD, ?_⟩
          have ei : ((0 : Int) + (i : Int)).toNat = i := by omega
          rw [ei]
          have s34 := s3.trans s4
          have mem : kept ∈ allT k (i + 1) := List.mem_of_getElem? hk1
          have e3 : (allT k (i + 1)).take (j + 1) = (allT k (i + 1)).take j ++ [kept] := take_snoc hk1
          refine ⟨_, rfl, ?_⟩
          refine ite2 (fun c => ?_) (fun c => ?_)
          · have kb : KbOk k kept i := kb_iff.mpr ⟨mem, full_iff.mp c⟩
            refine ⟨_, rfl, .inl ⟨rfl, _, SqL.of (s4 _ _ hR3)⟩, _, rfl, _, rfl, (by show 2 ≤ sizeLine; decide), fun u nu => ?_⟩
            have s5 := same_upd (o := .tup [.ref t, .int (0 + (i : Int))]) nu
            have lts : ts3.length = rows3.length := Paired.length pr3
            have s45 := s4.trans s5
            refine ⟨R, _, _, rfl, rfl, s45 _ _ hR3, ?_, ?_⟩
            · rw [List.length_map, lts]
              have := bd_le i
              exact small9 (by omega)
            · refine ⟨same_new (s34.trans s5) nR, by rw [upd_ne np]; exact s45 _ _ hp3, paired_mono (fun _ _ z => sqT_wr (sqT_same s45 z) (s45 _ _ hR3)) pus3, ⟨_, rfl⟩, ts3 ++ [u], rows3 ++ [(kept, i)], by rw [upd_same, List.map_append]; rfl, ?_, ?_, fun q hq => ?_, fun kp nw a b => List.mem_append_left _ (g2 kp nw a b), fun kp h a => ?_⟩
              · refine paired_snoc (KbAt.wr (pr3.same s45) (s45 _ _ hR3)) ⟨t, sqT_wr (SqT.of ?_) (s45 _ _ hR3), sqT_wr (sqT_same s45 hk2) (s45 _ _ hR3)⟩
                rw [upd_same, Int.zero_add]
              · rw [List.length_append]
                show rows3.length + 1 ≤ _
                omega
              · rcases List.mem_append.mp hq with z | z
                · exact g1 q z
                · rw [List.mem_singleton.mp z]
                  exact ⟨kb, hi'⟩
              · rw [e3] at h
                rcases List.mem_append.mp h with z | z
                · exact List.mem_append_left _ (g3 kp z a)
                · rw [List.mem_singleton.mp z]
                  exact List.mem_append_right _ (List.mem_singleton.mpr rfl)
          · refine ⟨s34, s4 _ _ hp3, pus3.same s4, ⟨_, rfl⟩, ts3, rows3, s4 _ _ hR3, pr3.same s4, by omega, g1, g2, fun kp h a => ?_⟩
            rw [e3] at h
            rcases List.mem_append.mp h with z | z
            · exact g3 kp z a
            · rw [List.mem_singleton.mp z] at a
              exact absurd (full_iff.mpr (kb_iff.mp a).2) c
      · rintro σ H3 ⟨s3, hp3, pus3, ⟨c3, rfl⟩, ts3, rows3, hR3, pr3, lr3, g1, g2, g3⟩
        rw [List.length_map, lus, List.take_length] at g3
        refine ⟨s3, ⟨_, _, rfl⟩, ts3, rows3, hR3, pr3, ?_, g1, fun kp nw a b => ?_⟩
        · rw [List.length_map, lus] at lr3
          have := bd_step (k := k) (i := i) hk (by omega)
          omega
        · rcases Nat.lt_or_ge nw i with q | q
          · exact g2 kp nw a q
          · obtain rfl : nw = i := by omega
            exact g3 kp (kb_iff.mp a).1 a
    · rintro σ H1 ⟨s1, ⟨b, c, rfl⟩, ts, rows, hR, pr, lr, h1, h2⟩
      rw [nn] at lr h2
      have := bd_le (k + 1)
      exact ⟨_, rfl, kk H1 R ts rows s1 nR hR pr ⟨h1, fun kept now a b => h2 kept now a (by omega)⟩ (by omega)⟩
end
end K17

/-! a, b, .., *rest = t, the starred name last: rest a new list -/
namespace PySem.W
open PySem PySem.Spec PySem.Calls PyProof.Rows
/-- what comes of a tuple when the last of n targets is starred -/
theorem star_last {prog : Program} {w : World} {A : Around} {E : Value → Shared → Prop} {s : Shared} {l : Addr} {items : Array Value} {i : Nat} {Q : List Value → Shared → Prop} (hh : A.handled = none) (hl : IsTup s.heap l items) (hi : i ≤ items.size) (hz : items.size ≤ 16384)
    (h : ∀ (h' : Heap) (tk : Nat), (∀ b o, s.heap.get? b = some o → h'.get? b = some o) → Q (items.toList.take i ++ [.ref h'.objs.size] ++ []) { s with heap := h'.push { cls := .type "list", data := .seq (items.toList.drop i).toArray }, toks := tk }) :
    wpAny (model prog w) A (unpackItems (.ref l) (i + 1) (some i)) Q E s := by
  have low : l < s.heap.objs.size := let ⟨_, ho, _⟩ := hl; Heap.lt_size ho
  have ne : l ≠ s.heap.objs.size := Nat.ne_of_lt low
  unfold unpackItems notIterableAtAll
  refine wpAny_bind (wpAny_bind (wpAny_specialOf hl.typeIs slot_tuple_iter.lookup (wpAny_pure ?_)))
  simp only [Bool.false_eq_true, if_false]
  refine wpAny_bind (wpAny_holding (iter_tuple hl ?_))
  refine wpAny_bind (wpAny_holding (draw_tuple ne i 0 _ _ ⟨_, Heap.get?_push_size _ rfl, rfl, rfl⟩ (hl.push _) (by omega) fun h1 it1 sb1 => ?_))
  have l1 : IsTup h1 l items := (hl.push _).extBut sb1.extBut ne
  rw [Nat.zero_add] at it1
  obtain ⟨oi, hoi, _⟩ := id it1
  obtain ⟨ol, hol, _⟩ := id l1
  have fl : (items.toList.take i).length = i := by rw [List.length_take, Array.length_toList]; omega
  rw [List.drop_zero, if_neg (by rw [fl]; omega)]
  refine wpAny_bind (wpAny_holding (kun_collect (s := { s with heap := h1 }) (T := "tuple_iterator") (.inr (.inr (.inr rfl))) (Walks.tuple (A := A.in1) hh s.heap.objs.size l ne items) (fun j u st => st.1.typeIs) (k := i) hi ⟨it1, l1⟩ (Heap.lt_size hoi) (Heap.lt_size hol) (fun h2 tk hk => ?_) (by rw [sizeLine_eq]; omega)))
  have rl : (items.toList.drop i).length = items.size - i := by rw [List.length_drop, Array.length_toList]
  have z : i + 1 - 1 - i = 0 := by omega
  rw [z]
  show wpAny _ _ (if (items.toList.drop i).length < 0 then _ else _) _ _ _
  rw [if_neg (Nat.not_lt_zero _)]
  show wpAny _ _ (newList ((items.toList.drop i).take ((items.toList.drop i).length - 0)) >>= fun d => pure (items.toList.take i ++ [d] ++ (items.toList.drop i).drop ((items.toList.drop i).length - 0))) _ _ _
  rw [Nat.sub_zero, List.take_length, List.drop_length]
  have keep : ∀ b o, s.heap.get? b = some o → h2.get? b = some o := fun b o e => hk b o (Nat.ne_of_lt (Heap.lt_size e)) (sb1.extBut b o (Nat.ne_of_lt (Heap.lt_size e)) (Heap.get?_push_of_some _ e))
  exact wpAny_bind (wpAny_newList (wpAny_pure (h h2 tk keep)) (by rw [rl, sizeLine_eq]; omega))
end PySem.W
namespace L2
open PySem PySem.Spec PyProof.Rows
section
variable {X : Cx} {pos : Pos}
theorem pgs_star {e : Expr} {p : Pos} {es : List Expr} {t : TG} {u : TGs} (h1 : PG X e t) (h2 : PGs X es u)
    (hs : (assignEach (.Starred e p :: es) X.env).map (·.2) = assign e X.env :: (assignEach es X.env).map (·.2) := by rfl) : PGs X (.Starred e p :: es) (gCons t u) := by
  refine ⟨fun pins s σ H vs us Q I r h => ?_⟩
  obtain ⟨v, vr, rfl, h⟩ := h
  cases r with
  | cons r rr =>
    rw [hs]
    exact assignInOrder_cons (thn (h1.run pins s σ H _ _ _ I r h) fun _ s1 ⟨σ1, H1, I1, q1⟩ => h2.run pins s1 σ1 H1 _ _ Q I1 rr q1)
/-- i names, then a starred one -/
def gStar (K : PySem.W.Frag) (i : Nat) (t : TGs) : TG := fun v σ H Q => ∃ a xs, v = .ref a ∧ SqT K H a xs ∧ i ≤ xs.length ∧ xs.length ≤ 1000 ∧ ∀ D, H D = none → t (xs.take i ++ [.ref D]) σ (upd H D (.lst (xs.drop i))) Q
theorem pg_star {es : List Expr} {k : Nat} {t : TGs} {i : Nat} (hc : X.calm = true) (h : PGs X es t) (hn : (assignEach es X.env).length = i + 1 := by rfl) (hst : (assignEach es X.env).findIdx? (·.1) = some i := by rfl) : PG X (.Tuple es k pos) (gStar X.K i t) := by
  refine ⟨fun pins s σ H v u Q I r hw => ?_⟩
  obtain ⟨a, xs, rfl, hq, hi, hl, hw⟩ := hw
  cases r
  obtain ⟨its, rv, ht, hz⟩ := I.tuple hq
  have e := rv.length
  rw [assign_Tuple]
  refine wpAny_bind (wpAny_standAt ?_)
  unfold unpack
  rw [hn, hst]
  refine wpAny_bind (wpAny_holding (PySem.W.star_last (I.ok.hd hc) ht (by rw [List.size_toArray]; omega) (by rw [List.size_toArray]; omega) fun h' tk keep => ?_))
  have I1 : Inv X pins σ H { s with heap := h', toks := tk } := I.kept (t' := tk) keep
  have nD : H h'.objs.size = none := I1.hok.fresh (Nat.le_refl _)
  have I2 : Inv X pins σ (upd H h'.objs.size (.lst (xs.drop i))) { s with heap := h'.push { cls := .type "list", data := .seq (its.drop i).toArray }, toks := tk } :=
    I1.laid (t' := tk) (fun b o e => Heap.get?_push_of_some _ e) (Nat.le_refl _) ⟨by rw [List.length_drop]; exact Nat.le_trans (Nat.sub_le _ _) hz, its.drop i, 0, rv.drop i, Heap.get?_push_size _ rfl⟩
  refine h.run pins _ σ _ (xs.take i ++ [.ref h'.objs.size]) _ Q I2 ?_ (hw _ nD)
  have q : Vals (xs.take i ++ [V.ref h'.objs.size]) (its.take i ++ [Value.ref h'.objs.size]) := (rv.take i).append (.cons rfl .nil)
  simpa using q
end
end L2

namespace K17
open L2 PySem PySem.Spec PyProof.Rows RZ
abbrev sWInit : Stmt := inClass (top 44) 0
abbrev sWStarts : Stmt := inClass (top 44) 1
def pwf (r : Addr) (m : Str) (d q : Addr) : List (Str × V) := putF "quiet_events" (.ref q) (putF "doors" (.ref d) (putF "aim" (.str m) (putF "road" (.ref r) [])))
structure WalkT (K : PySem.W.Frag) (mg : Str → Option Value) (C : Addr) : Prop where
  cl : Cls K C
  gW : mg "PlanWalk" = some (.ref C)
  n1 : NoAttr K C "road"
  n2 : NoAttr K C "aim"
  n3 : NoAttr K C "doors"
  n4 : NoAttr K C "quiet_events"
def EvT (H : Hp) (t : Addr) (e : Ev) : Prop := H t = some (.tup [.str (evW e), .int (evP e)])
def EvsAt (H : Hp) (ts : List Addr) (es : List Ev) : Prop := Paired (EvT H) ts es
theorem EvsAt.same {H H' : Hp} {ts : List Addr} {es : List Ev} (h : EvsAt H ts es) (s : Same H H') : EvsAt H' ts es := paired_mono (fun _ _ z => s _ _ z) h
theorem EvsAt.wr {H : Hp} {ts : List Addr} {es : List Ev} {D : Addr} {zs : List V} {o : HO} (h : EvsAt H ts es) (hD : H D = some (.lst zs)) : EvsAt (upd H D o) ts es :=
  paired_mono (fun t _ z => by
    have z' : H t = _ := z
    show upd H D o t = _
    rw [upd_ne (fun e => by rw [e, hD] at z'; cases z')]
    exact z') h
/-- a walk of a road: its manner, its door, what may come -/
def WalkAt (K : PySem.W.Frag) (H : Hp) (C x r : Addr) (n : Nat) : Prop := ∃ (dx d q : Addr) (ts : List Addr), H x = some (.ins C dx (pwf r "alike" d q)) ∧ SqT K H d (natV (List.range n)) ∧ H q = some (.lst (ts.map V.ref)) ∧ EvsAt H ts (qev n)
theorem WalkAt.same {K : PySem.W.Frag} {H H' : Hp} {C x r : Addr} {n : Nat} (h : WalkAt K H C x r n) (s : Same H H') : WalkAt K H' C x r n := by
  obtain ⟨dx, d, q, ts, a, b, c, e⟩ := h
  exact ⟨dx, d, q, ts, s _ _ a, sqT_same s b, s _ _ c, e.same s⟩
def blkE (n i : Nat) : List Ev := if i = 0 then (List.range n).map Ev.ask else (List.range n).map Ev.ren
theorem blkE_len (n i : Nat) : (blkE n i).length = n := by
  unfold blkE
  split <;> rw [List.length_map, List.length_range]
section
variable {base : Heap} {P : Program} {w : World} {K : PySem.W.Frag} {mg : Str → Option Value}
/-! ### a walk made -/
def spWI (K : PySem.W.Frag) (C CR : Addr) : Sp := fun vs H Q _ => ∃ (x dx r d : Addr) (ws ya yb : List Str) (bs : List Bool), vs = [.ref x, .ref r, .str "alike", .ref d] ∧ H x = some (.ins C dx []) ∧ RoadAt H CR r ws ya yb bs ∧ r ≠ x ∧ ws.length ≤ 4 ∧ SqT K H d (natV (List.range ws.length)) ∧ ∀ H', Keep x H H' → WalkAt K H' C x r ws.length → Q .non H'
abbrev nWInit : List Str := ["self", "road", "aim", "doors", "parts", "words", "word", "part"]
theorem scWInit : FnScope nWInit ["self", "road", "aim", "doors"] (defScope sWInit) := ⟨rfl, rfl, rfl, by decide +kernel, rfl, by decide +kernel, by decide +kernel⟩
theorem ok_winit {f C CR : Addr} {fd : FuncData} (F : Fun K "__init__" "PlanWalk.__init__" sWInit f fd) (T : TxtX K mg) (L : WalkT K mg C) (RT : RoadT K mg CR) : FnOk P w K mg base CX0 1 f fd ["self", "road", "aim", "doors"] (spWI K C CR) := by
  refine F.ok scWInit (fun vs H Q E h => ?_) (fun cdv A outer s H vs Q E hr h => ?_)
  · obtain ⟨x, dx, r, d, ws, ya, yb, bs, rfl, _⟩ := h
    rfl
  · obtain ⟨x, dx, r, d, ws, ya, yb, bs, rfl, hx, ra, nrx, w4, hd, k⟩ := h
    obtain ⟨t1, g1⟩ := T.none1
    obtain ⟨qp, gq, hq⟩ := T.quiet
    refine ⟨_, pss_cons (ps_fld (pv 0) (pv 1) rfl) (pss_cons (ps_fld (pv 0) (pv 2) rfl) (pss_cons (ps_fld (pv 0) (pv 3) rfl)
      (pss_cons (ps_set (i := 4) scWInit.nd rfl (.inr rfl) (pe_listRg rfl (by rfl) T.list (prg_1 (by rfl) T.range (pe_callB call_len_seq (by rfl) T.len PySem.boot_len (pa_cons (pe_fld (pv 1) rfl) pa_nil)))))
      (pss_cons (ps_setLc (i := 5) (own := [("word", 6)]) (g := gName 6) (tt := tYes) rfl scWInit.nd rfl rfl rfl (pi_tup (pe_glob (v := .ref qp) (by rfl) gq rfl))
          (blkOk_by (N := nWInit) (sc := defScope sWInit) (by decide +kernel)) (fun _ _ _ _ _ => pg_name (i := 6) scWInit.nd rfl (Or.inl rfl)) (fun _ _ _ _ _ => pts_nil)
          (fun _ _ _ _ _ => pe_tup (pa_cons (pv 6) (pa_cons (pe_glob (v := .int (-1)) (by rfl) g1 ⟨_, rfl⟩) pa_nil))))
      (pss_one (ps_fld (pv 0) (pe_op op_cat (pv 5) (pe_lc2 (own := [("word", 6), ("part", 7)]) (vs1 := [7]) (g := gName 6) (g1 := gName 7) (tt := tYes) (tt1 := tYes) (wi1 := iList K (tVar 4)) rfl scWInit.nd (pi_tup (pe_tup (pa_cons pe_str (pa_cons pe_str pa_nil))))
          (blkOk_by (N := nWInit) (sc := defScope sWInit) (by decide +kernel)) (by decide) (fun _ _ _ _ _ => pg_name (i := 6) scWInit.nd rfl (Or.inl rfl)) (fun _ _ _ _ _ => pts_nil) (fun _ _ _ _ _ => pi_list (pv 4))
          (fun _ _ _ _ _ => pg_name (i := 7) scWInit.nd rfl (Or.inl rfl)) (fun _ _ _ _ _ => pts_nil) (fun _ _ _ _ _ => pe_tup (pa_cons (pv 6) (pa_cons (pv 7) pa_nil))))) rfl)))))), ?_⟩
    obtain ⟨dr, na, c, pw, kp, tws, hr0, hna, _⟩ := ra.ex
    refine ⟨_, rfl, _, rfl, x, C, dx, [], rfl, hx, L.cl, L.n1, by decide, ?_⟩
    refine ⟨_, rfl, _, rfl, x, C, dx, _, rfl, upd_same, L.cl, L.n2, by (show 1 < 1000; decide), ?_⟩
    rw [upd_upd]
    refine ⟨_, rfl, _, rfl, x, C, dx, _, rfl, upd_same, L.cl, L.n3, by (show 2 < 1000; decide), ?_⟩
    rw [upd_upd]
    have k1 : Keep x H (upd H x (.ins C dx (putF "doors" (.ref d) (putF "aim" (.str "alike") (putF "road" (.ref r) []))))) := Keep.put
    have h1 : (upd H x (.ins C dx (putF "doors" (.ref d) (putF "aim" (.str "alike") (putF "road" (.ref r) []))))) x = some (.ins C dx (putF "doors" (.ref d) (putF "aim" (.str "alike") (putF "road" (.ref r) [])))) := upd_same
    generalize (upd H x (.ins C dx (putF "doors" (.ref d) (putF "aim" (.str "alike") (putF "road" (.ref r) []))))) = H1 at k1 h1
    have hna1 := hna.keep (hna.ne_ins hx) k1
    refine ⟨_, rfl, r, CR, dr, _, .ref na, rfl, k1 _ _ nrx hr0, RT.cl, RT.n2, rfl, na, _, rfl, .inr hna1.sq, ((ws.map V.str).length : Int), rfl, ?_⟩
    rw [List.length_map]
    refine ⟨RgOk.of_le (by omega) (by omega) (by omega) (by omega), fun pq npq => ?_⟩
    have s2 := same_upd (o := .lst (rgV 0 (ws.length : Int))) npq
    have hpq : (upd H1 pq (.lst (rgV 0 (ws.length : Int)))) pq = some (.lst (rgV 0 (ws.length : Int))) := upd_same
    generalize (upd H1 pq (.lst (rgV 0 (ws.length : Int)))) = H2 at s2 hpq
    dsimp only [tSeq, tAsg, tLc, iTup, List.map]
    refine ⟨qp, rfl, ⟨_, sqT_any hq⟩, fun D nD => ?_⟩
    refine lc_tup (K := K) (xs := quiet3.map V.str) (fun i H3 => Same H2 H3 ∧ ∃ ts : List Addr, H3 D = some (.lst (ts.map V.ref)) ∧ EvsAt H3 ts (([Ev.take, Ev.back, Ev.inst] : List Ev).take i)) ⟨same_upd nD, [], upd_same, .nil⟩ (fun i H3 _ z => sqT_any hq) ?_ ?_
    · rintro i x3 H3 hx3 ⟨s3, ts, hD, pts⟩
      have hi : i < 3 := (List.getElem?_eq_some_iff.mp hx3).1
      obtain ⟨e, he, rfl⟩ : ∃ e : Ev, ([Ev.take, Ev.back, Ev.inst] : List Ev)[i]? = some e ∧ x3 = .str (evW e) := by
        match i, hi with
        | 0, _ => cases hx3; exact ⟨_, rfl, rfl⟩
        | 1, _ => cases hx3; exact ⟨_, rfl, rfl⟩
        | 2, _ => cases hx3; exact ⟨_, rfl, rfl⟩
      have ep : evP e = -1 := by
        match i, hi with
        | 0, _ => cases he; rfl
        | 1, _ => cases he; rfl
        | 2, _ => cases he; rfl
      have lt : ts.length ≤ 3 := by
        have h1 := Paired.length pts
        rw [List.length_take] at h1
        have h2 : ([Ev.take, Ev.back, Ev.inst] : List Ev).length = 3 := rfl
        omega
      refine ⟨rfl, ?_⟩
      refine ⟨_, rfl, (by show 2 ≤ sizeLine; decide), fun tp ntp => ?_⟩
      have s4 := same_upd (o := .tup [.str (evW e), .int (-1)]) ntp
      refine ⟨_, s4 _ _ hD, by rw [List.length_map]; exact small1000 (by omega), same_new (s3.trans s4) nD, ts ++ [tp], by rw [upd_same, List.map_append]; rfl, ?_⟩
      rw [take_snoc he]
      refine paired_snoc (EvsAt.wr (EvsAt.same pts s4) (s4 _ _ hD)) ?_
      show upd _ D _ tp = _
      rw [upd_ne (fun z => by rw [z] at ntp; rw [ntp] at hD; cases hD), upd_same, ep]
    rintro H3 ⟨s3, ts, hD, pts⟩
    have pts3 : EvsAt H3 ts [.take, .back, .inst] := pts
    have lt3 : ts.length = 3 := Paired.length pts3
    have hpq3 := s3 _ _ hpq
    have k13 : Keep x H H3 := k1.trans (K17.Same.keep (s2.trans s3))
    have h13 := (s2.trans s3) _ _ h1
    refine ⟨_, rfl, (by show 2 ≤ sizeLine; decide), fun tw ntw => ⟨tw, rfl, ⟨_, SqT.of upd_same⟩, fun D2 nD2 => ?_⟩⟩
    have s4 := same_upd (o := .tup [.str "ask", .str "renew"]) ntw
    have htw : (upd H3 tw (.tup [.str "ask", .str "renew"])) tw = some (.tup [.str "ask", .str "renew"]) := upd_same
    generalize (upd H3 tw (.tup [.str "ask", .str "renew"])) = H4 at s4 htw nD2
    have l4 : (rgV 0 (ws.length : Int)).length = ws.length := by rw [rgV_length]; omega
    have flen : ∀ i, i ≤ 2 → ((List.range i).flatMap (blkE ws.length)).length ≤ 8 := fun i hi => by
      have h1 := flat_len (f := blkE ws.length) (b := ws.length) (l := List.range i) fun j _ => Nat.le_of_eq (blkE_len ws.length j)
      rw [List.length_range] at h1
      have h2 : i * ws.length ≤ 2 * 4 := Nat.mul_le_mul hi w4
      omega
    refine ⟨fun i mm H5 => mm = 2 - i ∧ i ≤ 2 ∧ Same H4 H5 ∧ ∃ us : List Addr, H5 D2 = some (.lst (us.map V.ref)) ∧ EvsAt H5 us ((List.range i).flatMap (blkE ws.length)), ⟨2, rfl, Nat.zero_le _, same_upd nD2, [], upd_same, .nil⟩, ?_⟩
    rintro i mm H5 ⟨rfl, hi, s5, us5, hD5, pu5⟩
    by_cases hlt : i < 2
    · refine .inr ⟨⟨_, ([V.str "ask", V.str "renew"])[i], SqT.of (s5 _ _ htw), by simp [hlt]⟩, fun H6 => Same H4 H6 ∧ ∃ us : List Addr, H6 D2 = some (.lst (us.map V.ref)) ∧ EvsAt H6 us ((List.range (i + 1)).flatMap (blkE ws.length)), fun H' ⟨a, b⟩ => ⟨2 - (i + 1), by omega, rfl, hlt, a, b⟩, fun x6 H6 y6 => ?_⟩
      obtain ⟨e6, y6⟩ := y6
      subst e6
      have y7 := y6 _ (SqT.of (s5 _ _ htw))
      refine ⟨rfl, ?_⟩
      refine ⟨_, rfl, pq, rfl, ⟨_, SqL.of (s5 _ _ (s4 _ _ hpq3))⟩, ?_⟩
      refine ⟨fun j mm H7 => mm = 4 - j ∧ j ≤ ws.length ∧ Same H4 H7 ∧ ∃ us : List Addr, H7 D2 = some (.lst (us.map V.ref)) ∧ EvsAt H7 us ((List.range i).flatMap (blkE ws.length) ++ (blkE ws.length i).take j), ⟨4, rfl, Nat.zero_le _, s5, us5, hD5, by rw [List.take_zero, List.append_nil]; exact pu5⟩, ?_⟩
      rintro j mm H7 ⟨rfl, hj, s7, us7, hD7, pu7⟩
      have hpq7 := s7 _ _ (s4 _ _ hpq3)
      by_cases hjl : j < ws.length
      · refine .inr ⟨⟨_, (rgV 0 (ws.length : Int))[j]'(by rw [l4]; exact hjl), SqL.of hpq7, by simp [l4, hjl]⟩, fun H8 => Same H4 H8 ∧ ∃ us : List Addr, H8 D2 = some (.lst (us.map V.ref)) ∧ EvsAt H8 us ((List.range i).flatMap (blkE ws.length) ++ (blkE ws.length i).take (j + 1)), fun H' ⟨a, b⟩ => ⟨4 - (j + 1), by omega, rfl, hjl, a, b⟩, fun x8 H8 y8 => ?_⟩
        obtain ⟨e8, y8⟩ := y8
        subst e8
        have y9 := y8 _ (SqL.of hpq7)
        have x8e : x8 = .int (j : Int) := by
          unfold rgV at y9
          rw [List.getElem?_map, List.getElem?_range (by omega)] at y9
          have q : x8 = V.int (0 + (j : Int)) := (Option.some.inj y9).symm
          rw [Int.zero_add] at q
          exact q
        subst x8e
        obtain ⟨e, he, ew, ep⟩ : ∃ e : Ev, (blkE ws.length i)[j]? = some e ∧ x6 = .str (evW e) ∧ evP e = (j : Int) := by
          match i, hlt with
          | 0, _ => cases y7; exact ⟨.ask j, by unfold blkE; rw [if_pos rfl, List.getElem?_map, List.getElem?_range hjl]; rfl, rfl, rfl⟩
          | 1, _ => cases y7; exact ⟨.ren j, by unfold blkE; rw [if_neg (by decide), List.getElem?_map, List.getElem?_range hjl]; rfl, rfl, rfl⟩
        subst ew
        refine ⟨rfl, ?_⟩
        refine ⟨_, rfl, _, rfl, (by show 2 ≤ sizeLine; decide), fun tp ntp => ?_⟩
        have s9 := same_upd (o := .tup [.str (evW e), .int (j : Int)]) ntp
        have lu : us7.length ≤ 12 := by
          have h1 := Paired.length pu7
          have h2 := flen i hi
          rw [List.length_append, List.length_take, blkE_len] at h1
          omega
        refine ⟨_, s9 _ _ hD7, by rw [List.length_map]; exact small1000 (by omega), same_new (s7.trans s9) nD2, us7 ++ [tp], by rw [upd_same, List.map_append]; rfl, ?_⟩
        rw [take_snoc he, ← List.append_assoc]
        refine paired_snoc (EvsAt.wr (EvsAt.same pu7 s9) (s9 _ _ hD7)) ?_
        show upd _ D2 _ tp = _
        rw [upd_ne (fun z => by rw [z] at ntp; rw [ntp] at hD7; cases hD7), upd_same, ep]
      · have ej : j = ws.length := by omega
        subst ej
        refine .inl ⟨⟨_, SqL.of hpq7, by rw [l4]; omega⟩, s7, us7, hD7, ?_⟩
        have e9 : (blkE ws.length i).take ws.length = blkE ws.length i := List.take_of_length_le (by rw [blkE_len]; exact Nat.le_refl _)
        rw [e9] at pu7
        rw [List.range_succ, List.flatMap_append, List.flatMap_cons, List.flatMap_nil, List.append_nil]
        exact pu7
    · have ei : i = 2 := by omega
      subst ei
      refine .inl ⟨⟨_, SqT.of (s5 _ _ htw), Nat.le_refl _⟩, ?_⟩
      have hD3 := s5 _ _ (s4 _ _ hD)
      have l5 : us5.length ≤ 8 := by
        have h1 := Paired.length pu5
        have := flen 2 (Nat.le_refl _)
        omega
      refine ⟨D, D2, _, _, rfl, rfl, hD3, hD5, by rw [List.length_map, List.length_map]; exact Nat.le_of_lt (small1000 (by omega)), fun q nq => ?_⟩
      have s10 := same_upd (o := .lst (ts.map V.ref ++ us5.map V.ref)) nq
      have s310 := (s4.trans s5).trans s10
      refine ⟨_, rfl, x, C, dx, _, rfl, s310 _ _ h13, L.cl, L.n4, by (show 3 < 1000; decide), ?_⟩
      have kl : Keep x (upd H5 q (.lst (ts.map V.ref ++ us5.map V.ref))) (upd (upd H5 q (.lst (ts.map V.ref ++ us5.map V.ref))) x (.ins C dx (pwf r "alike" d q))) := Keep.put
      have kz : Keep x H (upd (upd H5 q (.lst (ts.map V.ref ++ us5.map V.ref))) x (.ins C dx (pwf r "alike" d q))) := (k13.trans (K17.Same.keep s310)).trans kl
      have nx : ∀ {t : Addr} {xs : List V}, (upd H5 q (.lst (ts.map V.ref ++ us5.map V.ref))) t = some (.tup xs) → t ≠ x := fun z e => by
        rw [e, s310 _ _ h13] at z
        cases z
      refine k _ kz ⟨dx, d, q, ts ++ us5, upd_same, sqT_keep kz hx hd, ?_, ?_⟩
      · have nqx : q ≠ x := fun e => by
          have := (s4.trans s5) _ _ h13
          rw [← e, nq] at this
          cases this
        rw [upd_ne nqx, upd_same, List.map_append]
      · have pa : EvsAt (upd H5 q (.lst (ts.map V.ref ++ us5.map V.ref))) (ts ++ us5) (qev ws.length) := by
          refine paired_app (EvsAt.same pts3 s310) ?_
          have e2 : (List.range 2).flatMap (blkE ws.length) = (List.range ws.length).map Ev.ask ++ (List.range ws.length).map Ev.ren := by
            show blkE ws.length 0 ++ (blkE ws.length 1 ++ []) = _
            rw [List.append_nil]
            rfl
          rw [e2] at pu5
          exact EvsAt.same pu5 s10
        exact paired_mono (fun t e z => by
          have z' : _ = _ := z
          show upd _ x _ t = _
          rw [upd_ne (nx z')]
          exact z') pa
end
end K17

namespace K17
open L2 PySem PySem.Spec PyProof.Rows RZ
abbrev sWSettled : Stmt := inClass (top 44) 4
/-- a standing in the heap -/
def SdAt (K : PySem.W.Frag) (H : Hp) (t : Addr) (s : Sd) : Prop := ∃ o kt : Addr, SqT K H t [.ref o, .ref kt, .int (s.now : Int)] ∧ OpsAt K H o s.op ∧ SqT K H kt (intV s.kv)
theorem SdAt.same {K : PySem.W.Frag} {H H' : Hp} {t : Addr} {s : Sd} (h : SdAt K H t s) (ss : Same H H') : SdAt K H' t s := by
  obtain ⟨o, kt, a, b, c⟩ := h
  exact ⟨o, kt, sqT_same ss a, b.same ss, sqT_same ss c⟩
theorem SdAt.wr {K : PySem.W.Frag} {H : Hp} {t D : Addr} {s : Sd} {zs : List V} {ob : HO} (h : SdAt K H t s) (hD : H D = some (.lst zs)) : SdAt K (upd H D ob) t s := by
  obtain ⟨o, kt, a, ⟨ts, b1, b2⟩, c⟩ := h
  exact ⟨o, kt, sqT_wr a hD, ⟨ts, sqT_wr b1 hD, paired_mono (fun _ _ z => sqT_wr z hD) b2⟩, sqT_wr c hD⟩
section
variable {base : Heap} {P : Program} {w : World} {K : PySem.W.Frag} {mg : Str → Option Value}
/-! ### starts -/
def spStarts (K : PySem.W.Frag) (C CR : Addr) : Sp := fun vs H Q _ => ∃ (x r : Addr) (ws ya yb : List Str) (bs : List Bool), vs = [.ref x] ∧ WalkAt K H C x r ya.length ∧ RoadAt H CR r ws ya yb bs ∧ ya.length ≤ 4 ∧
  ∀ H' q ts S, Same H H' → H' q = some (.lst (ts.map V.ref)) → Paired (SdAt K H') ts S → StartsOk ya yb S → S.length ≤ 4000 → Q (.ref q) H'
abbrev nStarts : List Str := ["self", "rows", "part", "kept", "present", "opening"]
theorem scStarts : FnScope nStarts ["self"] (defScope sWStarts) := ⟨rfl, rfl, rfl, by decide +kernel, rfl, by decide +kernel, by decide +kernel⟩
theorem ok_starts {f C CR : Addr} {fd : FuncData} (F : Fun K "starts" "PlanWalk.starts" sWStarts f fd) (T : TxtX K mg) (L : WalkT K mg C) (RT : RoadT K mg CR) (GK : Has P w K mg base "kept_beginnings" 2 ["many"] (spKb K)) (GB : HasM P w K mg base CR "begun" 3 ["self", "part", "present"] (spBegun K CR))
    (GT : Has P w K mg base "first_tail" 1 ["manner"] spFirstTail) (GR : Has P w K mg base "first_rest" 1 ["manner", "present"] spFirstRest) : FnOk P w K mg base CX0 4 f fd ["self"] (spStarts K C CR) := by
  refine F.ok scStarts (fun vs H Q E h => ?_) (fun cdv A outer s H vs Q E hr h => ?_)
  · obtain ⟨x, r, ws, ya, yb, bs, rfl, _⟩ := h
    rfl
  · obtain ⟨x, r, ws, ya, yb, bs, rfl, wa, ra, y4, k⟩ := h
    have r1 : Room 1 _ := hr.mono (by decide)
    have r2 : Room 2 _ := hr.mono (by decide)
    refine ⟨_, pss_cons (ps_set (i := 1) scStarts.nd rfl (.inl rfl) (pe_lst pa_nil))
      (pss_cons (ps_for PassesOwn.never rfl (pi_tup (pe_fld (pv 0) rfl)) (pg_name (i := 2) scStarts.nd rfl (.inl rfl))
        (pss_one (ps_for PassesOwn.never rfl (pi_list (pe_has GK r2 (pa_cons (pe_callB call_len_seq (by rfl) T.len PySem.boot_len (pa_cons (pe_fld (pe_fld (pv 0) rfl) rfl) pa_nil)) pa_nil))) (pg_tup rfl (pgs_cons (pg_name (i := 3) scStarts.nd rfl (.inl rfl)) (pgs_cons (pg_name (i := 4) scStarts.nd rfl (.inl rfl)) pgs_nil)))
          (pss_cons (ps_set (i := 5) scStarts.nd rfl (.inl rfl) (pe_tup (pa_cons (pv 2) (StX.pa_star (pe_hasM GB RT.cl hr (pe_fld (pv 0) rfl) (pa_cons (pv 2) (pa_cons (pv 4) pa_nil))) (StX.pa_star (pe_has GT r1 (pa_cons (pe_fld (pv 0) rfl) pa_nil)) pa_nil)))))
          (pss_one (ps_expr (pe_bm PySem.F.plainAttrs_list PySem.F.slot_list_append PySem.F.type_list_append mt_append (pv 1) (pa_cons (pe_tup (pa_cons (pe_tup (pa_cons (pv 5) pa_nil)) (pa_cons (pv 3) (pa_cons (pv 4) (StX.pa_star (pe_has GR r1 (pa_cons (pe_fld (pv 0) rfl) (pa_cons (pv 4) pa_nil))) pa_nil))))) pa_nil))))))))
      (pss_one (ps_ret (pv 1)))), ?_⟩
    obtain ⟨dx, d, q, es, hx, hd, hq, hes⟩ := wa
    obtain ⟨dr, na, c, pw, kp, tws, hr0, ha, hc, hpw, prs, hkp⟩ := id ra.ex
    refine ⟨(by show 0 ≤ sizeLine; exact Nat.zero_le _), fun R nR => ?_⟩
    have s1 := same_upd (o := .lst []) nR
    have hR1 : (upd H R (.lst [])) R = some (.lst []) := upd_same
    generalize (upd H R (.lst [])) = H1 at s1 hR1
    refine ⟨_, rfl, x, C, dx, _, .ref d, rfl, s1 _ _ hx, L.cl, L.n3, rfl, d, rfl, ⟨_, sqT_same s1 hd⟩, ?_⟩
    refine for_tup (K := K) (xs := natV (List.range ya.length)) (fun i σ H' => Same H H' ∧ (∃ b c d e, σ = [some (.ref x), some (.ref R), b, c, d, e]) ∧ ∃ ts S, H' R = some (.lst (ts.map V.ref)) ∧ Paired (SdAt K H') ts S ∧ S.length ≤ 979 * i ∧ (∀ s ∈ S, ∃ p kept now, p < ya.length ∧ KbOk (kpP ya yb).length kept now ∧ s = startS ya yb p kept now) ∧ ∀ p kept now, p < i → KbOk (kpP ya yb).length kept now → now ≤ (kpP ya yb).length → startS ya yb p kept now ∈ S)
      ⟨s1, ⟨_, _, _, _, rfl⟩, [], [], hR1, .nil, Nat.zero_le _, fun s hs => (List.not_mem_nil hs).elim, fun p _ _ hp => absurd hp (Nat.not_lt_zero _)⟩ (fun i σ H' _ z => sqT_same z.1 hd) ?_ ?_
    · rintro i v σ H2 hx2 ⟨s2, ⟨b, c', d', e', rfl⟩, ts0, S0, hR2, pts0, lS0, so1, so2⟩
      unfold natV at hx2
      rw [List.getElem?_map] at hx2
      obtain ⟨p', hp', rfl⟩ := Option.map_eq_some_iff.mp hx2
      have il := (List.getElem?_eq_some_iff.mp hp').1
      rw [List.length_range] at il
      rw [List.getElem?_range il] at hp'
      cases hp'
      have kl := kpP_len (ya := ya) (yb := yb)
      refine ⟨_, rfl, x, C, dx, _, .ref r, rfl, s2 _ _ hx, L.cl, L.n1, rfl, r, CR, dr, _, .ref kp, rfl, s2 _ _ hr0, RT.cl, RT.n5, rfl, kp, _, rfl, .inr (hkp.same s2).sq, _, rfl, by unfold natV; rw [List.length_map]; omega, fun H3 l kts rows s3 fl hl pkt kall lrows => ?_⟩
      have nl : (natV (kpP ya yb)).length = (kpP ya yb).length := by unfold natV; rw [List.length_map]
      rw [nl] at kall
      have nlR : l ≠ R := fun e => by
        rw [e, hR2] at fl
        cases fl
      have lk : kts.length = rows.length := Paired.length pkt
      refine ⟨l, rfl, ⟨_, SqL.of hl⟩, ?_⟩
      refine for_list (K := K) (xs := kts.map V.ref) (fun j σ H' => Same H H' ∧ H' l = some (.lst (kts.map V.ref)) ∧ KbAt K H' kts rows ∧ (∃ b c d, σ = [some (.ref x), some (.ref R), some (.int (i : Int)), b, c, d]) ∧ ∃ ts, H' R = some (.lst (ts.map V.ref)) ∧ Paired (SdAt K H') ts (S0 ++ (rows.take j).map fun q => startS ya yb i q.1 q.2))
        ⟨s2.trans s3, hl, pkt, ⟨_, _, _, rfl⟩, ts0, s3 _ _ hR2, by rw [List.take_zero, List.map_nil, List.append_nil]; exact paired_mono (fun _ _ z => SdAt.same z s3) pts0⟩ (fun j σ H' _ z => SqL.of z.2.1) ?_ ?_
      · rintro j v σ H4 hv ⟨s4, hl4, pkt4, ⟨b4, c4, d4, rfl⟩, ts, hR4, pts⟩
        rw [List.getElem?_map] at hv
        obtain ⟨t, ht, rfl⟩ := Option.map_eq_some_iff.mp hv
        obtain ⟨q, hq1, kt, hq2, hq3⟩ := paired_get pkt4 ht
        have jl := (List.getElem?_eq_some_iff.mp ht).1
        refine ⟨t, _, rfl, hq2, rfl, .ref kt, _, rfl, .int (q.2 : Int), _, rfl, rfl, ?_⟩
        have ra4 := ra.same s4
        refine ⟨_, rfl, _, rfl, x, C, dx, _, .ref r, rfl, s4 _ _ hx, L.cl, L.n1, rfl, r, dr, _, rfl, s4 _ _ hr0, rfl, _, rfl, _, rfl, r, i, ws, ya, yb, bs, (q.2 : Int), rfl, ra4, il, fun H5 tb s5 htb => ?_⟩
        refine ⟨tb, _, rfl, .inl htb.sq, ?_⟩
        have s45 := s4.trans s5
        refine ⟨_, rfl, x, C, dx, _, .str "alike", rfl, s45 _ _ hx, L.cl, L.n2, rfl, rfl, fun H6 tt s6 htt => ?_⟩
        refine ⟨tt, _, rfl, .inl (SqT.of htt), (by show 3 ≤ sizeLine; decide), fun op nop => ?_⟩
        have s7 : Same H6 (upd H6 op (.tup [.int (i : Int), .int (opBy (wayOf ya i) (q.2 : Int) (q.2 : Int)), .int (opBy (wayOf yb i) (q.2 : Int) (q.2 : Int))])) := same_upd nop
        have hop : (upd H6 op (.tup [.int (i : Int), .int (opBy (wayOf ya i) (q.2 : Int) (q.2 : Int)), .int (opBy (wayOf yb i) (q.2 : Int) (q.2 : Int))])) op = some (.tup [.int (i : Int), .int (opBy (wayOf ya i) (q.2 : Int) (q.2 : Int)), .int (opBy (wayOf yb i) (q.2 : Int) (q.2 : Int))]) := upd_same
        have e7 : (upd H6 op (.tup (V.int (i : Int) :: ([.int (opBy (wayOf ya i) (q.2 : Int) (q.2 : Int)), .int (opBy (wayOf yb i) (q.2 : Int) (q.2 : Int))] ++ (([] : List V) ++ []))))) = (upd H6 op (.tup [.int (i : Int), .int (opBy (wayOf ya i) (q.2 : Int) (q.2 : Int)), .int (opBy (wayOf yb i) (q.2 : Int) (q.2 : Int))])) := rfl
        rw [e7]
        generalize (upd H6 op (.tup [.int (i : Int), .int (opBy (wayOf ya i) (q.2 : Int) (q.2 : Int)), .int (opBy (wayOf yb i) (q.2 : Int) (q.2 : Int))])) = H7 at s7 hop
        have s57 := (s5.trans s6).trans s7
        have s47 := s4.trans s57
        refine ⟨_, rfl, .inl ⟨rfl, _, SqL.of (s57 _ _ hR4)⟩, _, rfl, (by show 1 ≤ sizeLine; decide), fun o1 no1 => ?_⟩
        have s8 := same_upd (o := .tup [.ref op]) no1
        have ho1 : (upd H7 o1 (.tup [.ref op])) o1 = some (.tup [.ref op]) := upd_same
        generalize (upd H7 o1 (.tup [.ref op])) = H8 at s8 ho1
        refine ⟨_, rfl, _, rfl, _, rfl, x, C, dx, _, .str "alike", rfl, s8 _ _ (s47 _ _ hx), L.cl, L.n2, rfl, _, rfl, q.2, rfl, fun H9 tr s9 htr => ?_⟩
        refine ⟨tr, _, rfl, .inl (SqT.of htr), (by show 3 ≤ sizeLine; decide), fun u nu => ?_⟩
        have s10 : Same H9 (upd H9 u (.tup [.ref o1, .ref kt, .int (q.2 : Int)])) := same_upd nu
        have hu : (upd H9 u (.tup [.ref o1, .ref kt, .int (q.2 : Int)])) u = some (.tup [.ref o1, .ref kt, .int (q.2 : Int)]) := upd_same
        have e10 : (upd H9 u (.tup (V.ref o1 :: V.ref kt :: V.int (q.2 : Int) :: (([] : List V) ++ [])))) = (upd H9 u (.tup [.ref o1, .ref kt, .int (q.2 : Int)])) := rfl
        rw [e10]
        generalize (upd H9 u (.tup [.ref o1, .ref kt, .int (q.2 : Int)])) = H10 at s10 hu
        have s910 := (s8.trans s9).trans s10
        have s4a := s57.trans s910
        have hR10 := s4a _ _ hR4
        have lts := Paired.length pts
        rw [List.length_append, List.length_map, List.length_take] at lts
        have l979 : 979 * i ≤ 979 * 3 := Nat.mul_le_mul_left _ (by omega)
        refine ⟨R, _, _, rfl, rfl, hR10, by rw [List.length_map]; exact small9 (by omega), ?_⟩
        refine ⟨same_new (s4.trans s4a) nR, by rw [upd_ne nlR]; exact s4a _ _ hl4, KbAt.wr (pkt4.same s4a) hR10, ⟨_, _, _, rfl⟩, ts ++ [u], by rw [upd_same, List.map_append]; rfl, ?_⟩
        rw [take_snoc hq1, List.map_append, ← List.append_assoc]
        refine paired_snoc (paired_mono (fun _ _ z => SdAt.wr (SdAt.same z s4a) hR10) pts) (SdAt.wr ⟨o1, kt, SqT.of hu, ⟨[op], SqT.of ((s9.trans s10) _ _ ho1), .cons (SqT.of (s910 _ _ hop)) .nil⟩, sqT_same s4a hq3⟩ hR10)
      · rintro σ H4 ⟨s4, hl4, pkt4, ⟨b4, c4, d4, rfl⟩, ts, hR4, pts⟩
        rw [List.length_map, lk, List.take_length] at pts
        refine ⟨s4, ⟨_, _, _, _, rfl⟩, ts, _, hR4, pts, ?_, fun s hs => ?_, fun p kept now hp a b => ?_⟩
        · rw [List.length_append, List.length_map, Nat.mul_succ]
          omega
        · rcases List.mem_append.mp hs with z | z
          · exact so1 s z
          · obtain ⟨q, hq, rfl⟩ := List.mem_map.mp z
            exact ⟨i, q.1, q.2, il, (kall.1 q hq).1, rfl⟩
        · rcases Nat.lt_or_ge p i with z | z
          · exact List.mem_append_left _ (so2 p kept now z a b)
          · obtain rfl : p = i := by omega
            exact List.mem_append_right _ (List.mem_map.mpr ⟨(kept, now), kall.2 kept now a b, rfl⟩)
    · rintro σ H2 ⟨s2, ⟨b, c', d', e', rfl⟩, ts, S, hR2, pS, lS, so1, so2⟩
      have ln : (natV (List.range ya.length)).length = ya.length := by unfold natV; rw [List.length_map, List.length_range]
      rw [ln] at lS so2
      have : 979 * ya.length ≤ 979 * 4 := Nat.mul_le_mul_left _ y4
      exact ⟨_, rfl, k H2 R ts S s2 hR2 pS ⟨so1, so2⟩ (by omega)⟩
theorem heldL_mem {s : Sd} {x : Int} : x ∈ heldL (s.now : Int) s.kv s.op ↔ x ∈ heldS s := by
  unfold heldL heldS
  rw [List.mem_cons, List.mem_cons, List.mem_append, List.mem_append, List.mem_append, List.mem_flatMap, List.mem_filter, List.mem_filter, List.mem_map, List.mem_map]
  refine or_congr Iff.rfl (or_congr Iff.rfl ?_)
  constructor
  · rintro ⟨o, ho, hx⟩
    obtain ⟨h1, h2⟩ := List.mem_filter.mp hx
    rcases List.mem_cons.mp h1 with e | h1
    · exact .inl ⟨⟨o, ho, e.symm⟩, h2⟩
    · exact .inr ⟨⟨o, ho, (List.mem_singleton.mp h1).symm⟩, h2⟩
  · rintro (⟨⟨o, ho, e⟩, h2⟩ | ⟨⟨o, ho, e⟩, h2⟩)
    · exact ⟨o, ho, List.mem_filter.mpr ⟨by rw [← e]; exact List.mem_cons_self, h2⟩⟩
    · exact ⟨o, ho, List.mem_filter.mpr ⟨by rw [← e]; simp, h2⟩⟩
/-! ### settled -/
def spSettled (K : PySem.W.Frag) (C CR : Addr) : Sp := fun vs H Q _ => ∃ (x r t : Addr) (ws ya yb : List Str) (bs : List Bool) (s : Sd), vs = [.ref x, .ref t] ∧ WalkAt K H C x r ya.length ∧ RoadAt H CR r ws ya yb bs ∧ SdAt K H t s ∧ s.op.length ≤ 4 ∧ s.kv.length ≤ 4 ∧
  ∀ H' u, Same H H' → SdAt K H' u (settle s) → Q (.ref u) H'
abbrev nSettled : List Str := ["self", "raw", "openings", "kept", "present", "rest", "numbers", "places", "told", "number"]
theorem scSettled : FnScope nSettled ["self", "raw"] (defScope sWSettled) := ⟨rfl, rfl, rfl, by decide +kernel, rfl, by decide +kernel, by decide +kernel⟩
theorem ok_settled {f C CR : Addr} {fd : FuncData} (F : Fun K "settled" "PlanWalk.settled" sWSettled f fd) (T : TxtX K mg) (L : WalkT K mg C) (RT : RoadT K mg CR) (GH : HasM P w K mg base CR "held" 1 ["self", "openings", "kept", "present"] (spHeld K CR))
    (GP : Has P w K mg base "places_of" 1 ["numbers"] (spPlaces K)) (GR : Has P w K mg base "rest_renumbered" 1 ["manner", "rest", "numbers", "places"] (spRestRen K)) (GN : Has P w K mg base "renumbered" 1 ["openings", "places"] (spRenumbered K)) : FnOk P w K mg base CX0 2 f fd ["self", "raw"] (spSettled K C CR) := by
  refine F.ok scSettled (fun vs H Q E h => ?_) (fun cdv A outer s H vs Q E hr h => ?_)
  · obtain ⟨x, r, t, ws, ya, yb, bs, s, rfl, _⟩ := h
    rfl
  · obtain ⟨x, r, t, ws, ya, yb, bs, sd, rfl, wa, ra, ⟨o, kt, ht, hops, hkt⟩, lo, lk, k⟩ := h
    have r1 : Room 1 _ := hr.mono (by decide)
    refine ⟨_, pss_cons (ps_asg (pv 1) (pg_star (i := 3) rfl (pgs_cons (pg_name (i := 2) scSettled.nd rfl (.inl rfl)) (pgs_cons (pg_name (i := 3) scSettled.nd rfl (.inl rfl)) (pgs_cons (pg_name (i := 4) scSettled.nd rfl (.inl rfl)) (pgs_star (pg_name (i := 5) scSettled.nd rfl (.inl rfl)) pgs_nil))))))
      (pss_cons (ps_set (i := 6) scSettled.nd rfl (.inl rfl) (pe_hasM GH RT.cl r1 (pe_fld (pv 0) rfl) (pa_cons (pv 2) (pa_cons (pv 3) (pa_cons (pv 4) pa_nil)))))
      (pss_cons (ps_set (i := 7) scSettled.nd rfl (.inr rfl) (pe_has GP r1 (pa_cons (pv 6) pa_nil)))
      (pss_cons (ps_set (i := 8) scSettled.nd rfl (.inl rfl) (pe_has GR r1 (pa_cons (pe_fld (pv 0) rfl) (pa_cons (pv 5) (pa_cons (pv 6) (pa_cons (pv 7) pa_nil))))))
      (pss_one (ps_ret (pe_tup (pa_cons (pe_has GN r1 (pa_cons (pv 2) (pa_cons (pv 7) pa_nil))) (pa_cons (pe_callTy call_tupD (by rfl) T.tuple (by decide +kernel) (pa_cons (pe_lc (own := [("number", 9)]) (g := gName 9) (tt := tYes) rfl scSettled.nd (pi_tup (pv 3))
          (blkOk_by (N := nSettled) (sc := defScope sWSettled) (by decide +kernel)) (fun _ _ _ _ _ => pg_name (i := 9) scSettled.nd rfl (Or.inl rfl)) (fun _ _ _ _ _ => pts_nil)
          (fun _ _ _ _ _ => pe_dget (units1 hr) (pv 7) (pv 9) (fun _ _ => rfl))) pa_nil)) (pa_cons (pe_dget (units1 hr) (pv 7) (pv 4) (fun _ _ => rfl)) (StX.pa_star (pv 8) pa_nil)))))))))), ?_⟩
    obtain ⟨dx, d, q, es, hx, hd, hq, hes⟩ := id wa
    refine ⟨_, rfl, t, _, rfl, ht, (by show 3 ≤ 3; decide), (by show 3 ≤ 1000; decide), fun D nD => ?_⟩
    have s1 := same_upd (o := .lst []) nD
    refine ⟨_, _, rfl, _, _, rfl, _, _, rfl, _, _, rfl, rfl, ?_⟩
    have hD : (upd H D (.lst [])) D = some (.lst []) := upd_same
    show (tSeq _ _) _ _ (upd H D (.lst []))
    generalize (upd H D (.lst [])) = H1 at s1 hD
    obtain ⟨dr, na, c, pw, kp, tws, hr0, _⟩ := id ra.ex
    refine ⟨_, rfl, x, C, dx, _, .ref r, rfl, s1 _ _ hx, L.cl, L.n1, rfl, r, dr, _, rfl, s1 _ _ hr0, rfl, _, rfl, _, rfl, _, rfl, r, o, kt, ws, ya, yb, bs, sd.op, sd.kv, (sd.now : Int), rfl, ra.same s1, hops.same s1, sqT_same s1 hkt, lo, lk, fun H2 N hs s2 hN srt mem l20 => ?_⟩
    refine ⟨_, rfl, N, hs, heldS sd, rfl, hN, srt, (fun z => (mem z).trans heldL_mem), l20, fun H3 Pl s3 hP => ?_⟩
    have s13 := (s1.trans s2).trans s3
    refine ⟨_, rfl, x, C, dx, _, .str "alike", rfl, s13 _ _ hx, L.cl, L.n2, rfl, _, rfl, _, rfl, _, rfl, D, N, Pl, rfl, ?_⟩
    have s14 := s13
    refine ⟨_, rfl, _, rfl, o, Pl, sd.op, heldS sd, rfl, hops.same s14, (by omega), hP, fun H5 o' s5 ho' => ?_⟩
    have s15 := s14.trans s5
    have hP5 := hP.same s5
    have get : ∀ (H' : Hp) (y : Int), PlacesAt H' Pl (heldS sd) → y ∈ heldS sd → DGet H' Pl (.int y) (some (.int (pl (heldS sd) y))) := fun H' y ⟨kvs, g1, g2⟩ hy => by
      have z := DGet.k (k := .inl y) g1
      rw [g2] at z
      unfold pl
      by_cases c1 : y = -1
      · rw [if_pos c1] at z ⊢
        exact z
      · rw [if_neg c1, if_pos hy] at z
        rw [if_neg c1, if_pos hy]
        exact z
    have nowM : (sd.now : Int) ∈ heldS sd := List.mem_cons_self
    have now0 : (((pl (heldS sd) sd.now).toNat : Nat) : Int) = pl (heldS sd) sd.now := by
      have e : pl (heldS sd) sd.now = rk (heldS sd) sd.now := by
        unfold pl
        rw [if_neg (by omega), if_pos nowM]
      rw [e]
      exact toNat_rk _ _
    dsimp only [tCB, tCons, tNil, tLc, iTup, List.map]
    refine ⟨_, rfl, kt, rfl, ⟨_, sqT_same s15 hkt⟩, fun D2 nD2 => ?_⟩
    refine lc_tup (K := K) (xs := intV sd.kv) (fun i H' => Same H5 H' ∧ H' D2 = some (.lst (intV ((sd.kv.take i).map (pl (heldS sd)))))) ⟨same_upd nD2, upd_same⟩ (fun i H' _ z => sqT_same (s15.trans z.1) hkt) ?_ ?_
    · rintro i v H6 hv ⟨s6, hD2⟩
      unfold intV at hv
      rw [List.getElem?_map] at hv
      obtain ⟨y, hy, rfl⟩ := Option.map_eq_some_iff.mp hv
      have ym : y ∈ heldS sd := List.mem_cons_of_mem _ (List.mem_append_left _ (List.mem_of_getElem? hy))
      refine ⟨rfl, _, rfl, _, rfl, Pl, _, rfl, get _ y (hP5.same s6) ym, _, hD2, ?_, same_new s6 nD2, ?_⟩
      · unfold intV
        rw [List.length_map, List.length_map, List.length_take]
        exact small1000 (by omega)
      · rw [upd_same, take_snoc hy, List.map_append]
        exact congrArg (fun l => some (HO.lst l)) (intV_snoc _ _)
    · rintro H6 ⟨s6, hD2⟩
      have lkv : (intV sd.kv).length = sd.kv.length := by unfold intV; rw [List.length_map]
      rw [lkv, List.take_length] at hD2
      refine ⟨D2, _, rfl, SqL.of hD2, fun l ob nl od => ?_⟩
      have s7 := same_upd (o := .frz ob (.tup (intV (sd.kv.map (pl (heldS sd)))))) nl
      have hl : TupD (upd H6 l (.frz ob (.tup (intV (sd.kv.map (pl (heldS sd))))))) l (intV (sd.kv.map (pl (heldS sd)))) := ⟨ob, upd_same, od⟩
      generalize (upd H6 l (.frz ob (.tup (intV (sd.kv.map (pl (heldS sd))))))) = H7 at s7 hl
      have s67 := s6.trans s7
      refine ⟨_, rfl, _, rfl, Pl, _, rfl, get _ _ (hP5.same s67) nowM, ?_⟩
      refine ⟨_, rfl, D, _, rfl, .inr (SqL.of ((s3.trans (s5.trans s67)) _ _ (s2 _ _ hD))), (by show 3 ≤ sizeLine; decide), fun u nu => ?_⟩
      have s8 := same_upd (o := .tup (.ref o' :: .ref l :: .int (pl (heldS sd) sd.now) :: (([] : List V) ++ []))) nu
      have s68 := s67.trans s8
      refine k _ u (s15.trans s68) ⟨o', l, SqT.of ?_, ho'.same s68, (hl.same s8).sq⟩
      show upd H7 u _ u = some (.tup [.ref o', .ref l, .int (((pl (heldS sd) sd.now).toNat : Nat) : Int)])
      rw [upd_same, now0]
      rfl
end
end K17

namespace K17
open L2 PySem PySem.Spec PyProof.Rows RZ
abbrev sWMoves : Stmt := inClass (top 44) 2
abbrev sWReading : Stmt := inClass (top 44) 3
theorem sqL_same {K : PySem.W.Frag} {H H' : Hp} {p : Addr} {xs : List V} (s : Same H H') (h : SqL K H p xs) : SqL K H' p xs := by
  rcases h with (h | ⟨o, h⟩) | h
  · exact .inl (.inl (s _ _ h))
  · exact .inl (.inr ⟨o, s _ _ h⟩)
  · exact .inr h
/-- an event, whether it breaks, what comes -/
def MvAt (K : PySem.W.Frag) (H : Hp) (u : Addr) (v : Mv) : Prop := ∃ e r : Addr, SqT K H u [.ref e, .bl v.br, .ref r] ∧ EvT H e v.e ∧ SdAt K H r v.raw
theorem MvAt.same {K : PySem.W.Frag} {H H' : Hp} {u : Addr} {v : Mv} (h : MvAt K H u v) (s : Same H H') : MvAt K H' u v := by
  obtain ⟨e, r, a, b, c⟩ := h
  exact ⟨e, r, sqT_same s a, s _ _ b, c.same s⟩
theorem MvAt.wr {K : PySem.W.Frag} {H : Hp} {u D : Addr} {v : Mv} {zs : List V} {ob : HO} (h : MvAt K H u v) (hD : H D = some (.lst zs)) : MvAt K (upd H D ob) u v := by
  obtain ⟨e, r, a, b, c⟩ := h
  refine ⟨e, r, sqT_wr a hD, ?_, c.wr hD⟩
  have b' : H e = _ := b
  show upd H D ob e = _
  rw [upd_ne (fun z => by rw [z, hD] at b'; cases b')]
  exact b'
/-- a standing of the plan -/
structure SdOk (ya yb : Ys) (s : Sd) : Prop where
  ne : s.op ≠ []
  op : ∀ o ∈ s.op, o.1 < ya.length
  kv : s.kv.length = (kpP ya yb).length
  ol : s.op.length ≤ 4
section
variable {base : Heap} {P : Program} {w : World} {K : PySem.W.Frag} {mg : Str → Option Value}
/-! ### reading -/
def spReading (K : PySem.W.Frag) (C CR : Addr) : Sp := fun vs H Q _ => ∃ (x r t : Addr) (ws ya yb : List Str) (bs : List Bool) (s : Sd), vs = [.ref x, .ref t] ∧ WalkAt K H C x r ya.length ∧ RoadAt H CR r ws ya yb bs ∧ ya.length ≤ 4 ∧ SdAt K H t s ∧ SdOk ya yb s ∧
  ∀ H' u, Same H H' → MvAt K H' u (moveR ya yb s) → Q (.ref u) H'
abbrev nReading : List Str := ["self", "standing", "openings", "kept", "present", "rest", "last", "many", "numbers", "told", "changed"]
theorem scReading : FnScope nReading ["self", "standing"] (defScope sWReading) := ⟨rfl, rfl, rfl, by decide +kernel, rfl, by decide +kernel, by decide +kernel⟩
theorem ok_reading {f C CR : Addr} {fd : FuncData} (F : Fun K "reading" "PlanWalk.reading" sWReading f fd) (T : TxtX K mg) (L : WalkT K mg C) (RT : RoadT K mg CR) (GR : HasM P w K mg base CR "reads" 2 ["self", "part", "opening", "kept", "present"] (spReads K CR))
    (GJ : Has P w K mg base "judged" 1 ["manner", "numbers", "tail", "rest"] (spJudged K)) : FnOk P w K mg base CX0 3 f fd ["self", "standing"] (spReading K C CR) := by
  refine F.ok scReading (fun vs H Q E h => ?_) (fun cdv A outer s H vs Q E hr h => ?_)
  · obtain ⟨x, r, t, ws, ya, yb, bs, s, rfl, _⟩ := h
    rfl
  · obtain ⟨x, r, t, ws, ya, yb, bs, sd, rfl, wa, ra, y4, sa, so, k⟩ := h
    obtain ⟨o, kt, ht, ⟨ts, ho, pr⟩, hkt⟩ := id sa
    obtain ⟨t1, g1⟩ := T.none1
    have r1 : Room 1 _ := hr.mono (by decide)
    have r2 : Room 2 _ := hr.mono (by decide)
    refine ⟨_, pss_cons (ps_asg (pv 1) (pg_star (i := 3) rfl (pgs_cons (pg_name (i := 2) scReading.nd rfl (.inl rfl)) (pgs_cons (pg_name (i := 3) scReading.nd rfl (.inl rfl)) (pgs_cons (pg_name (i := 4) scReading.nd rfl (.inl rfl)) (pgs_star (pg_name (i := 5) scReading.nd rfl (.inl rfl)) pgs_nil))))))
      (pss_cons (ps_set (i := 6) scReading.nd rfl (.inl rfl) (pe_ix (r := rIxT K) ix_tup (pv 2) (pe_un un_neg pe_int) (fun _ _ => rfl)))
      (pss_cons (ps_set (i := 7) scReading.nd rfl (.inl rfl) (pe_op op_add pe_int (pe_fld (pe_fld (pv 0) rfl) rfl)))
      (pss_cons (ps_set (i := 8) scReading.nd rfl (.inl rfl) (pe_hasM GR RT.cl r2 (pe_fld (pv 0) rfl) (pa_cons (pe_ix (r := rIxT K) ix_tup (pv 6) pe_int (fun _ _ => rfl)) (pa_cons (pv 6) (pa_cons (pv 3) (pa_cons (pv 4) pa_nil))))))
      (pss_cons (ps_set (i := 9) scReading.nd rfl (.inl rfl) (pe_has GJ r1 (pa_cons (pe_fld (pv 0) rfl) (pa_cons (pv 8) (pa_cons (pe_slice (r := rSlA K) sl_tupA (pv 6) (po_some (pv 7)) po_none) (pa_cons (pv 5) pa_nil))))))
      (pss_cons (ps_if (pt_cmpR op_isN (pv 9) pe_non (nomark _)) (pss_one (ps_ret (pe_tup (pa_cons (pe_tup (pa_cons pe_str (pa_cons (pe_glob (v := .int (-1)) (by rfl) g1 ⟨_, rfl⟩) pa_nil))) (pa_cons pe_bl (pa_cons (pv 1) pa_nil)))))) pss_nil)
      (pss_cons (ps_set (i := 10) scReading.nd rfl (.inl rfl) (pe_tup (StX.pa_star (pe_slice (r := rSlA K) sl_tupA (pv 2) po_none (po_some (pe_un un_neg pe_int))) (pa_cons (pe_tup (StX.pa_star (pe_slice (r := rSlA K) sl_tupA (pv 6) po_none (po_some (pv 7))) (StX.pa_star (pe_ix (r := rIxT K) ix_tup (pv 9) pe_int (fun _ _ => rfl)) pa_nil))) pa_nil))))
      (pss_one (ps_ret (pe_tup (pa_cons (pe_tup (pa_cons pe_str (pa_cons (pe_glob (v := .int (-1)) (by rfl) g1 ⟨_, rfl⟩) pa_nil))) (pa_cons pe_bl (pa_cons (pe_tup (pa_cons (pv 10) (pa_cons (pv 3) (pa_cons (pv 4) (StX.pa_star (pe_ix (r := rIxT K) ix_tup (pv 9) pe_int (fun _ _ => rfl)) pa_nil))))) pa_nil)))))))))))), ?_⟩
    obtain ⟨dx, d, q, es, hx, hd, hq, hes⟩ := id wa
    obtain ⟨dr, na, c, pw, kp, tws, hr0, _⟩ := id ra.ex
    refine ⟨_, rfl, t, _, rfl, ht, (by show 3 ≤ 3; decide), (by show 3 ≤ 1000; decide), fun D nD => ?_⟩
    have s1 := same_upd (o := .lst []) nD
    refine ⟨_, _, rfl, _, _, rfl, _, _, rfl, _, _, rfl, rfl, ?_⟩
    have hD : (upd H D (.lst [])) D = some (.lst []) := upd_same
    show (tSeq _ _) _ _ (upd H D (.lst []))
    generalize (upd H D (.lst [])) = H1 at s1 hD
    obtain ⟨rops, elast⟩ := lastO_mem (w := toW sd) so.ne
    have elast' : sd.op = rops ++ [lastO (toW sd)] := elast
    have lp := so.op (lastO (toW sd)) (by rw [elast']; simp)
    rw [elast'] at pr
    obtain ⟨ts', tl, rfl, pr', hlast⟩ := paired_concat pr
    rw [List.map_append] at ho
    have ho' : SqT K H o (ts'.map V.ref ++ [V.ref tl]) := ho
    have ol := so.ol
    rw [elast', List.length_append] at ol
    have lts : ts'.length ≤ 5 := by
      have := Paired.length pr'
      omega
    refine ⟨_, rfl, 1, rfl, o, _, -1, .ref tl, rfl, rfl, sqT_same s1 ho', atI_last _ _, ?_⟩
    refine ⟨_, rfl, x, C, dx, _, .ref r, rfl, s1 _ _ hx, L.cl, L.n1, rfl, r, CR, dr, _, .int 2, rfl, s1 _ _ hr0, RT.cl, RT.n1, rfl, 1, 2, rfl, rfl, ?_⟩
    refine ⟨_, rfl, x, C, dx, _, .ref r, rfl, s1 _ _ hx, L.cl, L.n1, rfl, r, dr, _, rfl, s1 _ _ hr0, rfl, _, rfl, tl, _, 0, .int ((lastO (toW sd)).1 : Int), rfl, rfl, sqT_same s1 hlast, atI_nat (j := 0) rfl, _, rfl, _, rfl, _, rfl, r, tl, kt, (lastO (toW sd)).1, ws, ya, yb, bs, ((lastO (toW sd)).1 : Int), (lastO (toW sd)).2.1, (lastO (toW sd)).2.2, (sd.now : Int), sd.kv, rfl, ra.same s1, lp, y4, sqT_same s1 hlast, sqT_same s1 hkt, so.kv, fun H2 N s2 hN => ?_⟩
    have s12 := s1.trans s2
    refine ⟨_, rfl, x, C, dx, _, .str "alike", rfl, s12 _ _ hx, L.cl, L.n2, rfl, _, rfl, _, rfl, _, rfl, _, rfl, tl, _, rfl, sqT_same s12 hlast, (fun e => absurd e.1 (show ¬ HT.sIx 3 0 (some 3) = 0 by decide)), fun _ u nu => ?_⟩
    have s3 := same_upd (o := .tup (cutV [.int ((lastO (toW sd)).1 : Int), .int (lastO (toW sd)).2.1, .int (lastO (toW sd)).2.2] (some (1 + 2)) none)) nu
    have hu : (upd H2 u (.tup (cutV [.int ((lastO (toW sd)).1 : Int), .int (lastO (toW sd)).2.1, .int (lastO (toW sd)).2.2] (some (1 + 2)) none))) u = some (.tup []) := upd_same
    generalize (upd H2 u (.tup (cutV [.int ((lastO (toW sd)).1 : Int), .int (lastO (toW sd)).2.1, .int (lastO (toW sd)).2.2] (some (1 + 2)) none))) = H3 at s3 hu
    have s13 := s12.trans s3
    have rdE : TupD H2 N [.int (rdP ya yb (toW sd) (lastO (toW sd))).1, .int (rdP ya yb (toW sd) (lastO (toW sd))).2] := hN
    refine ⟨_, rfl, N, u, D, (rdP ya yb (toW sd) (lastO (toW sd))).1, (rdP ya yb (toW sd) (lastO (toW sd))).2, rfl, (rdE.same s3).sq, fun e0 => ?_, fun e1 H4 j s4 hj => ?_⟩
    · have mv : moveR ya yb sd = ⟨.read, true, sd⟩ := by
        unfold moveR unlS
        rw [decide_eq_true e0]
      refine ⟨_, rfl, rfl, _, rfl, ?_⟩
      refine ite2 (fun _ => ?_) (fun z => absurd (decide_eq_true rfl) z)
      refine ⟨(by show 2 ≤ sizeLine; decide), fun e ne => ⟨_, rfl, (by show 3 ≤ sizeLine; decide), fun u2 nu2 => ?_⟩⟩
      have s5 := same_upd (o := .tup [.str "read", .int (-1)]) ne
      have s6 := same_upd (o := .tup [.ref e, .bl true, .ref t]) nu2
      refine k _ u2 ((s13.trans s5).trans s6) ?_
      rw [mv]
      exact ⟨e, t, SqT.of upd_same, s6 _ _ upd_same, sa.same ((s13.trans s5).trans s6)⟩
    · have s14 := s13.trans s4
      have mv : moveR ya yb sd = ⟨.read, false, sd⟩ := by
        unfold moveR unlS
        rw [decide_eq_false (fun z => z e1)]
      refine ⟨_, rfl, rfl, _, rfl, ?_⟩
      refine ite2 (fun z => by cases of_decide_eq_true z) (fun _ => ?_)
      refine ⟨_, rfl, 1, rfl, _, rfl, o, _, rfl, sqT_same s14 ho', (fun e => absurd e not_whole), fun _ a na2 => ?_⟩
      rw [show cutV (ts'.map V.ref ++ [V.ref tl]) none (some (-1)) = ts'.map V.ref from cut_last]
      have s5 := same_upd (o := .tup (ts'.map V.ref)) na2
      have ha : (upd H4 a (.tup (ts'.map V.ref))) a = some (.tup (ts'.map V.ref)) := upd_same
      generalize (upd H4 a (.tup (ts'.map V.ref))) = H5 at s5 ha
      have s15 := s14.trans s5
      refine ⟨a, _, rfl, .inl (SqT.of ha), ?_⟩
      refine ⟨_, rfl, _, rfl, _, rfl, tl, _, rfl, sqT_same s15 hlast, (fun _ => ?_), fun q => absurd (show HT.sIx 3 0 none = 0 ∧ HT.sIx 3 3 (some 3) = 3 by decide) q⟩
      refine ⟨tl, _, rfl, .inl (sqT_same s15 hlast), _, rfl, j, _, 0, .ref u, rfl, rfl, SqT.of (s5 _ _ hj), atI_nat (j := 0) rfl, u, _, rfl, .inl (SqT.of ((s4.trans s5) _ _ hu)), (by show 3 ≤ sizeLine; decide), fun g ng => ?_⟩
      have e7 : (upd H5 g (.tup ([.int ((lastO (toW sd)).1 : Int), .int (lastO (toW sd)).2.1, .int (lastO (toW sd)).2.2] ++ (([] : List V) ++ [])))) = upd H5 g (.tup [.int ((lastO (toW sd)).1 : Int), .int (lastO (toW sd)).2.1, .int (lastO (toW sd)).2.2]) := rfl
      rw [e7]
      have s7 := same_upd (o := .tup [.int ((lastO (toW sd)).1 : Int), .int (lastO (toW sd)).2.1, .int (lastO (toW sd)).2.2]) ng
      have hg : (upd H5 g (.tup [.int ((lastO (toW sd)).1 : Int), .int (lastO (toW sd)).2.1, .int (lastO (toW sd)).2.2])) g = some (.tup [.int ((lastO (toW sd)).1 : Int), .int (lastO (toW sd)).2.1, .int (lastO (toW sd)).2.2]) := upd_same
      generalize (upd H5 g (.tup [.int ((lastO (toW sd)).1 : Int), .int (lastO (toW sd)).2.1, .int (lastO (toW sd)).2.2])) = H7 at s7 hg
      have s47 := s5.trans s7
      refine ⟨?_, fun ch nch => ?_⟩
      · rw [List.length_append, List.length_map]
        show ts'.length + 1 ≤ sizeLine
        exact Nat.le_of_lt (small1000 (by omega))
      have s8 := same_upd (o := .tup (ts'.map V.ref ++ [.ref g])) nch
      have hch : (upd H7 ch (.tup (ts'.map V.ref ++ [.ref g]))) ch = some (.tup ((ts' ++ [g]).map V.ref)) := by rw [upd_same, List.map_append]; rfl
      generalize (upd H7 ch (.tup (ts'.map V.ref ++ [.ref g]))) = H8 at s8 hch
      have s48 := s47.trans s8
      refine ⟨(by show 2 ≤ sizeLine; decide), fun e ne => ?_⟩
      have s9 := same_upd (o := .tup [.str "read", .int (-1)]) ne
      have he : (upd H8 e (.tup [.str "read", .int (-1)])) e = some (.tup [.str "read", .int (-1)]) := upd_same
      generalize (upd H8 e (.tup [.str "read", .int (-1)])) = H9 at s9 he
      have s49 := s48.trans s9
      refine ⟨_, rfl, _, rfl, _, rfl, _, rfl, j, _, 1, .ref D, rfl, rfl, SqT.of (s49 _ _ hj), atI_nat (j := 1) rfl, D, _, rfl, .inr (SqL.of ((((s2.trans s3).trans s4).trans s49) _ _ hD)), (by show 3 ≤ sizeLine; decide), fun sn nsn => ?_⟩
      have e10 : (upd H9 sn (.tup (.ref ch :: .ref kt :: .int (sd.now : Int) :: (([] : List V) ++ [])))) = upd H9 sn (.tup [.ref ch, .ref kt, .int (sd.now : Int)]) := rfl
      rw [e10]
      have s10 := same_upd (o := .tup [.ref ch, .ref kt, .int (sd.now : Int)]) nsn
      have hsn : (upd H9 sn (.tup [.ref ch, .ref kt, .int (sd.now : Int)])) sn = some (.tup [.ref ch, .ref kt, .int (sd.now : Int)]) := upd_same
      generalize (upd H9 sn (.tup [.ref ch, .ref kt, .int (sd.now : Int)])) = H10 at s10 hsn
      refine ⟨(by show 3 ≤ sizeLine; decide), fun u2 nu2 => ?_⟩
      have s11 := same_upd (o := .tup [.ref e, .bl false, .ref sn]) nu2
      have sAll := (s14.trans s49).trans (s10.trans s11)
      refine k _ u2 sAll ?_
      rw [mv]
      have s8e := (s9.trans s10).trans s11
      refine ⟨e, sn, SqT.of upd_same, (s10.trans s11) _ _ he, ch, kt, SqT.of (s11 _ _ hsn), ⟨ts' ++ [g], SqT.of (s8e _ _ hch), ?_⟩, sqT_same sAll hkt⟩
      show Paired _ _ sd.op
      rw [elast']
      exact paired_snoc (paired_mono (fun _ _ z => sqT_same sAll z) pr') (SqT.of ((s8.trans s8e) _ _ hg))
end
end K17

namespace K17
open L2 PySem PySem.Spec PyProof.Rows RZ
/-- of the quiet events, those that can't come -/
theorem no_can {ya yb : Ys} {bs : List Bool} {w : Ws} {e : Ev} (he : e ∈ qev ya.length) (hb : bs.length = ya.length) (ho : ∀ o ∈ w.op, o.1 < ya.length) (h : canB ya yb bs w e = false) : ∃ p, NoCan ya yb bs w (evW e) p (evP e) := by
  have hn : ¬ CanP ya yb bs w e := fun z => by rw [canB_iff.mpr z] at h; cases h
  have mem : ∀ {p : Nat}, (e = .ask p ∨ e = .ren p) → p < ya.length := by
    intro p hp
    unfold qev at he
    rcases List.mem_append.mp he with q | q
    · rcases hp with rfl | rfl <;> simp at q
    · rcases List.mem_append.mp q with q | q <;> (obtain ⟨j, hj, z⟩ := List.mem_map.mp q; have := List.mem_range.mp hj; rcases hp with rfl | rfl <;> cases z <;> exact this)
  cases e with
  | inst => exact absurd True.intro hn
  | read => exact absurd rfl (qev_noread he)
  | back =>
    have : w.op = [] := Classical.byContradiction fun q => hn q
    exact ⟨0, .inr (.inr (.inl ⟨by decide +kernel, this⟩))⟩
  | take =>
    by_cases q : w.op = []
    · exact ⟨0, .inr (.inr (.inl ⟨by decide +kernel, q⟩))⟩
    · obtain ⟨r, er⟩ := lastO_mem q
      have lp := ho (lastO w) (by rw [er]; simp)
      refine ⟨0, .inr (.inr (.inr ⟨q, .inl ⟨rfl, ?_⟩⟩))⟩
      cases hb2 : bs[(lastO w).1]? with
      | none =>
        rw [List.getElem?_eq_none_iff] at hb2
        omega
      | some b =>
        cases b with
        | false => rfl
        | true => exact absurd ⟨r, lastO w, er, hb2⟩ hn
  | ask p =>
    by_cases q : w.op = []
    · exact ⟨p, .inr (.inr (.inl ⟨(show ("ask" : Str) ∈ own4 by decide +kernel), q⟩))⟩
    · obtain ⟨r, er⟩ := lastO_mem q
      refine ⟨p, .inr (.inr (.inr ⟨q, .inr ⟨rfl, rfl, ?_⟩⟩))⟩
      exact Nat.le_of_not_lt fun z => hn ⟨r, lastO w, er, z, mem (.inl rfl)⟩
  | ren p => exact ⟨p, .inr (.inl ⟨rfl, rfl, mem (.inr rfl), hn⟩)⟩
section
variable {base : Heap} {P : Program} {w : World} {K : PySem.W.Frag} {mg : Str → Option Value}
/-! ### moves -/
def spAfterB (K : PySem.W.Frag) (C : Addr) : Sp := fun vs H Q E => spAfter K C vs H Q E ∨ spAfterN K C vs H Q E
def spMoves (K : PySem.W.Frag) (C CR : Addr) : Sp := fun vs H Q _ => ∃ (x r t : Addr) (ws ya yb : List Str) (bs : List Bool) (s : Sd), vs = [.ref x, .ref t] ∧ WalkAt K H C x r ya.length ∧ RoadAt H CR r ws ya yb bs ∧ ya.length ≤ 4 ∧ bs.length = ya.length ∧ SdAt K H t s ∧ SdOk ya yb s ∧
  ∀ H' q us, Same H H' → H q = none → H' q = some (.lst (us.map V.ref)) → Paired (MvAt K H') us (movesS ya yb bs s) → Q (.ref q) H'
abbrev nMoves : List Str := ["self", "standing", "openings", "kept", "present", "rest", "rows", "event", "where"]
theorem scMoves : FnScope nMoves ["self", "standing"] (defScope sWMoves) := ⟨rfl, rfl, rfl, by decide +kernel, rfl, by decide +kernel, by decide +kernel⟩
theorem qev_len (n : Nat) : (qev n).length = 3 + (n + n) := by
  unfold qev
  rw [List.length_append, List.length_append, List.length_map, List.length_map, List.length_range]
  rfl
theorem ok_moves {f C CR : Addr} {fd : FuncData} (F : Fun K "moves" "PlanWalk.moves" sWMoves f fd) (T : TxtX K mg) (L : WalkT K mg C) (RT : RoadT K mg CR) (GA : Has P w K mg base "after" 4 ["road", "where", "event", "tail"] (spAfterB K CR)) (GT : Has P w K mg base "first_tail" 1 ["manner"] spFirstTail)
    (GR : HasM P w K mg base C "reading" 3 ["self", "standing"] (spReading K C CR)) : FnOk P w K mg base CX0 5 f fd ["self", "standing"] (spMoves K C CR) := by
  refine F.ok scMoves (fun vs H Q E h => ?_) (fun cdv A outer s H vs Q E hr h => ?_)
  · obtain ⟨x, r, t, ws, ya, yb, bs, s, rfl, _⟩ := h
    rfl
  · obtain ⟨x, r, t, ws, ya, yb, bs, sd, rfl, wa, ra, y4, lb, sa, so, k⟩ := h
    obtain ⟨o, kt, ht, hops, hkt⟩ := id sa
    have r1 : Room 1 _ := hr.mono (by decide)
    have r3 : Room 3 _ := hr.mono (by decide)
    refine ⟨_, pss_cons (ps_asg (pv 1) (pg_star (i := 3) rfl (pgs_cons (pg_name (i := 2) scMoves.nd rfl (.inl rfl)) (pgs_cons (pg_name (i := 3) scMoves.nd rfl (.inl rfl)) (pgs_cons (pg_name (i := 4) scMoves.nd rfl (.inl rfl)) (pgs_star (pg_name (i := 5) scMoves.nd rfl (.inl rfl)) pgs_nil))))))
      (pss_cons (ps_set (i := 6) scMoves.nd rfl (.inl rfl) (pe_lst pa_nil))
      (pss_cons (ps_for PassesOwn.never rfl (pi_list (pe_fld (pv 0) rfl)) (pg_name (i := 7) scMoves.nd rfl (.inl rfl))
        (pss_cons (ps_set (i := 8) scMoves.nd rfl (.inl rfl) (pe_has GA hr (pa_cons (pe_fld (pv 0) rfl) (pa_cons (pe_tup (pa_cons (pv 2) (pa_cons (pv 3) (pa_cons (pv 4) pa_nil)))) (pa_cons (pv 7) (pa_cons (pe_has GT r1 (pa_cons (pe_fld (pv 0) rfl) pa_nil)) pa_nil))))))
        (pss_one (ps_if (pt_cmpR op_notN (pv 8) pe_non (nomark _)) (pss_one (ps_expr (pe_bm PySem.F.plainAttrs_list PySem.F.slot_list_append PySem.F.type_list_append mt_append (pv 6) (pa_cons (pe_tup (pa_cons (pv 7) (pa_cons pe_bl (pa_cons (pe_tup (StX.pa_star (pv 8) (StX.pa_star (pv 5) pa_nil))) pa_nil)))) pa_nil)))) pss_nil))))
      (pss_cons (ps_expr (pe_bm PySem.F.plainAttrs_list PySem.F.slot_list_append PySem.F.type_list_append mt_append (pv 6) (pa_cons (pe_hasM GR L.cl r3 (pv 0) (pa_cons (pv 1) pa_nil)) pa_nil)))
      (pss_one (ps_ret (pv 6)))))), ?_⟩
    obtain ⟨dx, d, qa, es, hx, hd, hqa, hes⟩ := id wa
    refine ⟨_, rfl, t, _, rfl, ht, (by show 3 ≤ 3; decide), (by show 3 ≤ 1000; decide), fun D nD => ?_⟩
    have s1 := same_upd (o := .lst []) nD
    refine ⟨_, _, rfl, _, _, rfl, _, _, rfl, _, _, rfl, rfl, ?_⟩
    have hD : (upd H D (.lst [])) D = some (.lst []) := upd_same
    show (tSeq _ _) _ _ (upd H D (.lst []))
    generalize (upd H D (.lst [])) = H1 at s1 hD
    refine ⟨(by show 0 ≤ sizeLine; exact Nat.zero_le _), fun R nR => ?_⟩
    have fR := free_of s1 nR
    have s2 := same_upd (o := .lst []) nR
    have hR2 : (upd H1 R (.lst [])) R = some (.lst []) := upd_same
    show (tSeq _ _) _ _ (upd H1 R (.lst []))
    generalize (upd H1 R (.lst [])) = H2 at s2 hR2
    have s12 := s1.trans s2
    have hD2 := s2 _ _ hD
    have nDR : D ≠ R := fun e => by
      rw [e, nR] at hD
      cases hD
    have nxR : ∀ {a : Addr} {ob : HO}, H a = some ob → a ≠ R := fun z e => by rw [e, fR] at z; cases z
    refine ⟨_, rfl, x, C, dx, _, .ref qa, rfl, s12 _ _ hx, L.cl, L.n4, rfl, qa, rfl, ⟨_, SqL.of (s12 _ _ hqa)⟩, ?_⟩
    have les : es.length = (qev ya.length).length := Paired.length hes
    have lq := qev_len ya.length
    have okS : OkP ya yb (toW sd) := ⟨so.kv, so.op, so.ol⟩
    refine for_list (K := K) (xs := es.map V.ref) (fun i σ H' => Same H H' ∧ H' D = some (.lst []) ∧ (∃ b c, σ = [some (.ref x), some (.ref t), some (.ref o), some (.ref kt), some (.int (sd.now : Int)), some (.ref D), some (.ref R), b, c]) ∧ ∃ us : List Addr, H' R = some (.lst (us.map V.ref)) ∧ us.length ≤ i ∧ Paired (MvAt K H') us (((qev ya.length).take i).filterMap (moveQ ya yb bs sd)))
      ⟨s12, hD2, ⟨_, _, rfl⟩, [], hR2, Nat.le_refl _, .nil⟩ (fun i σ H' _ z => SqL.of (z.1 _ _ hqa)) ?_ ?_
    · rintro i v σ H3 hv ⟨s3, hD3, ⟨b, c, rfl⟩, us, hR3, lus, pus⟩
      rw [List.getElem?_map] at hv
      obtain ⟨et, het, rfl⟩ := Option.map_eq_some_iff.mp hv
      obtain ⟨e, he1, he2⟩ := paired_get hes het
      have he2' : H et = some (.tup [.str (evW e), .int (evP e)]) := he2
      have il := (List.getElem?_eq_some_iff.mp het).1
      have em := List.mem_of_getElem? he1
      have tk := take_snoc he1
      refine ⟨_, rfl, x, C, dx, _, .ref r, rfl, s3 _ _ hx, L.cl, L.n1, rfl, _, rfl, _, rfl, _, rfl, (by show 3 ≤ sizeLine; decide), fun wh nwh => ?_⟩
      have s4 := same_upd (o := .tup [.ref o, .ref kt, .int (sd.now : Int)]) nwh
      have hwh : (upd H3 wh (.tup [.ref o, .ref kt, .int (sd.now : Int)])) wh = some (.tup [.ref o, .ref kt, .int (sd.now : Int)]) := upd_same
      generalize (upd H3 wh (.tup [.ref o, .ref kt, .int (sd.now : Int)])) = H4 at s4 hwh
      have s04 := s3.trans s4
      refine ⟨_, rfl, _, rfl, x, C, dx, _, .str "alike", rfl, s04 _ _ hx, L.cl, L.n2, rfl, rfl, fun H5 tt s5 htt => ?_⟩
      have s05 := s04.trans s5
      have wat : WhAt K H5 wh (toW sd) := ⟨o, kt, SqT.of (s5 _ _ hwh), hops.same s05, sqT_same s05 hkt⟩
      cases hc : canB ya yb bs (toW sd) e with
      | true =>
        have fm : ((qev ya.length).take (i + 1)).filterMap (moveQ ya yb bs sd) = ((qev ya.length).take i).filterMap (moveQ ya yb bs sd) ++ [⟨e, false, stepS ya yb sd e⟩] := by
          rw [tk, List.filterMap_append]
          refine congrArg _ ?_
          have : moveQ ya yb bs sd e = some ⟨e, false, stepS ya yb sd e⟩ := if_pos hc
          rw [List.filterMap_cons, this]
          rfl
        refine .inl ⟨r, wh, et, tt, ws, ya, yb, bs, toW sd, e, rfl, ra.same s05, y4, wat, s05 _ _ he2', SqT.of htt, okS, canB_iff.mp hc, fun H6 nw s6 hnw => ?_⟩
        obtain ⟨o', kt', hn1, hn2, hn3⟩ := hnw
        have s56 := s5.trans s6
        have s36 := s4.trans s56
        refine ⟨_, rfl, rfl, _, rfl, ?_⟩
        refine ite2 (fun _ => ?_) (fun z => absurd (show (!decide (V.ref nw = V.non)) = true by rw [decide_eq_false (fun z => by cases z)]; rfl) z)
        refine ⟨_, rfl, .inl ⟨rfl, _, SqL.of (s36 _ _ hR3)⟩, _, rfl, _, rfl, nw, _, rfl, .inl hn1, _, rfl, D, _, rfl, .inr (SqL.of (s36 _ _ hD3)), (by show 3 ≤ sizeLine; decide), fun sn nsn => ?_⟩
        have s7 := same_upd (o := .tup ([.ref o', .ref kt', .int ((stepP ya yb (toW sd) e).now : Int)] ++ (([] : List V) ++ []))) nsn
        have hsn : (upd H6 sn (.tup ([.ref o', .ref kt', .int ((stepP ya yb (toW sd) e).now : Int)] ++ (([] : List V) ++ [])))) sn = some (.tup [.ref o', .ref kt', .int ((stepP ya yb (toW sd) e).now : Int)]) := upd_same
        generalize (upd H6 sn (.tup ([.ref o', .ref kt', .int ((stepP ya yb (toW sd) e).now : Int)] ++ (([] : List V) ++ [])))) = H7 at s7 hsn
        refine ⟨(by show 3 ≤ sizeLine; decide), fun u nu => ?_⟩
        have s8 := same_upd (o := .tup [.ref et, .bl false, .ref sn]) nu
        have hu : (upd H7 u (.tup [.ref et, .bl false, .ref sn])) u = some (.tup [.ref et, .bl false, .ref sn]) := upd_same
        generalize (upd H7 u (.tup [.ref et, .bl false, .ref sn])) = H8 at s8 hu
        have s38 := s36.trans (s7.trans s8)
        have hR8 := s38 _ _ hR3
        refine ⟨R, _, _, rfl, rfl, hR8, by rw [List.length_map]; exact small1000 (by omega), ?_⟩
        refine ⟨same_new (s3.trans s38) fR, by rw [upd_ne nDR]; exact s38 _ _ hD3, ⟨_, _, rfl⟩, us ++ [u], by rw [upd_same, List.map_append]; rfl, by rw [List.length_append]; show us.length + 1 ≤ i + 1; omega, ?_⟩
        rw [fm]
        refine paired_snoc (paired_mono (fun _ _ z => MvAt.wr (MvAt.same z s38) hR8) pus) (MvAt.wr ⟨et, sn, SqT.of hu, (s3.trans s38) _ _ he2', o', kt', SqT.of (s8 _ _ hsn), hn2.same (s7.trans s8), sqT_same (s7.trans s8) hn3⟩ hR8)
      | false =>
        have fm : ((qev ya.length).take (i + 1)).filterMap (moveQ ya yb bs sd) = ((qev ya.length).take i).filterMap (moveQ ya yb bs sd) := by
          rw [tk, List.filterMap_append]
          have : moveQ ya yb bs sd e = none := if_neg (by rw [hc]; decide)
          rw [List.filterMap_cons, this]
          exact List.append_nil _
        obtain ⟨pp, nc⟩ := no_can (w := toW sd) em lb so.op hc
        refine .inr ⟨r, wh, et, tt, ws, ya, yb, bs, toW sd, evW e, pp, evP e, rfl, ra.same s05, wat, s05 _ _ he2', okS, nc, fun H6 s6 => ?_⟩
        have s36 := s4.trans (s5.trans s6)
        refine ⟨_, rfl, rfl, _, rfl, ?_⟩
        refine ite2 (fun z => absurd z (by decide)) (fun _ => ?_)
        refine ⟨s3.trans s36, s36 _ _ hD3, ⟨_, _, rfl⟩, us, s36 _ _ hR3, by omega, ?_⟩
        rw [fm]
        exact paired_mono (fun _ _ z => MvAt.same z s36) pus
    · rintro σ H3 ⟨s3, hD3, ⟨b, c, rfl⟩, us, hR3, lus, pus⟩
      rw [List.length_map, les, List.take_length] at pus
      rw [List.length_map, les, lq] at lus
      refine ⟨_, rfl, .inl ⟨rfl, _, SqL.of hR3⟩, ?_⟩
      refine ⟨_, rfl, x, dx, _, rfl, s3 _ _ hx, rfl, _, rfl, x, r, t, ws, ya, yb, bs, sd, rfl, wa.same s3, ra.same s3, y4, sa.same s3, so, fun H4 u s4 hu => ?_⟩
      have hR4 := s4 _ _ hR3
      refine ⟨R, _, _, rfl, rfl, hR4, by rw [List.length_map]; exact small1000 (by omega), ?_⟩
      refine ⟨_, rfl, k _ R (us ++ [u]) (same_new (s3.trans s4) fR) fR (by rw [upd_same, List.map_append]; rfl) ?_⟩
      exact paired_snoc (paired_mono (fun _ _ z => MvAt.wr (MvAt.same z s4) hR4) pus) (MvAt.wr hu hR4)
end
end K17

namespace DN
open L2 PySem PySem.Spec PyProof.Rows
/-! ### slices with a step -/
def pickI {α : Type} (xs : List α) (ix : List Nat) : List α := ix.filterMap fun i => xs[i]?
def pickV (xs : List V) (lo hi st : Option Int) : List V := pickI xs (sliceRange (sliceBounds lo hi st xs.length).1 (sliceBounds lo hi st xs.length).2.1 (sliceBounds lo hi st xs.length).2.2)
theorem vals_at : ∀ {xs : List V} {us : List Value} (i : Nat), Vals xs us → (∃ x u, xs[i]? = some x ∧ us[i]? = some u ∧ RelV x u) ∨ (xs[i]? = none ∧ us[i]? = none)
  | _, _, _, .nil => .inr ⟨by simp, by simp⟩
  | _, _, 0, .cons r _ => .inl ⟨_, _, rfl, rfl, r⟩
  | _, _, i + 1, .cons _ rs => by
    rcases vals_at i rs with ⟨x, u, a, b, c⟩ | ⟨a, b⟩
    · exact .inl ⟨x, u, a, b, c⟩
    · exact .inr ⟨a, b⟩
theorem vals_pick {xs : List V} {us : List Value} (r : Vals xs us) : ∀ ix : List Nat, Vals (pickI xs ix) (pickI us ix)
  | [] => .nil
  | i :: ix => by
    unfold pickI
    rcases vals_at i r with ⟨x, u, a, b, c⟩ | ⟨a, b⟩
    · rw [List.filterMap_cons, List.filterMap_cons, a, b]
      exact .cons c (vals_pick r ix)
    · rw [List.filterMap_cons, List.filterMap_cons, a, b]
      exact vals_pick r ix
section
variable {X : Cx}
def tSlSt (K : PySem.W.Frag) (te : TE) (tl ts : L2.St → Hp → (Option Int → Hp → Prop) → Prop) : TE := fun σ H Q => te σ H fun x H1 => tl σ H1 fun lo H2 => ts σ H2 fun st H3 => ∃ a xs, x = .ref a ∧ SqL K H3 a xs ∧ st ≠ some 0 ∧ (pickV xs lo none st).length ≤ sizeLine ∧
  ∀ p, H3 p = none → Q (.ref p) (upd H3 p (.lst (pickV xs lo none st)))
theorem pe_slSt {e : Expr} {te : TE} {lo : Option Expr} {st : Expr} {tl ts : L2.St → Hp → (Option Int → Hp → Prop) → Prop} {p3 pos : Pos} (he : PE X e te) (hl : PO X lo tl) (hs : PO X (some st) ts) : PE X (.Subscript e (.Slice lo none (some st) p3) pos) (tSlSt X.K te tl ts) := by
  refine ⟨fun pins s σ H Q I h => ?_⟩
  refine Subscript_ (thn (he.run pins s σ H _ I h) fun v s1 ⟨x, H1, I1, r1, q1⟩ => ?_)
  refine wpAny_Slice (thn (hl.run pins s1 σ H1 _ I1 q1) fun vl s2 ⟨l, H2, I2, pl, q2⟩ => ?_)
  refine thn (po_none.run pins s2 σ H2 (fun o H3 => o = none ∧ H3 = H2) I2 ⟨rfl, rfl⟩) fun vu s3 ⟨u, H3, I3, pu, eu, e3⟩ => ?_
  subst eu e3
  refine thn (hs.run pins s3 σ _ _ I3 q2) fun vs s4 ⟨o, H4, I4, ps, a, xs, ex, hx, n0, hz2, q⟩ => ?_
  subst ex
  cases r1
  have I5 : Inv X pins σ H4 { s4 with heap := s4.heap.push { cls := .type "slice", data := .fields #[vl, vu, vs] } } := I4.kept (t' := s4.toks) fun b ob q => Heap.get?_push_of_some _ q
  obtain ⟨its, r, ht, hz⟩ := I5.list hx
  have hlen := r.length
  show wpAny (model X.prog X.w) X.A (subscriptTail e (.Slice lo none (some st) p3) (.ref a) (.ref s4.heap.objs.size)) (EP X pins σ Q) X.xe { s4 with heap := s4.heap.push { cls := .type "slice", data := .fields #[vl, vu, vs] } }
  refine tail_any (ops := [.ref a, .ref s4.heap.objs.size]) ht.isList.typeIs (PySem.slot_list_getitem.lookup) ?_ (by with_unfolding_all rfl)
  refine wpAny_getItem_list_slice ht.isList (Heap.IsSliceOf.new _ vl vu vs) pl pu ps n0 ?_ (by rw [List.size_toArray]; omega)
  have ep : slicePick its.toArray l none o = (pickI its (sliceRange (sliceBounds l none o xs.length).1 (sliceBounds l none o xs.length).2.1 (sliceBounds l none o xs.length).2.2)).toArray := by
    unfold slicePick pickI
    rw [List.size_toArray, ← hlen]
    congr 1
    congr 1
    funext i
    simp
  rw [ep]
  refine ⟨.ref _, _, I5.laid (t' := s4.toks) (o := .lst (pickV xs l none o)) (fun b ob q => Heap.get?_push_of_some _ q) (Nat.le_refl _) ?_, rfl, q _ (I5.hok.fresh (Nat.le_refl _))⟩
  exact ⟨hz2, _, 0, vals_pick r _, Heap.get?_push_size _ rfl⟩
end
theorem fm_congr {α β : Type} {f g : α → Option β} : ∀ {l : List α}, (∀ x ∈ l, f x = g x) → l.filterMap f = l.filterMap g
  | [], _ => rfl
  | a :: l, h => by
    rw [List.filterMap_cons, List.filterMap_cons, h a List.mem_cons_self, fm_congr fun x hx => h x (List.mem_cons_of_mem _ hx)]
theorem pick_rev {α : Type} (xs : List α) : pickI xs (sliceRange (sliceBounds none none (some (-1)) xs.length).1 (sliceBounds none none (some (-1)) xs.length).2.1 (sliceBounds none none (some (-1)) xs.length).2.2) = xs.reverse := by
  have e1 : sliceBounds none none (some (-1)) xs.length = ((xs.length : Int) - 1, -1, -1) := rfl
  rw [e1]
  have e2 : sliceRange ((xs.length : Int) - 1) (-1) (-1) = (List.range xs.length).map fun k => xs.length - 1 - k := by
    have c : (if (-1 : Int) > 0 then (if (xs.length : Int) - 1 < -1 then (-1 - ((xs.length : Int) - 1) + -1 - 1) / -1 else 0) else (if (xs.length : Int) - 1 > -1 then (((xs.length : Int) - 1) - -1 - -1 - 1) / (- -1) else 0)).toNat = xs.length := by
      rw [if_neg (by decide)]
      by_cases h : (xs.length : Int) - 1 > -1
      · rw [if_pos h, show (- -1 : Int) = 1 from rfl, Int.ediv_one]
        omega
      · rw [if_neg h]
        show 0 = _
        omega
    have r : sliceRange ((xs.length : Int) - 1) (-1) (-1) = (List.range (if (-1 : Int) > 0 then (if (xs.length : Int) - 1 < -1 then (-1 - ((xs.length : Int) - 1) + -1 - 1) / -1 else 0) else (if (xs.length : Int) - 1 > -1 then (((xs.length : Int) - 1) - -1 - -1 - 1) / (- -1) else 0)).toNat).map fun (k : Nat) => ((xs.length : Int) - 1 + -1 * (k : Int)).toNat := rfl
    rw [r, c]
    refine List.map_congr_left fun k hk => ?_
    have := List.mem_range.mp hk
    omega
  show pickI xs (sliceRange ((xs.length : Int) - 1) (-1) (-1)) = _
  rw [e2]
  unfold pickI
  apply List.ext_getElem?
  intro j
  rw [List.filterMap_map]
  have e3 : (List.range xs.length).filterMap ((fun i => xs[i]?) ∘ fun k => xs.length - 1 - k) = (List.range xs.length).filterMap fun k => xs.reverse[k]? := by
    refine fm_congr fun k hk => ?_
    have := List.mem_range.mp hk
    show xs[xs.length - 1 - k]? = xs.reverse[k]?
    rw [List.getElem?_reverse this]
  rw [e3]
  have e4 : ∀ (ys : List α) (n : Nat), n ≤ ys.length → (List.range n).filterMap (fun k => ys[k]?) = ys.take n := by
    intro ys n
    induction n with
    | zero => intro _; rfl
    | succ n ih =>
      intro h
      rw [List.range_succ, List.filterMap_append, ih (by omega), List.take_add_one]
      refine congrArg _ ?_
      cases q : ys[n]? with
      | none => simp [q]
      | some a => simp [q]
  rw [e4 _ _ (by rw [List.length_reverse]; exact Nat.le_refl _), List.take_of_length_le (by rw [List.length_reverse]; exact Nat.le_refl _)]
theorem pickV_rev (xs : List V) : pickV xs none none (some (-1)) = xs.reverse := pick_rev xs
end DN

namespace K17
open L2 PySem PySem.Spec PyProof.Rows RZ
abbrev sWayTo : Stmt := top 38
/-! ### standings as keys -/
def opKey (o : Nat × Int × Int) : NestedKey := .tup [.num (o.1 : Int), .num o.2.1, .num o.2.2]
def nkey (s : Sd) : NestedKey := .tup [.tup (s.op.map opKey), .tup (s.kv.map .num), .num (s.now : Int)]
theorem opKey_inj {a b : Nat × Int × Int} (h : opKey a = opKey b) : a = b := by
  unfold opKey at h
  injection h with h
  injection h with h1 h2
  injection h2 with h2 h3
  injection h3 with h3 _
  injection h1 with h1
  injection h2 with h2
  injection h3 with h3
  obtain ⟨a1, a2, a3⟩ := a
  obtain ⟨b1, b2, b3⟩ := b
  have e1 : a1 = b1 := by
    have : (a1 : Int) = (b1 : Int) := h1
    omega
  have e2 : a2 = b2 := h2
  have e3 : a3 = b3 := h3
  rw [e1, e2, e3]
theorem map_inj {α β : Type} {f : α → β} (hf : ∀ a b, f a = f b → a = b) : ∀ {l l' : List α}, l.map f = l'.map f → l = l'
  | [], [], _ => rfl
  | [], _ :: _, h => nomatch h
  | _ :: _, [], h => nomatch h
  | a :: l, b :: l', h => by
    rw [List.map_cons, List.map_cons] at h
    injection h with h1 h2
    rw [hf a b h1, map_inj hf h2]
theorem nkey_inj {s t : Sd} (h : nkey s = nkey t) : s = t := by
  unfold nkey at h
  injection h with h
  injection h with h1 h2
  injection h2 with h2 h3
  injection h3 with h3 _
  injection h1 with h1
  injection h2 with h2
  injection h3 with h3
  obtain ⟨o1, k1, n1⟩ := s
  obtain ⟨o2, k2, n2⟩ := t
  have e1 : o1 = o2 := map_inj (fun _ _ z => opKey_inj z) h1
  have e2 : k1 = k2 := map_inj (fun _ _ z => by injection z) h2
  have e3 : n1 = n2 := by
    have : (n1 : Int) = (n2 : Int) := h3
    omega
  rw [e1, e2, e3]
theorem depth_le {n : Nat} : ∀ {ks : List NestedKey}, (∀ k ∈ ks, k.depth ≤ n) → NestedKey.depthAll ks ≤ n
  | [], _ => Nat.zero_le _
  | k :: ks, h => by
    show max k.depth (NestedKey.depthAll ks) ≤ n
    exact Nat.max_le.mpr ⟨h k List.mem_cons_self, depth_le fun k' h' => h k' (List.mem_cons_of_mem _ h')⟩
theorem nkey_depth (s : Sd) : (nkey s).depth ≤ 8 := by
  have num : ∀ l : List Int, NestedKey.depthAll (l.map .num) ≤ 0 := fun l => depth_le fun k h => by
    obtain ⟨x, _, rfl⟩ := List.mem_map.mp h
    exact Nat.le_refl _
  have h1 : (NestedKey.tup (s.op.map opKey)).depth ≤ 2 := by
    show NestedKey.depthAll (s.op.map opKey) + 1 ≤ 2
    have := depth_le (n := 1) (ks := s.op.map opKey) fun k h => by
      obtain ⟨o, _, rfl⟩ := List.mem_map.mp h
      exact Nat.le_refl _
    omega
  have h2 : (NestedKey.tup (s.kv.map .num)).depth ≤ 1 := by
    show NestedKey.depthAll (s.kv.map .num) + 1 ≤ 1
    have := num s.kv
    omega
  show NestedKey.depthAll [NestedKey.tup (s.op.map opKey), NestedKey.tup (s.kv.map .num), .num (s.now : Int)] + 1 ≤ 8
  have := depth_le (n := 2) (ks := [NestedKey.tup (s.op.map opKey), NestedKey.tup (s.kv.map .num), .num (s.now : Int)]) fun k h => by
    rcases List.mem_cons.mp h with rfl | h
    · exact h1
    rcases List.mem_cons.mp h with rfl | h
    · omega
    rw [List.mem_singleton.mp h]
    exact Nat.zero_le _
  omega
theorem kall_ints {K : PySem.W.Frag} {H : Hp} : ∀ l : List Int, DN.KAll K H (l.map .num) (intV l)
  | [] => .nil
  | a :: l => .cons (.num a) (kall_ints l)
theorem kat_sd {K : PySem.W.Frag} {H : Hp} {t : Addr} {s : Sd} (h : SdAt K H t s) : DN.KAt K H (nkey s) (.ref t) := by
  obtain ⟨o, kt, ht, ⟨ts, ho, pr⟩, hk⟩ := h
  have ops : ∀ {ts : List Addr} {l : List (Nat × Int × Int)}, Paired (fun (t : Addr) (q : Nat × Int × Int) => SqT K H t [.int (q.1 : Int), .int q.2.1, .int q.2.2]) ts l → DN.KAll K H (l.map opKey) (ts.map V.ref) := by
    intro ts l p
    induction p with
    | nil => exact .nil
    | cons a b ih => exact .cons (.tup a (.cons (.num _) (.cons (.num _) (.cons (.num _) .nil)))) ih
  exact .tup ht (.cons (.tup ho (ops pr)) (.cons (.tup hk (kall_ints _)) (.cons (.num _) .nil)))
/-! ### what has been found, in the heap -/
def EntAt (K : PySem.W.Frag) (H : Hp) (x : DN.NEnt) (q : Sd × Option (Sd × Ev)) : Prop := x.1 = nkey q.1 ∧ SdAt K H x.2.1 q.1 ∧ match q.2 with
  | none => x.2.2 = .non
  | some pe => ∃ v tp te : Addr, x.2.2 = .ref v ∧ SqT K H v [.ref tp, .ref te] ∧ SdAt K H tp pe.1 ∧ EvT H te pe.2
theorem EntAt.same {K : PySem.W.Frag} {H H' : Hp} {x : DN.NEnt} {q : Sd × Option (Sd × Ev)} (h : EntAt K H x q) (s : Same H H') : EntAt K H' x q := by
  obtain ⟨a, b, c⟩ := h
  refine ⟨a, b.same s, ?_⟩
  obtain ⟨s0, o⟩ := q
  cases o with
  | none => exact c
  | some pe =>
    obtain ⟨v, tp, te, c1, c2, c3, c4⟩ := c
    exact ⟨v, tp, te, c1, sqT_same s c2, c3.same s, s _ _ c4⟩
/-- what stays when D, that is no tuple, is written -/
def NoTup (H : Hp) (D : Addr) : Prop := (∀ xs, H D ≠ some (.tup xs)) ∧ ∀ o xs, H D ≠ some (.frz o (.tup xs))
theorem sqT_no {K : PySem.W.Frag} {H : Hp} {u D : Addr} {xs : List V} {o : HO} (h : SqT K H u xs) (hD : NoTup H D) : SqT K (upd H D o) u xs := by
  rcases h with (h | ⟨o', h⟩) | h
  · exact .inl (.inl (by rw [upd_ne (fun e => hD.1 xs (by rw [← e]; exact h))]; exact h))
  · exact .inl (.inr ⟨o', by rw [upd_ne (fun e => hD.2 o' xs (by rw [← e]; exact h))]; exact h⟩)
  · exact .inr h
theorem SdAt.no {K : PySem.W.Frag} {H : Hp} {t D : Addr} {s : Sd} {ob : HO} (h : SdAt K H t s) (hD : NoTup H D) : SdAt K (upd H D ob) t s := by
  obtain ⟨o, kt, a, ⟨ts, b1, b2⟩, c⟩ := h
  exact ⟨o, kt, sqT_no a hD, ⟨ts, sqT_no b1 hD, paired_mono (fun _ _ z => sqT_no z hD) b2⟩, sqT_no c hD⟩
theorem EvT.no {H : Hp} {t D : Addr} {e : Ev} {ob : HO} (h : EvT H t e) (hD : NoTup H D) : EvT (upd H D ob) t e := by
  have h' : H t = _ := h
  show upd H D ob t = _
  rw [upd_ne (fun z => hD.1 _ (by rw [← z]; exact h'))]
  exact h'
theorem EntAt.no {K : PySem.W.Frag} {H : Hp} {x : DN.NEnt} {q : Sd × Option (Sd × Ev)} {D : Addr} {ob : HO} (h : EntAt K H x q) (hD : NoTup H D) : EntAt K (upd H D ob) x q := by
  obtain ⟨a, b, c⟩ := h
  refine ⟨a, b.no hD, ?_⟩
  obtain ⟨s0, o⟩ := q
  cases o with
  | none => exact c
  | some pe =>
    obtain ⟨v, tp, te, c1, c2, c3, c4⟩ := c
    exact ⟨v, tp, te, c1, sqT_no c2 hD, c3.no hD, c4.no hD⟩
theorem no_lst {H : Hp} {D : Addr} {zs : List V} (h : H D = some (.lst zs)) : NoTup H D := ⟨fun _ z => (by rw [h] at z; cases z), fun _ _ z => (by rw [h] at z; cases z)⟩
theorem no_dN {P : Program} {w : World} {H : Hp} {D : Addr} {xs : List DN.NEnt} (h : H D = some (DN.dN P w D xs)) : NoTup H D := ⟨fun _ z => (by rw [h] at z; cases z), fun _ _ z => (by rw [h] at z; cases z)⟩
def FdAt (P : Program) (w : World) (K : PySem.W.Frag) (H : Hp) (d : Addr) (F : Fd) : Prop := ∃ xs, H d = some (DN.dN P w d xs) ∧ Paired (EntAt K H) xs F
theorem FdAt.same {P : Program} {w : World} {K : PySem.W.Frag} {H H' : Hp} {d : Addr} {F : Fd} (h : FdAt P w K H d F) (s : Same H H') : FdAt P w K H' d F := by
  obtain ⟨xs, a, b⟩ := h
  exact ⟨xs, s _ _ a, paired_mono (fun _ _ z => EntAt.same z s) b⟩
theorem ent_keys {K : PySem.W.Frag} {H : Hp} {xs : List DN.NEnt} {F : Fd} (p : Paired (EntAt K H) xs F) : DN.NKeys K H xs := by
  induction p with
  | nil => exact DN.NKeys.nil
  | cons h t ih =>
    intro x hx
    rcases List.mem_cons.mp hx with rfl | hx
    · obtain ⟨a, b, _⟩ := h
      rw [a]
      exact ⟨kat_sd b, nkey_depth _⟩
    · exact ih x hx
theorem ent_val {K : PySem.W.Frag} {H : Hp} {s : Sd} : ∀ {xs : List DN.NEnt} {F : Fd}, Paired (EntAt K H) xs F → (s ∉ keysF F → DN.valN xs (nkey s) = none) ∧ ∀ o, (keysF F).Nodup → (s, o) ∈ F → ∃ x, DN.valN xs (nkey s) = some x.2.2 ∧ EntAt K H x (s, o)
  | _, _, .nil => ⟨fun _ => rfl, fun o _ h => (List.not_mem_nil h).elim⟩
  | x :: xs, q :: F, .cons h t => by
    obtain ⟨i1, i2⟩ := ent_val (s := s) t
    have hk : x.1 = nkey q.1 := h.1
    have cons : DN.valN (x :: xs) (nkey s) = if x.1 = nkey s then some x.2.2 else DN.valN xs (nkey s) := by
      unfold DN.valN
      rw [List.find?_cons]
      by_cases c : x.1 = nkey s
      · rw [decide_eq_true c, if_pos c]
        rfl
      · rw [decide_eq_false c, if_neg c]
    rw [cons]
    refine ⟨fun hn => ?_, fun o nd hm => ?_⟩
    · have n1 : s ≠ q.1 := fun e => hn (by show s ∈ q.1 :: keysF F; rw [e]; exact List.mem_cons_self)
      rw [if_neg (fun z => n1 (nkey_inj (z.symm.trans hk)))]
      exact i1 fun z => hn (List.mem_cons_of_mem _ z)
    · have nd' : (q.1 :: keysF F).Nodup := nd
      obtain ⟨nd1, nd2⟩ := List.nodup_cons.mp nd'
      rcases List.mem_cons.mp hm with e | hm
      · subst e
        rw [if_pos hk]
        exact ⟨x, rfl, h⟩
      · have n1 : q.1 ≠ s := fun e => nd1 (by rw [e]; exact mem_keysF.mpr ⟨o, hm⟩)
        rw [if_neg (fun z => n1 (nkey_inj (hk.symm.trans z)))]
        exact i2 o nd2 hm
section
variable {base : Heap} {P : Program} {w : World} {K : PySem.W.Frag} {mg : Str → Option Value}
/-! ### way_to -/
def WayAt (K : PySem.W.Frag) (H : Hp) (t : Addr) (s : Sd) (evs : List Ev) : Prop := ∃ ts ev es, SqT K H t [.ref ts, .ref ev] ∧ SdAt K H ts s ∧ SqT K H ev (es.map V.ref) ∧ EvsAt H es evs
def spWay (P : Program) (w : World) (K : PySem.W.Frag) : Sp := fun vs H Q _ => ∃ (d t e : Addr) (F : Fd) (s : Sd) (ev : Ev) (k : Nat), vs = [.ref d, .ref t, .ref e] ∧ FdAt P w K H d F ∧ (keysF F).Nodup ∧ SdAt K H t s ∧ EvT H e ev ∧ Chain F k s ∧ k ≤ 13000000 ∧
  ∀ H' u s0 evs, Same H H' → WayAt K H' u s0 evs → evs.length = k + 1 → (s0, none) ∈ F → (∀ e ∈ evs, e = ev ∨ ∃ t p, (t, some (p, e)) ∈ F) → Q (.ref u) H'
abbrev nWayTo : List Str := ["found", "standing", "last", "events", "event"]
theorem scWayTo : FnScope nWayTo ["found", "standing", "last"] (defScope sWayTo) := ⟨rfl, rfl, rfl, by decide +kernel, rfl, by decide +kernel, by decide +kernel⟩
theorem units9 {k : Nat} {A : Around} (hr : Room k A) : A.units + 9 < cLine := by
  have := units65 hr
  omega
theorem small13 {n : Nat} (h : n ≤ 13000100) : n < sizeLine := Nat.lt_of_le_of_lt h (by rw [sizeLine_eq]; decide)
theorem ok_way {f : Addr} {fd : FuncData} (F : Fun K "way_to" "way_to" sWayTo f fd) (T : TxtX K mg) : FnOk P w K mg base CX0 1 f fd ["found", "standing", "last"] (spWay P w K) := by
  refine F.ok scWayTo (fun vs H Q E h => ?_) (fun cdv A outer s H vs Q E hr h => ?_)
  · obtain ⟨d, t, e, Fd, sd, ev, k, rfl, _⟩ := h
    rfl
  · obtain ⟨d, t, e, Fd, sd, ev, k, rfl, hd, nd, ht, he, ch, hk, kk⟩ := h
    refine ⟨_, pss_cons (ps_set (i := 3) scWayTo.nd rfl (.inl rfl) (pe_lst (pa_cons (pv 2) pa_nil)))
      (pss_cons (ps_while PassesOwn.never (pt_cmpR op_notN (DN.pe_getN (units9 hr) (pv 0) (pv 1) (fun _ _ => rfl)) pe_non (nomark _))
        (pss_cons (ps_asg (DN.pe_getN (units9 hr) (pv 0) (pv 1) (fun _ _ => rfl)) (pg_tup rfl (pgs_cons (pg_name (i := 1) scWayTo.nd rfl (.inl rfl)) (pgs_cons (pg_name (i := 4) scWayTo.nd rfl (.inl rfl)) pgs_nil))))
        (pss_one (ps_expr (pe_bm PySem.F.plainAttrs_list PySem.F.slot_list_append PySem.F.type_list_append mt_append (pv 3) (pa_cons (pv 4) pa_nil))))))
      (pss_one (ps_ret (pe_tup (pa_cons (pv 1) (pa_cons (pe_callTy call_tupD (by rfl) T.tuple (by decide +kernel) (pa_cons (DN.pe_slSt (pv 3) po_none (po_some (pe_un un_neg pe_int))) pa_nil)) pa_nil)))))), ?_⟩
    refine ⟨_, rfl, (by show 1 ≤ sizeLine; decide), fun R nR => ?_⟩
    have s1 := same_upd (o := .lst [.ref e]) nR
    have hR1 : (upd H R (.lst [.ref e])) R = some (.lst [.ref e]) := upd_same
    show (tSeq _ _) _ _ (upd H R (.lst [.ref e]))
    generalize (upd H R (.lst [.ref e])) = H1 at s1 hR1
    have nRt : ∀ {a : Addr} {ob : HO}, H a = some ob → a ≠ R := fun z q => by rw [q, nR] at z; cases z
    refine while_by (fun σ H' => Same H H' ∧ ∃ (b : Option V) (t' : Addr) (s' : Sd) (k' : Nat) (es : List Addr) (evs : List Ev), σ = [some (.ref d), some (.ref t'), some (.ref e), some (.ref R), b] ∧ SdAt K H t' s' ∧ Chain Fd k' s' ∧ H' R = some (.lst (es.map V.ref)) ∧ EvsAt H es evs ∧ evs.length + k' = k + 1 ∧ ∀ e ∈ evs, e = ev ∨ ∃ t p, (t, some (p, e)) ∈ Fd)
      (fun σ H' => (match H' R with | some (.lst zs) => 13000100 - zs.length | _ => 0)) ⟨s1, none, t, sd, k, [e], [ev], rfl, ht, ch, hR1, .cons he .nil, by show 1 + k = k + 1; omega, fun e h => .inl (List.mem_singleton.mp h)⟩ ?_ ?_
    · rintro σ H2 ⟨s2, b, t', s', k', es, evs, rfl, ht', ch', hR2, hes, hl, hev⟩
      obtain ⟨xs, hd0, pr⟩ := hd
      have hd2 := s2 _ _ hd0
      have pr2 := paired_mono (fun _ _ z => EntAt.same z s2) pr
      have keys := ent_keys pr2
      have les : es.length = evs.length := Paired.length hes
      cases ch' with
      | base hm =>
        obtain ⟨x, v1, x1, x2, x3⟩ := (ent_val (s := s') pr).2 none nd hm
        have x3' : x.2.2 = V.non := x3
        rw [x3'] at v1
        refine ⟨_, rfl, _, rfl, d, t', xs, nkey s', .non, rfl, rfl, hd2, keys, kat_sd (ht'.same s2), nkey_depth _, v1, ?_⟩
        refine ⟨rfl, _, rfl, ?_⟩
        refine ite2 (fun q => absurd q (by decide)) (fun _ => ?_)
        refine ⟨_, rfl, ?_⟩
        dsimp only [tCB, tCons, tNil]
        refine ⟨_, rfl, 1, rfl, _, rfl, R, _, rfl, SqL.of hR2, by decide, ?_, fun p np => ?_⟩
        · rw [DN.pickV_rev, List.length_reverse, List.length_map, les]
          exact Nat.le_of_lt (small13 (by omega))
        rw [DN.pickV_rev, ← List.map_reverse]
        have s3 := same_upd (o := .lst (es.reverse.map V.ref)) np
        refine ⟨p, _, rfl, SqL.of upd_same, fun l ob nl od => ⟨(by show 2 ≤ sizeLine; decide), fun u nu => ?_⟩⟩
        have s4 := same_upd (o := .frz ob (.tup (es.reverse.map V.ref))) nl
        have hl4 : TupD (upd (upd H2 p (.lst (es.reverse.map V.ref))) l (.frz ob (.tup (es.reverse.map V.ref)))) l (es.reverse.map V.ref) := ⟨ob, upd_same, od⟩
        have s5 := same_upd (o := .tup [.ref t', .ref l]) nu
        have sAll := ((s2.trans s3).trans s4).trans s5
        have rev : ∀ {es : List Addr} {evs : List Ev}, EvsAt H es evs → EvsAt H es.reverse evs.reverse := by
          intro es evs p
          induction p with
          | nil => exact .nil
          | cons a b ih =>
            rw [List.reverse_cons, List.reverse_cons]
            exact paired_snoc ih a
        refine kk _ u s' evs.reverse sAll ⟨t', l, es.reverse, SqT.of upd_same, ht'.same sAll, (hl4.same s5).sq, (rev hes).same sAll⟩ (by rw [List.length_reverse]; omega) hm fun e he => hev e (List.mem_reverse.mp he)
      | @up k2 _ sp e2 hm c2 =>
        obtain ⟨x, v1, x1, x2, x3⟩ := (ent_val (s := s') pr).2 (some (sp, e2)) nd hm
        obtain ⟨v, tp, te, y1, y2, y3, y4⟩ := x3
        rw [y1] at v1
        refine ⟨_, rfl, _, rfl, d, t', xs, nkey s', .ref v, rfl, rfl, hd2, keys, kat_sd (ht'.same s2), nkey_depth _, v1, ?_⟩
        refine ⟨rfl, _, rfl, ?_⟩
        refine ite2 (fun _ => ?_) (fun q => absurd (show (!decide (V.ref v = V.non)) = true by rw [decide_eq_false (fun z => by cases z)]; rfl) q)
        refine ⟨_, rfl, _, rfl, d, t', xs, nkey s', .ref v, rfl, rfl, hd2, keys, kat_sd (ht'.same s2), nkey_depth _, v1, ?_⟩
        refine ⟨v, _, rfl, sqT_same s2 y2, rfl, .ref tp, _, rfl, .ref te, _, rfl, rfl, ?_⟩
        refine ⟨_, rfl, .inl ⟨rfl, _, SqL.of hR2⟩, _, rfl, R, _, _, rfl, rfl, hR2, by rw [List.length_map, les]; exact small13 (by omega), ?_⟩
        refine ⟨⟨same_new s2 nR, some (.ref te), tp, sp, _, es ++ [te], evs ++ [e2], rfl, y3, c2, by rw [upd_same, List.map_append]; rfl, paired_snoc hes y4, by rw [List.length_append]; show evs.length + 1 + _ = _; omega, fun e he => ?_⟩, ?_⟩
        · rcases List.mem_append.mp he with q | q
          · exact hev e q
          · rw [List.mem_singleton.mp q]
            exact .inr ⟨s', sp, hm⟩
        · show (match (upd H2 R (.lst (es.map V.ref ++ [.ref te]))) R with | some (.lst zs) => 13000100 - zs.length | _ => 0) < (match H2 R with | some (.lst zs) => 13000100 - zs.length | _ => 0)
          rw [upd_same, hR2]
          show 13000100 - (es.map V.ref ++ [V.ref te]).length < 13000100 - (es.map V.ref).length
          rw [List.length_append, List.length_map, les]
          show 13000100 - (evs.length + 1) < 13000100 - evs.length
          omega
    · rintro σ H2 Q1 Q2 hq h
      obtain ⟨a, ha, b, hb, d', b', xs, k', v', e1, e2, e3, e4, e5, e6, e7, e8, c, e9, e10⟩ := h
      exact ⟨a, ha, b, hb, d', b', xs, k', v', e1, e2, e3, e4, e5, e6, e7, e8, c, e9, hq _ _ e10⟩
end
end K17

namespace K17
open L2 PySem PySem.Spec PyProof.Rows RZ
/-! ### standings as data -/
def encO (o : Nat × Int × Int) : PyData := .tuple [.int (o.1 : Int), .int o.2.1, .int o.2.2]
def encS (s : Sd) : PyData := .tuple [.tuple (s.op.map encO), .tuple (s.kv.map .int), .int (s.now : Int)]
theorem alike_ops : ∀ l l' : List (Nat × Int × Int), PySem.W.alikeAll (l.map encO) (l'.map encO) = true
  | [], l' => by
    rw [List.map_nil, PySem.W.alikeAll]
  | a :: l, [] => by
    rw [List.map_cons, List.map_nil, PySem.W.alikeAll]
  | a :: l, b :: l' => by
    rw [List.map_cons, List.map_cons, PySem.W.alikeAll, alike_ops l l', Bool.and_true]
    unfold encO
    simp [PySem.W.alike, PySem.W.alikeAll]
theorem alike_S (a b : Sd) : PySem.W.alike (encS a) (encS b) = true := by
  have tup : ∀ l l' : List PyData, PySem.W.alike (.tuple l) (.tuple l') = PySem.W.alikeAll l l' := fun l l' => by rw [PySem.W.alike]
  have cons : ∀ (x y : PyData) (l l' : List PyData), PySem.W.alikeAll (x :: l) (y :: l') = (PySem.W.alike x y && PySem.W.alikeAll l l') := fun x y l l' => by rw [PySem.W.alikeAll]
  have int : ∀ x y : Int, PySem.W.alike (.int x) (.int y) = true := fun x y => by rw [PySem.W.alike]
  have nil : PySem.W.alikeAll [] [] = true := by rw [PySem.W.alikeAll]
  unfold encS
  rw [tup, cons, cons, cons, tup, tup, int, nil, alike_ops, PySem.W.alike_ints]
  rfl
theorem dAll_le {n : Nat} : ∀ {ks : List PyData}, (∀ k ∈ ks, k.depth ≤ n) → PyData.depthAll ks ≤ n
  | [], _ => by simp [PyData.depthAll]
  | k :: ks, h => by
    rw [PyData.depthAll]
    exact Nat.max_le.mpr ⟨h k List.mem_cons_self, dAll_le fun k' h' => h k' (List.mem_cons_of_mem _ h')⟩
theorem depth_S (s : Sd) : (encS s).depth ≤ 60 := by
  have i0 : ∀ x : Int, (PyData.int x).depth = 0 := fun x => by simp [PyData.depth]
  have tup : ∀ l : List PyData, (PyData.tuple l).depth = PyData.depthAll l + 1 := fun l => by rw [PyData.depth]
  have ho : ∀ o, (encO o).depth ≤ 1 := fun o => by
    unfold encO
    rw [tup]
    have := dAll_le (n := 0) (ks := [PyData.int (o.1 : Int), .int o.2.1, .int o.2.2]) fun k h => by
      simp only [List.mem_cons, List.not_mem_nil, or_false] at h
      rcases h with rfl | rfl | rfl <;> rw [i0] <;> exact Nat.le_refl _
    omega
  unfold encS
  rw [tup]
  have := dAll_le (n := 2) (ks := [PyData.tuple (s.op.map encO), .tuple (s.kv.map .int), .int (s.now : Int)]) fun k h => by
    simp only [List.mem_cons, List.not_mem_nil, or_false] at h
    rcases h with rfl | rfl | rfl
    · rw [tup]
      have := dAll_le (n := 1) (ks := s.op.map encO) fun k h => by
        obtain ⟨o, _, rfl⟩ := List.mem_map.mp h
        exact ho o
      omega
    · rw [tup]
      have := dAll_le (n := 0) (ks := s.kv.map PyData.int) fun k h => by
        obtain ⟨o, _, rfl⟩ := List.mem_map.mp h
        rw [i0]
        exact Nat.le_refl _
      omega
    · rw [i0]
      omega
  omega
theorem dpAll_ints {K : PySem.W.Frag} {H : Hp} : ∀ l : List Int, DpAll K H (intV l) (l.map .int)
  | [] => .nil
  | a :: l => .cons (.int a) (dpAll_ints l)
theorem dp_S {K : PySem.W.Frag} {H : Hp} {t : Addr} {s : Sd} (h : SdAt K H t s) : Dp K H (.ref t) (encS s) := by
  obtain ⟨o, kt, ht, ⟨ts, ho, pr⟩, hk⟩ := h
  have ops : ∀ {ts : List Addr} {l : List (Nat × Int × Int)}, Paired (fun (t : Addr) (q : Nat × Int × Int) => SqT K H t [.int (q.1 : Int), .int q.2.1, .int q.2.2]) ts l → DpAll K H (ts.map V.ref) (l.map encO) := by
    intro ts l p
    induction p with
    | nil => exact .nil
    | cons a b ih => exact .cons (.tup a (.cons (.int _) (.cons (.int _) (.cons (.int _) .nil)))) ih
  exact .tup ht (.cons (.tup ho (ops pr)) (.cons (.tup hk (dpAll_ints _)) (.cons (.int _) .nil)))
/-! ### bounds -/
theorem sound_ok {ya yb : Ys} {s : Sd} (h : Sound ya yb s) (h4 : ya.length ≤ 4) : SdOk ya yb s := by
  obtain ⟨w, hw, hne, rfl⟩ := h
  have q := hw.okS h4
  exact ⟨fun z => hne (stand_nil.mp z), q.op, q.kv, q.opl⟩
theorem raw_len {ya yb : Ys} {bs : List Bool} {s : Sd} {v : Mv} (T : Two ya yb) (h : Sound ya yb s) (h4 : ya.length ≤ 4) (hv : v ∈ movesS ya yb bs s) : v.raw.op.length ≤ 4 ∧ v.raw.kv.length ≤ 4 := by
  have kl := kpP_len (ya := ya) (yb := yb)
  obtain ⟨w, hw, hne, rfl⟩ := h
  rcases mem_moves.mp hv with ⟨e, _, c, rfl⟩ | rfl
  · rw [canB_stand] at c
    have c' := canB_iff.mp c
    have e1 := step_stand T hw c'
    have hw' := hw.step T c'
    show (stepS ya yb (stand ya yb w) e).op.length ≤ 4 ∧ (stepS ya yb (stand ya yb w) e).kv.length ≤ 4
    rw [e1]
    refine ⟨?_, ?_⟩
    · show ((stepP ya yb w e).op.map _).length ≤ 4
      rw [List.length_map]
      exact Nat.le_trans (asc_len hw'.asc hw'.op) h4
    · show ((stepP ya yb w e).kv.map _).length ≤ 4
      rw [List.length_map, hw'.kv]
      omega
  · have q := hw.okS h4
    exact ⟨q.opl, by have := q.kv; show (toW (stand ya yb w)).kv.length ≤ 4; omega⟩
theorem move_ev {ya yb : Ys} {bs : List Bool} {s : Sd} {v : Mv} (hv : v ∈ movesS ya yb bs s) : v.e ∈ qev ya.length ∨ v.e = .read := by
  rcases mem_moves.mp hv with ⟨e, he, _, rfl⟩ | rfl
  · exact .inl he
  · exact .inr rfl
/-- where ways begin, what comes on them -/
structure Ext (ya : Ys) (S : List Sd) (F : Fd) : Prop where
  ns : ∀ s, (s, none) ∈ F → s ∈ S
  ev : ∀ t p e, (t, some (p, e)) ∈ F → e ∈ qev ya.length ∨ e = .read
theorem Ext.snoc {ya : Ys} {S : List Sd} {F : Fd} {t p : Sd} {e : Ev} (h : Ext ya S F) (he : e ∈ qev ya.length ∨ e = .read) : Ext ya S (F ++ [(t, some (p, e))]) := by
  refine ⟨fun s q => ?_, fun t' p' e' q => ?_⟩
  · rcases List.mem_append.mp q with z | z
    · exact h.ns s z
    · cases List.mem_singleton.mp z
  · rcases List.mem_append.mp q with z | z
    · exact h.ev t' p' e' z
    · cases List.mem_singleton.mp z
      exact he
end K17

namespace K17
open L2 PySem PySem.Spec PyProof.Rows RZ
abbrev sSearch : Stmt := top 37
theorem units8 {k : Nat} {A : Around} (hr : Room k A) : A.units + 8 < cLine := by
  have := units65 hr
  omega
theorem units64 {k : Nat} {A : Around} (hr : Room k A) : A.units + 64 < cLine := by
  have := units65 hr
  omega
/-- a comprehension's dict over a list -/
theorem dcN_list {P : Program} {w : World} {K : PySem.W.Frag} {a : Addr} {xs : List V} {g : TG} {tt : TT} {tk tv : TE} {vs : List Nat} {σ : L2.St} {H1 : Hp} {D : Addr} {Qd : Hp → Prop} (Pv : Nat → Hp → Prop) (h0 : Pv 0 (upd H1 D (DN.dN P w D []))) (hl : ∀ i H, i ≤ xs.length → Pv i H → SqL K H a xs)
    (hs : ∀ i x H, xs[i]? = some x → Pv i H → DN.blkN P w K g tt tk tv vs σ D (Pv (i + 1)) x H) (hd : ∀ H, Pv xs.length H → Qd H) :
    ∃ W : Nat → Nat → Hp → Prop, (∃ m, W 0 m (upd H1 D (DN.dN P w D []))) ∧ ∀ i m H, W i m H → ((Itl K a).stop i H ∧ Qd H) ∨ ((Itl K a).go i H ∧ ∃ Nx : Hp → Prop, (∀ H', Nx H' → ∃ m', m' < m ∧ W (i + 1) m' H') ∧ ∀ x H', (Itl K a).yld i H x H' → DN.blkN P w K g tt tk tv vs σ D Nx x H') := by
  refine ⟨fun i m H => m = xs.length - i ∧ i ≤ xs.length ∧ Pv i H, ⟨_, rfl, Nat.zero_le _, h0⟩, ?_⟩
  rintro i m H ⟨rfl, hi, p⟩
  have q := hl i H hi p
  by_cases lt : i < xs.length
  · refine .inr ⟨⟨xs, xs[i], q, by simp [lt]⟩, Pv (i + 1), fun H' p' => ⟨xs.length - (i + 1), by omega, rfl, lt, p'⟩, fun x H' y => ?_⟩
    obtain ⟨e, y⟩ := y
    subst e
    exact hs i x _ (y xs q) p
  · obtain rfl : i = xs.length := by omega
    exact .inl ⟨⟨xs, q, Nat.le_refl _⟩, hd H p⟩
theorem MvAt.no {K : PySem.W.Frag} {H : Hp} {u D : Addr} {v : Mv} {ob : HO} (h : MvAt K H u v) (hD : NoTup H D) : MvAt K (upd H D ob) u v := by
  obtain ⟨e, r, a, b, c⟩ := h
  exact ⟨e, r, sqT_no a hD, b.no hD, c.no hD⟩
mutual
theorem dp_same {K : PySem.W.Frag} {H H' : Hp} (s : Same H H') : ∀ (d : PyData) (v : V), Dp K H v d → Dp K H' v d
  | .none, _, .non => .non
  | .bool b, _, .bl _ => .bl b
  | .int i, _, .int _ => .int i
  | .str x, _, .str _ => .str x
  | .list ds, _, .lst q h => .lst (sqL_same s q) (dpAll_same s ds _ h)
  | .tuple ds, _, .tup q h => .tup (sqT_same s q) (dpAll_same s ds _ h)
theorem dpAll_same {K : PySem.W.Frag} {H H' : Hp} (s : Same H H') : ∀ (ds : List PyData) (vs : List V), DpAll K H vs ds → DpAll K H' vs ds
  | [], _, .nil => .nil
  | d :: ds, _, .cons h t => .cons (dp_same s d _ h) (dpAll_same s ds _ t)
end
theorem ent_rows {K : PySem.W.Frag} {H : Hp} : ∀ {xs : List DN.NEnt} {F : Fd}, Paired (EntAt K H) xs F → Paired (SdAt K H) (xs.map (·.2.1)) (keysF F)
  | _, _, .nil => .nil
  | _, _, .cons h t => .cons h.2.1 (ent_rows t)
theorem ent_non {K : PySem.W.Frag} {H : Hp} : ∀ {xs : List DN.NEnt} {F : Fd}, Paired (EntAt K H) xs F → (∀ q ∈ F, q.2 = none) → ∀ x ∈ xs, x.2.2 = V.non
  | _, _, .nil, _, _, h => (List.not_mem_nil h).elim
  | x :: xs, q :: F, .cons h t, hq, y, hy => by
    rcases List.mem_cons.mp hy with rfl | hy
    · have e := hq q List.mem_cons_self
      obtain ⟨_, _, c⟩ := h
      rw [e] at c
      exact c
    · exact ent_non t (fun q' h' => hq q' (List.mem_cons_of_mem _ h')) y hy
section
variable {base : Heap} {P : Program} {w : World} {K : PySem.W.Frag} {mg : Str → Option Value}
/-! ### search -/
/-- what a search tells that finds no broken read -/
def TabAt (K : PySem.W.Frag) (H : Hp) (tb : Addr) (Z : List Sd) : Prop := ∃ zs, TupD H tb zs ∧ DpAll K H zs (Z.map encS)
def spSearch (P : Program) (w : World) (K : PySem.W.Frag) (C CR : Addr) : Sp := fun vs H Q _ => ∃ (x r sl : Addr) (ws ya yb : List Str) (bs : List Bool) (sts : List Addr) (S : List Sd), vs = [.ref x, .ref sl, .non] ∧ WalkAt K H C x r ya.length ∧ RoadAt H CR r ws ya yb bs ∧ ya.length ≤ 4 ∧ bs.length = ya.length ∧ Two ya yb ∧
  H sl = some (.lst (sts.map V.ref)) ∧ Paired (SdAt K H) sts S ∧ S.length ≤ 4000 ∧ StartsOk ya yb S ∧
  (∀ H' T' tb Z, Same H H' → SqT K H' T' [.ref tb, .non] → TabAt K H' tb Z → (∀ k s, Reach ya yb bs S k s → s ∈ Z) → (∀ s ∈ Z, Unbr ya yb bs s) → Q (.ref T') H') ∧
  (∀ H' T' wy s0 evs d, Same H H' → SqT K H' T' [.non, .ref wy] → WayAt K H' wy s0 evs → s0 ∈ S → evs.length = d + 1 → evs.length ≤ 13000001 → (∀ k s, k < d → Reach ya yb bs S k s → Unbr ya yb bs s) → (∃ s, Reach ya yb bs S d s ∧ ¬ Unbr ya yb bs s) → (∀ e ∈ evs, e ∈ qev ya.length ∨ e = .read) → Q (.ref T') H')
abbrev nSearch : List Str := ["walk", "starts", "most", "found", "row", "later", "standing", "event", "is_broken", "raw", "told"]
theorem scSearch : FnScope nSearch ["walk", "starts", "most"] (defScope sSearch) := ⟨rfl, rfl, rfl, by decide +kernel, rfl, by decide +kernel, by decide +kernel⟩
theorem FunD.okN {x qual : Str} {st : Stmt} {f : Addr} {fd : FuncData} {N ps : List Str} {k : Nat} {sp : Sp} {dvs : List V} {kws : List (Str × V)} (F : FunD K x qual (defArgs st) (defBody st) (defScope st) dvs kws f fd) (S : FnScope N ps (defScope st)) (len : ∀ vs H Q E, sp vs H Q E → vs.length = ps.length)
    (hbody : ∀ (cdv : Value) (A : Around) (outer : List Env) (s : Shared) (H : Hp) (vs : List V) (Q : VK) (E : XK), Room k (A.deeper (envOfC qual (defScope st) s.heap.objs.size f cdv)) → sp vs H Q E →
      ∃ t, PSs (cxOf CX0 P w K mg base N qual (defScope st) f cdv A outer s H E).nox (defBody st) t ∧ t { nx := fun _ H' => Q .non H', rt := Q } (L2.start N vs) H) : FnOk P w K mg base CX0 (k + 1) f fd ps sp := by
  refine L2.FunD.ok F S len fun cdv A outer s H vs Q E hr hsp => ?_
  obtain ⟨t, h, q⟩ := hbody cdv A outer s H vs Q E hr hsp
  exact ⟨t, h.nox, q⟩
theorem ok_search {f C CR : Addr} {fd : FuncData} (F : FunD K "search" "search" (defArgs sSearch) (defBody sSearch) (defScope sSearch) [V.non] [] f fd) (T : TxtX K mg) (L : WalkT K mg C) (GM : HasM P w K mg base C "moves" 5 ["self", "standing"] (spMoves K C CR)) (GS : HasM P w K mg base C "settled" 2 ["self", "raw"] (spSettled K C CR))
    (GW : Has P w K mg base "way_to" 1 ["found", "standing", "last"] (spWay P w K)) : FnOk P w K mg base CX0 6 f fd ["walk", "starts", "most"] (spSearch P w K C CR) := by
  refine K17.FunD.okN F scSearch (fun vs H Q E h => ?_) (fun cdv A outer s H vs Q E hr h => ?_)
  · obtain ⟨x, r, sl, ws, ya, yb, bs, sts, S, rfl, _⟩ := h
    rfl
  · obtain ⟨x, r, sl, ws, ya, yb, bs, sts, S, rfl, wa, ra, y4, lb, W, hsl, psl, lS, so, kT, kB⟩ := h
    have r1 : Room 1 _ := hr.mono (by decide)
    have r2 : Room 2 _ := hr.mono (by decide)
    have u9 := units9 hr
    have u65 := units65 hr
    refine ⟨_, pss_cons (DN.ps_setDcN (i := 3) (own := [("standing", 6)]) (g := gName 6) (tt := tYes) rfl (units8 hr) scSearch.nd rfl rfl rfl (pi_list (pv 1))
          (blkOk_by (N := nSearch) (sc := defScope sSearch) (by decide +kernel)) (fun _ _ _ _ _ => pg_name (i := 6) scSearch.nd rfl (Or.inl rfl)) (fun _ _ _ _ _ => pts_nil) (fun _ _ _ _ _ => pv 6) (fun _ _ _ _ _ => pe_non))
      (pss_cons (ps_set (i := 4) scSearch.nd rfl (.inl rfl) (pe_callTy (DN.call_listN rfl) (by rfl) T.list (by decide +kernel) (pa_cons (pv 3) pa_nil)))
      (pss_cons (ps_while PassesOwn.never (pt_truth (pv 4) (fun _ => rfl))
        (pss_cons (ps_if (PW.pt (pw_and (pt_cmpR op_notN (pv 2) pe_non (nomark _)) (pw_and1 (pt_cmpR op_gt (pe_callB call_len_seq (by rfl) T.len PySem.boot_len (pa_cons (pv 3) pa_nil)) (pv 2) (nomark _))))) pss_never pss_nil)
        (pss_cons (ps_set (i := 5) scSearch.nd rfl (.inl rfl) (pe_lst pa_nil))
        (pss_cons (ps_for PassesOwn.never rfl (pi_list (pv 4)) (pg_name (i := 6) scSearch.nd rfl (.inl rfl))
          (pss_one (ps_for PassesOwn.never rfl (pi_list (pe_hasM GM L.cl (hr.mono (by decide)) (pv 0) (pa_cons (pv 6) pa_nil))) (pg_tup rfl (pgs_cons (pg_name (i := 7) scSearch.nd rfl (.inl rfl)) (pgs_cons (pg_name (i := 8) scSearch.nd rfl (.inl rfl)) (pgs_cons (pg_name (i := 9) scSearch.nd rfl (.inl rfl)) pgs_nil))))
            (pss_cons (ps_if (pt_val (pv 8)) (pss_one (ps_ret (pe_tup (pa_cons pe_non (pa_cons (pe_has GW r1 (pa_cons (pv 3) (pa_cons (pv 6) (pa_cons (pv 7) pa_nil)))) pa_nil))))) pss_nil)
            (pss_cons (ps_if (pt_not (pt_truth (pe_ix (r := rIxT K) ix_tup (pv 9) pe_int (fun _ _ => rfl)) (fun _ => rfl))) (pss_one ps_continue) pss_nil)
            (pss_cons (ps_set (i := 10) scSearch.nd rfl (.inl rfl) (pe_hasM GS L.cl r2 (pv 0) (pa_cons (pv 9) pa_nil)))
            (pss_one (ps_if (pt_cmpR (DN.op_notInN u9) (pv 10) (pv 3) (by rfl))
              (pss_cons (ps_asg (pe_tup (pa_cons (pv 6) (pa_cons (pv 7) pa_nil))) (pg_sub (pv 3) (pv 10) (DN.set_dN u9)))
              (pss_one (ps_expr (pe_bm PySem.F.plainAttrs_list PySem.F.slot_list_append PySem.F.type_list_append mt_append (pv 5) (pa_cons (pv 10) pa_nil))))) pss_nil))))))))
        (pss_one (ps_set (i := 4) scSearch.nd rfl (.inl rfl) (pe_callTy call_list_of (by rfl) T.list (by decide +kernel) (pa_cons (pv 5) pa_nil))))))))
      (pss_one (ps_ret (pe_tup (pa_cons (pe_callTy call_tupD (by rfl) T.tuple (by decide +kernel) (pa_cons (pe_callB (DN.cr_sortedD (enc := encS) (units64 hr) (fun b => ⟨_, _, rfl⟩) alike_S depth_S) (by rfl) T.sorted (by decide +kernel) (pa_cons (pe_callTy (DN.call_listN rfl) (by rfl) T.list (by decide +kernel) (pa_cons (pv 3) pa_nil)) pa_nil)) pa_nil)) (pa_cons pe_non pa_nil))))))), ?_⟩
    dsimp only [tSeq, tAsg, DN.tDcN, iList, List.map]
    refine ⟨_, rfl, sl, rfl, ⟨_, SqL.of hsl⟩, fun fd nfd => ?_⟩
    refine dcN_list (K := K) (xs := sts.map V.ref) (fun i H' => Same H H' ∧ ∃ (xs : List DN.NEnt) (F : Fd), H' fd = some (DN.dN P w fd xs) ∧ Paired (EntAt K H) xs F ∧ (keysF F).Nodup ∧ (∀ q ∈ F, q.2 = none) ∧ (∀ s, s ∈ keysF F ↔ s ∈ S.take i) ∧ F.length ≤ i)
      ⟨same_upd nfd, [], [], upd_same, .nil, List.nodup_nil, fun q h => (List.not_mem_nil h).elim, fun s => by rw [List.take_zero]; exact Iff.rfl, Nat.le_refl _⟩ (fun i H' _ z => SqL.of (z.1 _ _ hsl)) ?_ ?_
    · rintro i v H1 hv ⟨s1, xs, Fo, hfd, pe, nd, nn, mem, lF⟩
      rw [List.getElem?_map] at hv
      obtain ⟨t, ht, rfl⟩ := Option.map_eq_some_iff.mp hv
      obtain ⟨s0, hs1, hs2⟩ := paired_get psl ht
      have il := (List.getElem?_eq_some_iff.mp ht).1
      have lst : sts.length = S.length := Paired.length psl
      have lxs : xs.length = Fo.length := Paired.length pe
      refine ⟨rfl, _, rfl, _, ⟨t, xs, nkey s0, rfl, hfd, ent_keys (paired_mono (fun _ _ z => EntAt.same z s1) pe), kat_sd (hs2.same s1), nkey_depth _, by rw [lxs]; exact small13 (by omega), rfl⟩, ?_⟩
      refine ⟨same_new s1 nfd, ?_⟩
      have e3 := take_snoc hs1
      by_cases c : s0 ∈ keysF Fo
      · obtain ⟨ov, hov⟩ := mem_keysF.mp c
        obtain ⟨y, y1, _⟩ := (ent_val (s := s0) pe).2 ov nd hov
        have same : DN.putN xs (nkey s0) t .non = xs := by
          unfold DN.putN
          rw [y1]
          show xs.map _ = xs
          conv => rhs; rw [← List.map_id xs]
          refine List.map_congr_left fun z hz => ?_
          have z0 := ent_non pe nn z hz
          by_cases cz : z.1 = nkey s0
          · rw [if_pos cz, ← z0]
            rfl
          · rw [if_neg cz]
            rfl
        rw [same]
        refine ⟨xs, Fo, upd_same, pe, nd, nn, fun s => ?_, by omega⟩
        rw [mem, e3, List.mem_append, List.mem_singleton]
        exact ⟨.inl, fun z => z.elim id fun e => e ▸ (mem s0).mp c⟩
      · rw [DN.putN_new ((ent_val (s := s0) pe).1 c)]
        refine ⟨xs ++ [(nkey s0, t, .non)], Fo ++ [(s0, none)], upd_same, paired_snoc pe ⟨rfl, hs2, rfl⟩, ?_, fun q hq => ?_, fun s => ?_, by rw [List.length_append]; show Fo.length + 1 ≤ _; omega⟩
        · rw [keysF_snoc, List.nodup_append]
          refine ⟨nd, by simp, fun a ha b hb e => c ?_⟩
          have eb : b = s0 := by simpa using hb
          rw [← eb, ← e]
          exact ha
        · rcases List.mem_append.mp hq with z | z
          · exact nn q z
          · rw [List.mem_singleton.mp z]
        · rw [keysF_snoc, e3, List.mem_append, List.mem_append, mem]
    · rintro H1 ⟨s1, xs, F0, hfd, pe, nd, nn, mem, lF⟩
      have lst : sts.length = S.length := Paired.length psl
      rw [List.length_map, lst, List.take_length] at mem
      have pe1 := paired_mono (fun _ _ z => EntAt.same z s1) pe
      refine ⟨_, rfl, fd, xs, rfl, hfd, ent_keys pe1, fun rl nrl => ?_⟩
      have s2 := same_upd (o := .lst (xs.map fun x => V.ref x.2.1)) nrl
      have hrl : (upd H1 rl (.lst (xs.map fun x => V.ref x.2.1))) rl = some (.lst ((xs.map (·.2.1)).map V.ref)) := by rw [upd_same, List.map_map]; rfl
      generalize (upd H1 rl (.lst (xs.map fun x => V.ref x.2.1))) = H2 at s2 hrl
      have snd := so.sound
      have O0 := outer_init (bs := bs) nd nn mem snd
      have E0' : Ext ya S F0 := ⟨fun s q => (mem s).mp (mem_keysF.mpr ⟨_, q⟩), fun t p e q => by cases nn _ q⟩
      refine ⟨fun mm σ H' => Same H H' ∧ ∃ (d : Nat) (Fo : Fd) (row : List Sd) (rts : List Addr) (rl : Addr) (a5 a6 a7 a8 a9 a10 : Option V), mm = 2 * (mostS - Fo.length) + (if row = [] then 0 else 1) ∧ σ = [some (.ref x), some (.ref sl), some .non, some (.ref fd), some (.ref rl), a5, a6, a7, a8, a9, a10] ∧ FdAt P w K H' fd Fo ∧ H' rl = some (.lst (rts.map V.ref)) ∧ Paired (SdAt K H') rts row ∧ Outer ya yb bs S d Fo row ∧ Ext ya S Fo ∧ (row ≠ [] → d + 1 ≤ Fo.length),
        ⟨_, s1.trans s2, 0, F0, keysF F0, xs.map (·.2.1), rl, _, _, _, _, _, _, rfl, rfl, ⟨xs, s2 _ _ hfd, paired_mono (fun _ _ z => EntAt.same z s2) pe1⟩, hrl, paired_mono (fun _ _ z => SdAt.same z s2) (ent_rows pe1), O0, E0', fun ne => ?_⟩, ?_⟩
      · cases F0 with
        | nil => exact absurd rfl ne
        | cons a b => show 0 + 1 ≤ b.length + 1; omega
      rintro mm σ H3 ⟨s3, d, Fo, row, rts, rl, a5, a6, a7, a8, a9, a10, rfl, rfl, hF, hrl3, prow, O, Ex, hd⟩
      cases prow with
      | nil =>
        refine ⟨_, rfl, false, .inl ⟨_, SqL.of hrl3, rfl⟩, ?_⟩
        refine ite2 (fun q => absurd q (by decide)) (fun _ => ?_)
        obtain ⟨rch, unb⟩ := outer_end O
        obtain ⟨xs3, hF3, pe3⟩ := id hF
        have rows3 := ent_rows pe3
        refine ⟨_, rfl, fd, xs3, rfl, hF3, ent_keys pe3, fun l1 nl1 => ?_⟩
        have s4 := same_upd (o := .lst (xs3.map fun x => V.ref x.2.1)) nl1
        have h4 : (upd H3 l1 (.lst (xs3.map fun x => V.ref x.2.1))) l1 = some (.lst ((xs3.map (·.2.1)).map V.ref)) := by rw [upd_same, List.map_map]; rfl
        generalize (upd H3 l1 (.lst (xs3.map fun x => V.ref x.2.1))) = H4 at s4 h4
        have dps : ∀ {ts : List Addr} {Z : List Sd}, Paired (SdAt K H4) ts Z → Paired (fun v b => Dp K H4 v (encS b)) (ts.map V.ref) Z := by
          intro ts Z p
          induction p with
          | nil => exact .nil
          | cons a b ih => exact .cons (dp_S a) ih
        refine ⟨l1, _, keysF Fo, rfl, SqL.of h4, dps (paired_mono (fun _ _ z => SdAt.same z s4) rows3), fun zs l2 pz nl2 => ?_⟩
        have s5 := same_upd (o := .lst zs) nl2
        have h5 : (upd H4 l2 (.lst zs)) l2 = some (.lst zs) := upd_same
        have dz : ∀ {vs : List V} {Z : List Sd}, Paired (fun y b => y ∈ (xs3.map (·.2.1)).map V.ref ∧ Dp K H4 y (encS b)) vs Z → ∀ H', Same H4 H' → DpAll K H' vs (Z.map encS) := by
          intro vs Z p H' ss
          induction p with
          | nil => exact .nil
          | cons a b ih => exact .cons (dp_same ss _ _ a.2) ih
        generalize (upd H4 l2 (.lst zs)) = H5 at s5 h5
        refine ⟨l2, _, rfl, SqL.of h5, fun tb ob nb od => ⟨(by show 2 ≤ sizeLine; decide), fun T' nT => ?_⟩⟩
        have s6 := same_upd (o := .frz ob (.tup zs)) nb
        have h6 : TupD (upd H5 tb (.frz ob (.tup zs))) tb zs := ⟨ob, upd_same, od⟩
        have s7 := same_upd (o := .tup [.ref tb, .non]) nT
        have perm := List.mergeSort_perm (keysF Fo) (PySem.W.dataLe false encS)
        refine kT _ T' tb ((keysF Fo).mergeSort (PySem.W.dataLe false encS)) (((s3.trans s4).trans (s5.trans s6)).trans s7) (SqT.of upd_same) ⟨zs, h6.same s7, dz pz _ ((s5.trans s6).trans s7)⟩ (fun k s q => perm.mem_iff.mpr (rch k s q)) fun s q => unb s (perm.mem_iff.mp q)
      | @cons rt0 r0 rts row hr0 prow =>
        refine ⟨_, rfl, true, .inl ⟨_, SqL.of hrl3, rfl⟩, ?_⟩
        refine ite2 (fun _ => ?_) (fun q => absurd rfl q)
        have prow' : Paired (SdAt K H3) (rt0 :: rts) (r0 :: row) := .cons hr0 prow
        generalize hrS : r0 :: row = rowS at O hd prow'
        generalize hrT : rt0 :: rts = rtsS at hrl3 prow'
        have lrow : rtsS.length = rowS.length := Paired.length prow'
        have rne : rowS ≠ [] := by rw [← hrS]; simp
        have dF := hd rne
        have mF : Fo.length ≤ mostS := lim W y4 so lS O.nd (fun s h => by obtain ⟨k, a, b⟩ := O.rch s h; exact ⟨k, Nat.le_succ_of_le a, b⟩) O.ok
        have hmS : mostS = 12800000 := rfl
        refine ⟨fun σ' H' => ∃ m', m' < 2 * (mostS - Fo.length) + 1 ∧ (Same H H' ∧ ∃ (d : Nat) (Fo : Fd) (row : List Sd) (rts : List Addr) (rl : Addr) (a5 a6 a7 a8 a9 a10 : Option V), m' = 2 * (mostS - Fo.length) + (if row = [] then 0 else 1) ∧ σ' = [some (.ref x), some (.ref sl), some .non, some (.ref fd), some (.ref rl), a5, a6, a7, a8, a9, a10] ∧ FdAt P w K H' fd Fo ∧ H' rl = some (.lst (rts.map V.ref)) ∧ Paired (SdAt K H') rts row ∧ Outer ya yb bs S d Fo row ∧ Ext ya S Fo ∧ (row ≠ [] → d + 1 ≤ Fo.length)), fun σ' H' ⟨m', l, q⟩ => ⟨m', by rw [if_neg rne]; exact l, q⟩, ?_⟩
        refine ⟨_, rfl, rfl, _, rfl, ?_⟩
        refine ite2 (fun q => absurd q (by decide)) (fun _ => ?_)
        refine ⟨(by show 0 ≤ sizeLine; exact Nat.zero_le _), fun lt nlt => ?_⟩
        have flt := free_of s3 nlt
        have s4 := same_upd (o := .lst []) nlt
        have hlt4 : (upd H3 lt (.lst [])) lt = some (.lst []) := upd_same
        generalize (upd H3 lt (.lst [])) = H4 at s4 hlt4
        have nfl : fd ≠ lt := fun e => by
          obtain ⟨xs, z, _⟩ := hF
          rw [e, nlt] at z
          cases z
        have nrl : rl ≠ lt := fun e => by rw [e, nlt] at hrl3; cases hrl3
        refine ⟨_, rfl, rl, rfl, ⟨_, SqL.of (s4 _ _ hrl3)⟩, ?_⟩
        refine for_list (K := K) (xs := rtsS.map V.ref) (fun i σ H' => Same H H' ∧ ∃ (Fn : Fd) (later : List Sd) (lts : List Addr) (a6 a7 a8 a9 a10 : Option V), σ = [some (.ref x), some (.ref sl), some .non, some (.ref fd), some (.ref rl), some (.ref lt), a6, a7, a8, a9, a10] ∧ H' rl = some (.lst (rtsS.map V.ref)) ∧ FdAt P w K H' fd Fn ∧ H' lt = some (.lst (lts.map V.ref)) ∧ Paired (SdAt K H') lts later ∧ Paired (SdAt K H') rtsS rowS ∧ Inner ya yb bs S d Fo rowS i Fn later ∧ Ext ya S Fn)
          ⟨s3.trans s4, Fo, [], [], _, _, _, _, _, rfl, s4 _ _ hrl3, hF.same s4, hlt4, .nil, paired_mono (fun _ _ z => SdAt.same z s4) prow', inner_start O, Ex⟩ (fun i σ H' _ z => by obtain ⟨_, _, _, _, _, _, _, _, _, _, q, _⟩ := z; exact SqL.of q) ?_ ?_
        · rintro i v σ H5 hv ⟨s5, Fn, later, lts, a6, a7, a8, a9, a10, rfl, hrl5, hF5, hlt5, plt, prw, N, Ex5⟩
          rw [List.getElem?_map] at hv
          obtain ⟨t0, ht0, rfl⟩ := Option.map_eq_some_iff.mp hv
          obtain ⟨sd, hsd1, hsd2⟩ := paired_get prw ht0
          have smem := List.mem_of_getElem? hsd1
          have sF0 := O.rw sd smem
          have sSound := O.snd sd sF0
          have sOk := sound_ok sSound y4
          obtain ⟨dx, dd, qa, es, hx, hdd, hqa, hes⟩ := id wa
          refine ⟨_, rfl, x, dx, _, rfl, s5 _ _ hx, rfl, _, rfl, x, r, t0, ws, ya, yb, bs, sd, rfl, wa.same s5, ra.same s5, y4, lb, hsd2, sOk, fun H6 q us s6 nq hq pus => ?_⟩
          have nqf : fd ≠ q := fun e => by
            obtain ⟨xs, z, _⟩ := hF5
            rw [e, nq] at z
            cases z
          have nql : lt ≠ q := fun e => by rw [e, nq] at hlt5; cases hlt5
          have lus : us.length = (movesS ya yb bs sd).length := Paired.length pus
          refine ⟨q, rfl, ⟨_, SqL.of hq⟩, ?_⟩
          refine for_list (K := K) (xs := us.map V.ref) (fun j σ H' => Same H H' ∧ ∃ (Fn : Fd) (later : List Sd) (lts : List Addr) (a7 a8 a9 a10 : Option V), σ = [some (.ref x), some (.ref sl), some .non, some (.ref fd), some (.ref rl), some (.ref lt), some (.ref t0), a7, a8, a9, a10] ∧ H' rl = some (.lst (rtsS.map V.ref)) ∧ H' q = some (.lst (us.map V.ref)) ∧ Paired (MvAt K H') us (movesS ya yb bs sd) ∧ FdAt P w K H' fd Fn ∧ H' lt = some (.lst (lts.map V.ref)) ∧ Paired (SdAt K H') lts later ∧ Paired (SdAt K H') rtsS rowS ∧ Inner ya yb bs S d Fo rowS i Fn later ∧ Ext ya S Fn ∧ Done ya yb bs sd j Fn)
            ⟨s5.trans s6, Fn, later, lts, _, _, _, _, rfl, s6 _ _ hrl5, hq, pus, hF5.same s6, s6 _ _ hlt5, paired_mono (fun _ _ z => SdAt.same z s6) plt, paired_mono (fun _ _ z => SdAt.same z s6) prw, N, Ex5, done_zero⟩ (fun j σ H' _ z => by obtain ⟨_, _, _, _, _, _, _, _, _, _, q, _⟩ := z; exact SqL.of q) ?_ ?_
          · rintro j v σ H7 hv ⟨s7, Fn, later, lts, a7, a8, a9, a10, rfl, hrl7, hq7, pus7, hF7, hlt7, plt7, prw7, N, Ex7, Dn⟩
            rw [List.getElem?_map] at hv
            obtain ⟨u, hu, rfl⟩ := Option.map_eq_some_iff.mp hv
            obtain ⟨mv, hm1, me, mr, hm2, hm3, hm4⟩ := paired_get pus7 hu
            have mmem := List.mem_of_getElem? hm1
            have hsd7' : SdAt K H7 t0 sd := by
              obtain ⟨y, y1, y2⟩ := paired_get prw7 ht0
              rw [hsd1] at y1
              cases y1
              exact y2
            refine ⟨u, _, rfl, hm2, rfl, .ref me, _, rfl, .bl mv.br, _, rfl, .ref mr, _, rfl, rfl, ?_⟩
            refine ⟨_, rfl, mv.br, rfl, ?_⟩
            have up : ∀ s, s ∈ keysF Fo → s ∈ keysF Fn := fun s h => by
              obtain ⟨o, z⟩ := mem_keysF.mp h
              exact mem_keysF.mpr ⟨o, N.sub _ z⟩
            have rl9 := raw_len W sSound y4 mmem
            have jl := (List.getElem?_eq_some_iff.mp hu).1
            refine ite2 (fun cb => ?_) (fun cb => ?_)
            · obtain ⟨k, k1, k2, rS⟩ : ∃ k, k = d ∧ Chain Fo k sd ∧ Reach ya yb bs S d sd := ⟨d, rfl, O.rc sd smem⟩
              refine ⟨_, rfl, _, rfl, _, rfl, fd, t0, me, Fn, sd, mv.e, k, rfl, hF7, N.nd, hsd7', hm3, k2.mono N.sub, by omega, fun H8 wy s0 evs s8 hW hlen hs0 hev => ⟨(by show 2 ≤ sizeLine; decide), fun T' nT => ?_⟩⟩
              have s9 := same_upd (o := .tup [.non, .ref wy]) nT
              obtain ⟨w1, w2, w3, w4, w5, w6, w7⟩ := hW
              refine kB _ T' wy s0 evs d ((s7.trans s8).trans s9) (SqT.of upd_same) ⟨w1, w2, w3, sqT_same s9 w4, w5.same s9, sqT_same s9 w6, w7.same s9⟩ (Ex7.ns s0 hs0) (by omega) (by omega) (fun k s h1 h2 => O.ok k s h1 h2) ⟨sd, rS, fun z => by rw [z mv mmem] at cb; cases cb⟩ fun e he => ?_
              rcases hev e he with rfl | ⟨t', p', h'⟩
              · exact move_ev mmem
              · exact Ex7.ev _ _ _ h'
            · have hb : mv.br = false := by simpa using cb
              obtain ⟨o, kt, g1, ⟨ots, g2, g3⟩, g4⟩ := id hm4
              have lo : ots.length = mv.raw.op.length := Paired.length g3
              refine ⟨_, rfl, mr, _, 0, .ref o, rfl, rfl, g1, atI_nat (j := 0) rfl, _, .inr (.inl ⟨_, g2, rfl⟩), ?_⟩
              refine ite2 (fun c0 => ?_) (fun c0 => ?_)
              · have e0 : mv.raw.op = [] := by
                  refine List.eq_nil_of_length_eq_zero ?_
                  rw [← lo]
                  cases ots with
                  | nil => rfl
                  | cons a b => exact absurd c0 (by show ¬ (!(!false)) = true; decide)
                exact ⟨s7, Fn, later, lts, _, _, _, _, rfl, hrl7, hq7, pus7, hF7, hlt7, plt7, prw7, N, Ex7, done_old Dn hm1 hb (.inl e0)⟩
              · have n0 : mv.raw.op ≠ [] := fun e0 => by
                  rw [e0] at lo
                  have : ots = [] := List.eq_nil_of_length_eq_zero lo
                  subst this
                  exact c0 rfl
                refine ⟨_, rfl, x, dx, _, rfl, s7 _ _ hx, rfl, _, rfl, x, r, mr, ws, ya, yb, bs, mv.raw, rfl, wa.same s7, ra.same s7, hm4, rl9.1, rl9.2, fun H8 tu s8 htu => ?_⟩
                have s78 := s7.trans s8
                obtain ⟨xs8, hfd8, pe8⟩ := hF7.same s8
                have keys8 := ent_keys pe8
                have lxs : xs8.length = Fn.length := Paired.length pe8
                have mFn : Fn.length ≤ mostS := lim W y4 so lS N.nd N.rch O.ok
                refine ⟨_, rfl, _, rfl, fd, tu, xs8, nkey (settle mv.raw), rfl, rfl, hfd8, keys8, kat_sd htu, nkey_depth _, _, rfl, ?_⟩
                refine ite2 (fun cn => ?_) (fun cn => ?_)
                · have hn : settle mv.raw ∉ keysF Fn := fun z => by
                    obtain ⟨ov, hov⟩ := mem_keysF.mp z
                    obtain ⟨y, y1, _⟩ := (ent_val pe8).2 ov N.nd hov
                    rw [y1] at cn
                    exact absurd cn (show ¬ (!true) = true by decide)
                  obtain ⟨N', D'⟩ := inner_new W O N hsd1 Dn hm1 hb n0 hn
                  refine ⟨_, rfl, _, rfl, (by show 2 ≤ sizeLine; decide), fun vv nvv => ?_⟩
                  have s9 := same_upd (o := .tup [.ref t0, .ref me]) nvv
                  have hvv : (upd H8 vv (.tup [.ref t0, .ref me])) vv = some (.tup [.ref t0, .ref me]) := upd_same
                  generalize (upd H8 vv (.tup [.ref t0, .ref me])) = H9 at s9 hvv
                  have s89 := s8.trans s9
                  have hfd9 := s9 _ _ hfd8
                  have pe9 := paired_mono (fun _ _ z => EntAt.same z s9) pe8
                  refine ⟨_, rfl, _, rfl, fd, tu, xs8, nkey (settle mv.raw), rfl, rfl, hfd9, ent_keys pe9, kat_sd (htu.same s9), nkey_depth _, by rw [lxs]; exact small13 (by omega), ?_⟩
                  rw [DN.putN_new ((ent_val pe9).1 hn)]
                  have nt9 := no_dN hfd9
                  have hlt9 := s89 _ _ hlt7
                  have hrl9 := s89 _ _ hrl7
                  have hq9 := s89 _ _ hq7
                  have neL : ∀ {a : Addr} {zs : List V}, H9 a = some (.lst zs) → a ≠ fd := fun z e => by rw [e, hfd9] at z; cases z
                  have hltA : (upd H9 fd (DN.dN P w fd (xs8 ++ [(nkey (settle mv.raw), tu, V.ref vv)]))) lt = some (.lst (lts.map V.ref)) := by rw [upd_ne (neL hlt9)]; exact hlt9
                  refine ⟨_, rfl, .inl ⟨rfl, _, SqL.of hltA⟩, _, rfl, lt, _, _, rfl, rfl, hltA, ?_, ?_⟩
                  · have h1 := Paired.length plt7
                    have h2 := N.ln
                    rw [List.length_map]
                    exact small13 (by omega)
                  have ntA := no_lst hltA
                  have s79 : Same H H9 := s7.trans s89
                  refine ⟨same_new (same_new s79 nfd) flt, _, _, lts ++ [tu], _, _, _, _, rfl, ?_, ?_, ?_, ?_, ?_, ?_, ?_, N', Ex7.snoc (move_ev mmem), D'⟩
                  · rw [upd_ne nrl, upd_ne (neL hrl9)]
                    exact hrl9
                  · rw [upd_ne nql.symm, upd_ne (neL hq9)]
                    exact hq9
                  · exact paired_mono (fun _ _ z => MvAt.no (MvAt.no (MvAt.same z s89) nt9) ntA) pus7
                  · refine ⟨_, by rw [upd_ne nfl]; exact upd_same, ?_⟩
                    refine paired_snoc (paired_mono (fun _ _ z => EntAt.no (EntAt.no z nt9) ntA) pe9) (EntAt.no (EntAt.no ?_ nt9) ntA)
                    exact ⟨rfl, htu.same s9, vv, t0, me, rfl, SqT.of hvv, hsd7'.same s89, s89 _ _ hm3⟩
                  · rw [upd_same, List.map_append]
                    rfl
                  · exact paired_snoc (paired_mono (fun _ _ z => SdAt.no (SdAt.no (SdAt.same z s89) nt9) ntA) plt7) (SdAt.no (SdAt.no (htu.same s9) nt9) ntA)
                  · exact paired_mono (fun _ _ z => SdAt.no (SdAt.no (SdAt.same z s89) nt9) ntA) prw7
                · have hn : settle mv.raw ∈ keysF Fn := Classical.byContradiction fun z => cn (by rw [(ent_val pe8).1 z]; rfl)
                  exact ⟨s78, Fn, later, lts, _, _, _, _, rfl, s8 _ _ hrl7, s8 _ _ hq7, paired_mono (fun _ _ z => MvAt.same z s8) pus7, hF7.same s8, s8 _ _ hlt7, paired_mono (fun _ _ z => SdAt.same z s8) plt7, paired_mono (fun _ _ z => SdAt.same z s8) prw7, N, Ex7, done_old Dn hm1 hb (.inr hn)⟩
          · rintro σ H7 ⟨s7, Fn, later, lts, a7, a8, a9, a10, rfl, hrl7, hq7, pus7, hF7, hlt7, plt7, prw7, N, Ex7, Dn⟩
            rw [List.length_map, lus] at Dn
            exact ⟨s7, Fn, later, lts, _, _, _, _, _, rfl, hrl7, hF7, hlt7, plt7, prw7, inner_next N hsd1 Dn, Ex7⟩
        · rintro σ H5 ⟨s5, Fn, later, lts, a6, a7, a8, a9, a10, rfl, hrl5, hF5, hlt5, plt, prw, N, Ex5⟩
          rw [List.length_map, lrow] at N
          have O2 := inner_end O N
          refine ⟨_, rfl, lt, _, rfl, .inl (SqL.of hlt5), fun l1 nl1 => ?_⟩
          have s6 := same_upd (o := .lst (lts.map V.ref)) nl1
          have mF2 : Fn.length ≤ mostS := lim W y4 so lS O2.nd (fun s h => by obtain ⟨k, a, b⟩ := O2.rch s h; exact ⟨k, Nat.le_succ_of_le a, b⟩) O2.ok
          have ln := N.ln
          refine ⟨2 * (mostS - Fn.length) + (if later = [] then 0 else 1), ?_, s5.trans s6, d + 1, Fn, later, lts, l1, _, _, _, _, _, _, rfl, rfl, hF5.same s6, upd_same, paired_mono (fun _ _ z => SdAt.same z s6) plt, O2, Ex5, fun ne => ?_⟩
          · by_cases c : later = []
            · rw [if_pos c]
              omega
            · rw [if_neg c]
              have : later.length ≠ 0 := fun z => c (List.eq_nil_of_length_eq_zero z)
              omega
          · have : later.length ≠ 0 := fun z => ne (List.eq_nil_of_length_eq_zero z)
            omega
end
end K17

namespace K17
open L2 PySem PySem.Spec PyProof.Rows RZ
abbrev sToldEv : Stmt := top 41
abbrev sAlikeAll : Stmt := top 46
abbrev sTwoWalk : Stmt := top 47
abbrev sToldS : Stmt := top 48
theorem rg_nat (n : Nat) : rgV 0 (n : Int) = natV (List.range n) := by
  unfold rgV natV
  rw [Int.sub_zero, Int.toNat_natCast]
  refine List.map_congr_left fun i _ => ?_
  rw [Int.zero_add]
/-- names and takes, as data -/
def ptD (ws : List Str) (bs : List Bool) : PyData := .tuple [.tuple (ws.map PyData.str), .tuple (bs.map PyData.bool)]
theorem bools_lay : ∀ l : List Bool, PyData.canLayAll0 (l.map PyData.bool) = true
  | [] => rfl
  | a :: l => by
    show (PyData.canLay0 (.bool a) && PyData.canLayAll0 (l.map PyData.bool)) = true
    rw [bools_lay l, PyData.canLay0]
    rfl
theorem pt_lay {ws : List Str} {bs : List Bool} (h : ∀ x ∈ ws, Asc x) : (ptD ws bs).canLay0 = true := by
  have d := texts_lay h
  have a := bools_lay bs
  unfold ptD
  simp only [PyData.canLay0, PyData.canLayAll0, d, a, Bool.and_true]
theorem pt_shaped {ws : List Str} {bs : List Bool} (h : ∀ x ∈ ws, Asc x) : SeqAt.shaped (ptD ws bs) = true := by
  have tup : ∀ l : List PyData, (PyData.tuple l).depth = PyData.depthAll l + 1 := fun l => by rw [PyData.depth]
  unfold SeqAt.shaped
  have h2 : (ptD ws bs).depth ≤ 64 := by
    unfold ptD
    rw [tup]
    have := dAll_le (n := 1) (ks := [PyData.tuple (ws.map PyData.str), .tuple (bs.map PyData.bool)]) fun k hk => by
      simp only [List.mem_cons, List.not_mem_nil, or_false] at hk
      rcases hk with rfl | rfl
      · rw [tup]
        have := dAll_le (n := 0) (ks := ws.map PyData.str) fun k h => by
          obtain ⟨o, _, rfl⟩ := List.mem_map.mp h
          simp [PyData.depth]
        omega
      · rw [tup]
        have := dAll_le (n := 0) (ks := bs.map PyData.bool) fun k h => by
          obtain ⟨o, _, rfl⟩ := List.mem_map.mp h
          simp [PyData.depth]
        omega
    omega
  rw [pt_lay h, decide_eq_true h2]
  rfl
theorem pt_eqv {ws : List Str} {bs : List Bool} (h : ∀ x ∈ ws, Asc x) : PyData.eqv (ptD ws bs) (ptD ws bs) = true := SeqAt.eqv_refl _ (pt_lay h)
theorem dp_strs {K : PySem.W.Frag} {H : Hp} : ∀ l : List Str, DpAll K H (l.map V.str) (l.map PyData.str)
  | [] => .nil
  | a :: l => .cons (.str a) (dp_strs l)
theorem dp_bools {K : PySem.W.Frag} {H : Hp} : ∀ l : List Bool, DpAll K H (l.map V.bl) (l.map PyData.bool)
  | [] => .nil
  | a :: l => .cons (.bl a) (dp_bools l)
theorem dp_pt {K : PySem.W.Frag} {H : Hp} {t a c : Addr} {ws : List Str} {bs : List Bool} (ht : SqT K H t [.ref a, .ref c]) (ha : SqT K H a (ws.map V.str)) (hc : SqT K H c (bs.map V.bl)) : Dp K H (.ref t) (ptD ws bs) :=
  .tup ht (.cons (.tup ha (dp_strs ws)) (.cons (.tup hc (dp_bools bs)) .nil))
section
variable {base : Heap} {P : Program} {w : World} {K : PySem.W.Frag} {mg : Str → Option Value}
/-! ### two_walk -/
def spTwoWalk (K : PySem.W.Frag) (CP CR CW : Addr) : Sp := fun vs H Q _ => ∃ (m o : Addr) (ws ya yb : List Str) (bs : List Bool), vs = [.ref m, .ref o] ∧ PlanIs H CP m ws ya bs ∧ PlanIs H CP o ws yb bs ∧ (∀ x ∈ ws, Asc x) ∧ ws.length ≤ 4 ∧ ya.length = ws.length ∧ yb.length = ws.length ∧ bs.length = ws.length ∧
  ∀ H' x r, Same H H' → RoadAt H' CR r ws ya yb bs → WalkAt K H' CW x r ws.length → Q (.ref x) H'
theorem scTwoWalk : FnScope ["plan", "other"] ["plan", "other"] (defScope sTwoWalk) := ⟨rfl, rfl, rfl, by decide +kernel, rfl, by decide +kernel, by decide +kernel⟩
theorem ok_twoWalk {f fW fR CP CR CW : Addr} {fd fdW fdR : FuncData} (F : Fun K "two_walk" "two_walk" sTwoWalk f fd) (T : TxtX K mg) (L : WalkT K mg CW) (RT : RoadT K mg CR) (PK : PlanK P w K mg base CP) (IC : C8.InsC K CP) (gP : mg "Plan" = some (.ref CP))
    (MW : Mk K CW fW) (FW' : FnOk P w K mg base CX0 1 fW fdW ["self", "road", "aim", "doors"] (spWI K CW CR)) (bW : Binds K fdW ["self", "road", "aim", "doors"] [])
    (MR : Mk K CR fR) (FR : FnOk P w K mg base CX0 3 fR fdR ["self", "plans"] (spRI CR CP)) (bR : Binds K fdR ["self", "plans"] []) : FnOk P w K mg base CX0 5 f fd ["plan", "other"] (spTwoWalk K CP CR CW) := by
  refine F.ok scTwoWalk (fun vs H Q E h => ?_) (fun cdv A outer s H vs Q E hr h => ?_)
  · obtain ⟨m, o, ws, ya, yb, bs, rfl, _⟩ := h
    rfl
  · obtain ⟨m, o, ws, ya, yb, bs, rfl, pl, pl2, asc, w4, ly, ly2, lb, k⟩ := h
    obtain ⟨ta, ga⟩ := T.alike
    have r2 : Room 2 _ := hr.mono (by decide)
    refine ⟨_, pss_cons (ps_if (PW.pt (pw_or (pt_not (pt_val (pe_callB (C8.call_isC IC) (by rfl) T.isinst (by decide +kernel) (pa_cons (pv 1) (pa_cons (pe_glob (v := .ref CP) (by rfl) gP rfl) pa_nil)))))
        (pw_or1 (pt_cmpR (op_neD (u64 hr)) (pe_tup (pa_cons (pe_get PK.p1 PK.cl r2 (pv 0)) (pa_cons (pe_get PK.p3 PK.cl r2 (pv 0)) pa_nil))) (pe_tup (pa_cons (pe_get PK.p1 PK.cl r2 (pv 1)) (pa_cons (pe_get PK.p3 PK.cl r2 (pv 1)) pa_nil))) (nomark _))))) pss_never pss_nil)
      (pss_one (ps_ret (pe_make MW FW' (hr.mono (by decide)) rfl L.gW bW .nil pass0 (pa_cons (pe_make MR FR hr rfl RT.gR bR .nil pass0 (pa_cons (pe_tup (pa_cons (pv 0) (pa_cons (pv 1) pa_nil))) pa_nil)) (pa_cons (pe_glob (v := .str "alike") (by rfl) ga ⟨_, rfl⟩)
        (pa_cons (pe_tupRg rfl (by rfl) T.tuple (prg_1 (by rfl) T.range (pe_callB call_len_seq (by rfl) T.len PySem.boot_len (pa_cons (pe_get PK.p1 PK.cl r2 (pv 0)) pa_nil)))) pa_nil)))))), ?_⟩
    obtain ⟨dx, a, b, c, z, hm, ha, hb, hc⟩ := pl.ex
    obtain ⟨dx', a', b', c', z', hm', ha', hb', hc'⟩ := pl2.ex
    refine ⟨_, rfl, o, dx', _, rfl, hm', true, rfl, ?_⟩
    refine ite2 (fun q => absurd q (by decide)) (fun _ => ?_)
    refine ⟨_, rfl, m, dx, _, rfl, hm, m, dx, _, .ref a, rfl, hm, rfl, _, rfl, m, dx, _, rfl, hm, m, dx, _, .ref c, rfl, hm, rfl, (by show 2 ≤ sizeLine; decide), fun t1 nt1 => ?_⟩
    have s1 := same_upd (o := .tup [.ref a, .ref c]) nt1
    have ht1 : (upd H t1 (.tup [.ref a, .ref c])) t1 = some (.tup [.ref a, .ref c]) := upd_same
    generalize (upd H t1 (.tup [.ref a, .ref c])) = H1 at s1 ht1
    have hm1' := s1 _ _ hm'
    refine ⟨_, rfl, o, dx', _, rfl, hm1', o, dx', _, .ref a', rfl, hm1', rfl, _, rfl, o, dx', _, rfl, hm1', o, dx', _, .ref c', rfl, hm1', rfl, (by show 2 ≤ sizeLine; decide), fun t2 nt2 => ?_⟩
    have s2 := same_upd (o := .tup [.ref a', .ref c']) nt2
    have ht2 : (upd H1 t2 (.tup [.ref a', .ref c'])) t2 = some (.tup [.ref a', .ref c']) := upd_same
    generalize (upd H1 t2 (.tup [.ref a', .ref c'])) = H2 at s2 ht2
    have s02 := s1.trans s2
    refine ⟨ptD ws bs, ptD ws bs, dp_pt (SqT.of (s2 _ _ ht1)) (ha.same s02).sq (hc.same s02).sq, dp_pt (SqT.of ht2) (ha'.same s02).sq (hc'.same s02).sq, pt_shaped asc, pt_shaped asc, _, rfl, ?_⟩
    refine ite2 (fun q => absurd q (by rw [pt_eqv asc]; decide)) (fun _ => ?_)
    refine ⟨_, rfl, _, rfl, (by show 2 ≤ sizeLine; decide), fun pt npt => ?_⟩
    have s3 := same_upd (o := .tup [.ref m, .ref o]) npt
    have hpt : (upd H2 pt (.tup [.ref m, .ref o])) pt = some (.tup [.ref m, .ref o]) := upd_same
    generalize (upd H2 pt (.tup [.ref m, .ref o])) = H3 at s3 hpt
    refine fun r dr nr ndr ner => ?_
    have s4 : Same H3 (upd (upd H3 dr (.own r)) r (.ins CR dr [])) := (same_upd ndr).trans (same_upd (by rw [upd_ne ner.symm]; exact nr))
    have s04 := (s02.trans s3).trans s4
    refine ⟨r, dr, pt, m, o, ws, ya, yb, bs, rfl, upd_same, s4 _ _ hpt, pl.same s04, pl2.same s04, ly, ly2, lb, w4, fun H5 k5 ra5 => ⟨rfl, ?_⟩⟩
    have s05 : Same H H5 := (s02.trans s3).trans (mk_same nr ndr ner k5)
    have hm5 := s05 _ _ hm
    refine ⟨_, rfl, m, dx, _, rfl, hm5, m, dx, _, .ref a, rfl, hm5, rfl, a, _, rfl, .inr (ha.same s05).sq, _, rfl, ?_⟩
    rw [List.length_map]
    refine ⟨RgOk.of_le (by omega) (by omega) (by omega) (by omega), fun dt ndt => ?_⟩
    rw [rg_nat]
    have s6 := same_upd (o := .tup (natV (List.range ws.length))) ndt
    have hdt : (upd H5 dt (.tup (natV (List.range ws.length)))) dt = some (.tup (natV (List.range ws.length))) := upd_same
    generalize (upd H5 dt (.tup (natV (List.range ws.length)))) = H6 at s6 hdt
    have ra6 := ra5.same s6
    refine fun x dw nx ndx nex => ?_
    have s7 : Same H6 (upd (upd H6 dw (.own x)) x (.ins CW dw [])) := (same_upd ndx).trans (same_upd (by rw [upd_ne nex.symm]; exact nx))
    obtain ⟨drr, _, _, _, _, _, hrr, _⟩ := ra6.ex
    have nrx : r ≠ x := fun z => by rw [z, nx] at hrr; cases hrr
    refine ⟨x, dw, r, dt, ws, ya, yb, bs, rfl, upd_same, ra6.same s7, nrx, w4, SqT.of (s7 _ _ hdt), fun H8 k8 wa => ⟨rfl, ?_⟩⟩
    have s68 : Same H6 H8 := mk_same nx ndx nex k8
    exact k H8 x r ((s05.trans s6).trans s68) (ra6.same s68) wa
/-! ### told_event -/
def spToldEv (C : Addr) : Sp := fun vs H Q _ => ∃ (r t : Addr) (ws ya yb : List Str) (bs : List Bool) (e : Ev), vs = [.ref r, .ref t] ∧ RoadAt H C r ws ya yb bs ∧ EvT H t e ∧ (e ∈ qev ws.length ∨ e = .read) ∧ ∀ H' u, Same H H' → H' u = some (.tup (evV ws e)) → Q (.ref u) H'
theorem scToldEv : FnScope ["road", "event", "word", "part"] ["road", "event"] (defScope sToldEv) := ⟨rfl, rfl, rfl, by decide +kernel, rfl, by decide +kernel, by decide +kernel⟩
theorem ok_toldEv {f C : Addr} {fd : FuncData} (F : Fun K "told_event" "told_event" sToldEv f fd) (T : TxtX K mg) (R : RoadT K mg C) : FnOk P w K mg base CX0 1 f fd ["road", "event"] (spToldEv C) := by
  refine F.ok scToldEv (fun vs H Q E h => ?_) (fun cdv A outer s H vs Q E hr h => ?_)
  · obtain ⟨r, t, ws, ya, yb, bs, e, rfl, _⟩ := h
    rfl
  · obtain ⟨r, t, ws, ya, yb, bs, e, rfl, ra, ht, hv, k⟩ := h
    obtain ⟨t1, g1⟩ := T.none1
    refine ⟨_, pss_cons (ps_asg (pv 1) (pg_tup rfl (pgs_cons (pg_name (i := 2) scToldEv.nd rfl (.inl rfl)) (pgs_cons (pg_name (i := 3) scToldEv.nd rfl (.inl rfl)) pgs_nil))))
      (pss_one (ps_ret (pe_ifExp (pt_cmpR op_eq (pv 3) (pe_glob (v := .int (-1)) (by rfl) g1 ⟨_, rfl⟩) (nomark _)) (pe_tup (pa_cons (pv 2) pa_nil)) (pe_tup (pa_cons (pv 2) (pa_cons (pe_ix (r := rIxT K) ix_tup (pe_fld (pv 0) rfl) (pv 3) (fun _ _ => rfl)) pa_nil)))))), ?_⟩
    obtain ⟨dr, na, c, pw, kp, tws, hr0, hna, _⟩ := id ra.ex
    have ht' : H t = some (.tup [.str (evW e), .int (evP e)]) := ht
    refine ⟨_, rfl, t, _, rfl, SqT.of ht', rfl, .str (evW e), _, rfl, .int (evP e), _, rfl, rfl, ?_⟩
    refine ⟨_, rfl, rfl, _, rfl, ?_⟩
    have one : evP e = -1 → evV ws e = [.str (evW e)] := fun h => by
      cases e with
      | ask p => exact absurd (show (p : Int) = -1 from h) (by omega)
      | ren p => exact absurd (show (p : Int) = -1 from h) (by omega)
      | _ => rfl
    refine ite2 (fun c => ?_) (fun c => ?_)
    · have e1 : evP e = -1 := V.int.inj (of_decide_eq_true c)
      refine ⟨_, rfl, (by show 1 ≤ sizeLine; decide), fun u nu => k _ u (same_upd nu) ?_⟩
      rw [upd_same, one e1]
    · have n1 : evP e ≠ -1 := fun z => c (decide_eq_true (by rw [z]))
      obtain ⟨p, hp, ep, ev⟩ : ∃ p, p < ws.length ∧ evP e = (p : Int) ∧ evV ws e = [.str (evW e), .str (nmOf ws p)] := by
        rcases hv with hv | rfl
        · unfold qev at hv
          rcases List.mem_append.mp hv with q | q
          · simp at q
            rcases q with rfl | rfl | rfl <;> exact absurd rfl n1
          · rcases List.mem_append.mp q with q | q <;> (obtain ⟨j, hj, rfl⟩ := List.mem_map.mp q; exact ⟨j, List.mem_range.mp hj, rfl, rfl⟩)
        · exact absurd rfl n1
      refine ⟨_, rfl, _, rfl, r, C, dr, _, .ref na, rfl, hr0, R.cl, R.n2, rfl, _, rfl, na, _, _, .str (nmOf ws p), rfl, rfl, hna.sq, by rw [ep]; exact atI_nat (by rw [List.getElem?_map, nm_at hp]; rfl), (by show 2 ≤ sizeLine; decide), fun u nu => k _ u (same_upd nu) ?_⟩
      rw [upd_same, ev]
end
end K17

namespace K17
open L2 PySem PySem.Spec PyProof.Rows RZ
/-- a def whose last parameter is None where it is not given -/
def HasN (P : Program) (w : World) (K : PySem.W.Frag) (mg : Str → Option Value) (base : Heap) (nm : Str) (k : Nat) (ps : List Str) (sp : Sp) : Prop :=
  ∃ (f : Addr) (fd : FuncData), FnOk P w K mg base CX0 k f fd ps sp ∧ mg nm = some (.ref f) ∧ PySem.W.keepIn K (.ref f) = true ∧ Binds K fd ps [Value.none]
theorem pe_hasN {X : Cx} {nm : Str} {k : Nat} {ps : List Str} {sp : Sp} {e : Expr} {es : List Expr} {t : TA} {p pos : Pos} (h : HasN X.prog X.w X.K X.mg X.base nm k ps sp) (hr : Room k X.A) (ha : PA X (e :: es) t) (hg : Gl X nm := by rfl)
    (hdb : (nm == ("__debug__" : Str)) = false := by decide) (he : starEach (e :: es) X.env = (false, eval e X.env) :: starEach es X.env := by rfl) (hpl : (backTo pos (starEach es X.env)).any (·.1) = false := by rfl) :
    PE X (.Call (.Name nm p) (e :: es) [] pos) (tCall sp [.non] E0 t) := by
  obtain ⟨f, fd, F, hm, hk, hb⟩ := h
  exact pe_call F hr hg hm hk hb (.cons rfl .nil) pass0 ha hdb he hpl
section
variable {base : Heap} {P : Program} {w : World} {K : PySem.W.Frag} {mg : Str → Option Value}
/-! ### told_search -/
/-- what is told of a plan, a part and a manner -/
def TldT (K : PySem.W.Frag) (ya yb : Ys) (bs : List Bool) (a : Str) (H : Hp) (T : Addr) : Prop := ∃ (tb : Addr) (Z S : List Sd), SqT K H T [.str a, .ref tb] ∧ TabAt K H tb Z ∧ StartsOk ya yb S ∧ (∀ k s, Reach ya yb bs S k s → s ∈ Z) ∧ ∀ s ∈ Z, Unbr ya yb bs s
def TldB (K : PySem.W.Frag) (ya yb : Ys) (bs : List Bool) (b : Str) (H : Hp) (T : Addr) : Prop := ∃ (fa sa : Addr) (sts : List V) (S : List Sd) (d : Nat), SqT K H T [.str b, .ref fa, .ref sa] ∧ SqT K H sa sts ∧ sts.length = d + 2 ∧ StartsOk ya yb S ∧ BrkAt ya yb bs S d
def spToldS (K : PySem.W.Frag) (C CR : Addr) : Sp := fun vs H Q _ => ∃ (x r : Addr) (ws ya yb : List Str) (bs : List Bool) (a b : Str), vs = [.ref x, .str a, .str b] ∧ WalkAt K H C x r ya.length ∧ RoadAt H CR r ws ya yb bs ∧ ya.length ≤ 4 ∧ bs.length = ya.length ∧ ws.length = ya.length ∧ Two ya yb ∧
  ∀ H' T, Same H H' → (TldT K ya yb bs a H' T ∨ TldB K ya yb bs b H' T) → Q (.ref T) H'
abbrev nToldS : List Str := ["walk", "kept_word", "broken_word", "table", "way", "standing", "events", "openings", "kept", "present", "story", "event", "number"]
theorem scToldS : FnScope nToldS ["walk", "kept_word", "broken_word"] (defScope sToldS) := ⟨rfl, rfl, rfl, by decide +kernel, rfl, by decide +kernel, by decide +kernel⟩
theorem ok_toldS {f C CR : Addr} {fd : FuncData} (F : Fun K "told_search" "told_search" sToldS f fd) (T : TxtX K mg) (L : WalkT K mg C) (RT : RoadT K mg CR) (GS : HasN P w K mg base "search" 6 ["walk", "starts", "most"] (spSearch P w K C CR)) (GT : HasM P w K mg base C "starts" 4 ["self"] (spStarts K C CR))
    (GE : Has P w K mg base "told_event" 1 ["road", "event"] (spToldEv CR)) : FnOk P w K mg base CX0 7 f fd ["walk", "kept_word", "broken_word"] (spToldS K C CR) := by
  refine F.ok scToldS (fun vs H Q E h => ?_) (fun cdv A outer s H vs Q E hr h => ?_)
  · obtain ⟨x, r, ws, ya, yb, bs, a, b, rfl, _⟩ := h
    rfl
  · obtain ⟨x, r, ws, ya, yb, bs, a, b, rfl, wa, ra, y4, lb, lw, W, k⟩ := h
    have r1 : Room 1 _ := hr.mono (by decide)
    refine ⟨_, pss_cons (ps_asg (pe_hasN GS hr (pa_cons (pv 0) (pa_cons (pe_hasM0 GT L.cl (hr.mono (by decide)) (pv 0)) pa_nil))) (pg_tup rfl (pgs_cons (pg_name (i := 3) scToldS.nd rfl (.inl rfl)) (pgs_cons (pg_name (i := 4) scToldS.nd rfl (.inl rfl)) pgs_nil))))
      (pss_cons (ps_if (pt_cmpR op_isN (pv 4) pe_non (nomark _)) (pss_one (ps_ret (pe_tup (pa_cons (pv 1) (pa_cons (pv 3) pa_nil))))) pss_nil)
      (pss_cons (ps_asg (pv 4) (pg_tup rfl (pgs_cons (pg_name (i := 5) scToldS.nd rfl (.inl rfl)) (pgs_cons (pg_name (i := 6) scToldS.nd rfl (.inl rfl)) pgs_nil))))
      (pss_cons (ps_asg (pe_slice (r := rSlA K) sl_tupA (pv 5) po_none (po_some pe_int)) (pg_tup rfl (pgs_cons (pg_name (i := 7) scToldS.nd rfl (.inl rfl)) (pgs_cons (pg_name (i := 8) scToldS.nd rfl (.inl rfl)) (pgs_cons (pg_name (i := 9) scToldS.nd rfl (.inr rfl)) pgs_nil)))))
      (pss_cons (ps_set (i := 10) scToldS.nd rfl (.inl rfl) (pe_lst (pa_cons (pe_tup (pa_cons pe_str (pa_cons (pe_ix (r := rIxT K) ix_tup (pe_fld (pe_fld (pv 0) rfl) rfl) (pe_ix (r := rIxT K) ix_tup (pe_ix (r := rIxT K) ix_tup (pv 7) pe_int (fun _ _ => rfl)) pe_int (fun _ _ => rfl)) (fun _ _ => rfl)) pa_nil))) pa_nil)))
      (pss_cons (ps_expr (pe_bm PySem.F.plainAttrs_list PySem.F.slot_list_extend PySem.F.type_list_extend mt_extend (pv 10) (pa_cons (pe_lc (own := [("event", 11)]) (g := gName 11) (tt := tYes) (te := tCall (spToldEv CR) [] E0 (tCons (tFld K (tVar 0) "road") (tCons (tVar 11) tNil))) rfl scToldS.nd (pi_tup (pv 6))
          (blkOk_by (N := nToldS) (sc := defScope sToldS) (by decide +kernel)) (fun _ _ _ _ _ => pg_name (i := 11) scToldS.nd rfl (Or.inl rfl)) (fun _ _ _ _ _ => pts_nil)
          (fun _ _ _ _ _ => pe_has GE r1 (pa_cons (pe_fld (pv 0) rfl) (pa_cons (pv 11) pa_nil)))) pa_nil)))
      (pss_one (ps_ret (pe_tup (pa_cons (pv 2) (pa_cons (pe_callTy call_tupD (by rfl) T.tuple (by decide +kernel) (pa_cons (pe_lc (own := [("number", 12)]) (g := gName 12) (tt := tYes) (te := tOp (rI0 fun i j => V.int (i - j)) (tVar 12) (tVar 9)) rfl scToldS.nd (pi_tup (pv 8))
          (blkOk_by (N := nToldS) (sc := defScope sToldS) (by decide +kernel)) (fun _ _ _ _ _ => pg_name (i := 12) scToldS.nd rfl (Or.inl rfl)) (fun _ _ _ _ _ => pts_nil)
          (fun _ _ _ _ _ => pe_op op_sub (pv 12) (pv 9))) pa_nil)) (pa_cons (pe_callTy call_tupD (by rfl) T.tuple (by decide +kernel) (pa_cons (pv 10) pa_nil)) pa_nil))))))))))), ?_⟩
    refine ⟨_, rfl, ?_⟩
    obtain ⟨dx, dd, qa, es, hx, hdd, hqa, hes⟩ := id wa
    obtain ⟨dr, na, c, pw, kp, tws, hr0, hna, _⟩ := id ra.ex
    refine ⟨_, rfl, x, dx, _, rfl, hx, rfl, x, r, ws, ya, yb, bs, rfl, wa, ra, y4, fun H1 sl sts S s1 hsl psl so lS => ?_⟩
    refine ⟨x, r, sl, ws, ya, yb, bs, sts, S, rfl, wa.same s1, ra.same s1, y4, lb, W, hsl, psl, lS, so, fun H2 T' tb Z s2 hT htab rch unb => ?_, fun H2 T' wy s0 evs d s2 hT hW hs0 hev hmax hok hbr hqe => ?_⟩
    · refine ⟨T', _, rfl, hT, rfl, .ref tb, _, rfl, .non, _, rfl, rfl, ?_⟩
      refine ⟨_, rfl, rfl, _, rfl, ?_⟩
      refine ite2 (fun _ => ?_) (fun z => absurd (decide_eq_true rfl) z)
      refine ⟨_, rfl, _, rfl, (by show 2 ≤ sizeLine; decide), fun u nu => ?_⟩
      have s3 := same_upd (o := .tup [.str a, .ref tb]) nu
      obtain ⟨zs, t1, t2⟩ := htab
      exact k _ u ((s1.trans s2).trans s3) (.inl ⟨tb, Z, S, SqT.of upd_same, ⟨zs, t1.same s3, dpAll_same s3 _ _ t2⟩, so, rch, unb⟩)
    · obtain ⟨tS, ev, eds, w1, ⟨o, kt, w2, ⟨ots, w3, w4⟩, w5⟩, w6, w7⟩ := hW
      have s12 := s1.trans s2
      obtain ⟨p, kept, now, hp, kb, es0⟩ := so.1 s0 hs0
      refine ⟨T', _, rfl, hT, rfl, .non, _, rfl, .ref wy, _, rfl, rfl, ?_⟩
      refine ⟨_, rfl, rfl, _, rfl, ?_⟩
      refine ite2 (fun z => by cases of_decide_eq_true z) (fun _ => ?_)
      refine ⟨_, rfl, wy, _, rfl, w1, rfl, .ref tS, _, rfl, .ref ev, _, rfl, rfl, ?_⟩
      refine ⟨_, rfl, _, rfl, tS, _, rfl, w2, (fun _ => ?_), fun q => absurd (show HT.sIx 3 0 none = 0 ∧ HT.sIx 3 3 (some 3) = 3 by decide) q⟩
      refine ⟨tS, _, rfl, w2, rfl, .ref o, _, rfl, .ref kt, _, rfl, .int (s0.now : Int), _, rfl, rfl, ?_⟩
      -- the part begun
      obtain ⟨ot, rfl, w8⟩ : ∃ ot, ots = [ot] ∧ SqT K H2 ot [.int (p : Int), .int (opBy (wayOf ya p) now now), .int (opBy (wayOf yb p) now now)] := by
        rw [es0] at w4
        have w4' : Paired (fun (t : Addr) (q : Nat × Int × Int) => SqT K H2 t [.int (q.1 : Int), .int q.2.1, .int q.2.2]) ots [(p, opBy (wayOf ya p) now now, opBy (wayOf yb p) now now)] := w4
        cases w4' with
        | cons h t =>
          cases t
          exact ⟨_, rfl, h⟩
      refine ⟨_, rfl, x, C, dx, _, .ref r, rfl, s12 _ _ hx, L.cl, L.n1, rfl, r, CR, dr, _, .ref na, rfl, s12 _ _ hr0, RT.cl, RT.n2, rfl, _, rfl, o, _, 0, .ref ot, rfl, rfl, w3, atI_nat (j := 0) rfl, ot, _, 0, .int (p : Int), rfl, rfl, w8, atI_nat (j := 0) rfl, na, _, _, .str (nmOf ws p), rfl, rfl, (hna.same s12).sq, atI_nat (by rw [List.getElem?_map, nm_at (by omega)]; rfl), (by show 2 ≤ sizeLine; decide), fun b0 nb0 => ⟨(by show 1 ≤ sizeLine; decide), fun St nSt => ?_⟩⟩
      have s4 := same_upd (o := .tup [.str "begin", .str (nmOf ws p)]) nb0
      have s5 := same_upd (o := .lst [.ref b0]) nSt
      have hSt : (upd (upd H2 b0 (.tup [.str "begin", .str (nmOf ws p)])) St (.lst [.ref b0])) St = some (.lst [.ref b0]) := upd_same
      have s45 := s4.trans s5
      have fSt : H2 St = none := free_of s4 nSt
      show (tSeq _ _) _ _ (upd (upd H2 b0 (.tup [.str "begin", .str (nmOf ws p)])) St (.lst [.ref b0]))
      generalize (upd (upd H2 b0 (.tup [.str "begin", .str (nmOf ws p)])) St (.lst [.ref b0])) = H5 at s45 hSt
      have s35 := s45
      have s15 := s12.trans s35
      refine ⟨_, rfl, .inl ⟨rfl, _, SqL.of hSt⟩, ?_⟩
      dsimp only [tCons, tNil, tLc, iTup, List.map]
      refine ⟨_, rfl, ev, rfl, ⟨_, sqT_same s35 w6⟩, fun D nD => ?_⟩
      have nDS : St ≠ D := fun e => by rw [e, nD] at hSt; cases hSt
      have led : eds.length = evs.length := Paired.length w7
      refine lc_tup (K := K) (xs := eds.map V.ref) (fun i H' => Same H5 H' ∧ ∃ us : List Addr, H' D = some (.lst (us.map V.ref)) ∧ us.length = i) ⟨same_upd nD, [], upd_same, rfl⟩ (fun i H' _ z => sqT_same (s35.trans z.1) w6) ?_ ?_
      · rintro i v H6 hv ⟨s6, us, hD, lu⟩
        rw [List.getElem?_map] at hv
        obtain ⟨et, het, rfl⟩ := Option.map_eq_some_iff.mp hv
        obtain ⟨e, he1, he2⟩ := paired_get w7 het
        have il := (List.getElem?_eq_some_iff.mp het).1
        have s16 := s15.trans s6
        refine ⟨rfl, ?_⟩
        refine ⟨_, rfl, x, C, dx, _, .ref r, rfl, s16 _ _ hx, L.cl, L.n1, rfl, _, rfl, r, et, ws, ya, yb, bs, e, rfl, ra.same s16, (s35.trans s6) _ _ he2, by rw [lw]; exact hqe e (List.mem_of_getElem? he1), fun H7 u7 s7 hu7 => ?_⟩
        exact ⟨_, s7 _ _ hD, by rw [List.length_map, lu]; exact small13 (by omega), same_new (s6.trans s7) nD, us ++ [u7], by rw [upd_same, List.map_append]; rfl, by rw [List.length_append, lu]; rfl⟩
      · rintro H6 ⟨s6, us, hD, lu⟩
        rw [List.length_map, led] at lu
        have hSt6 := s6 _ _ hSt
        refine ⟨St, D, _, _, rfl, rfl, hSt6, hD, by rw [List.length_map, lu]; exact Nat.le_of_lt (small13 (by show 1 + evs.length ≤ 13000100; omega)), ?_⟩
        have fS2 : H2 St = none := fSt
        have s26 : Same H2 (upd H6 St (.lst ([.ref b0] ++ us.map V.ref))) := same_new (s35.trans s6) fS2
        have hS7 : (upd H6 St (.lst ([.ref b0] ++ us.map V.ref))) St = some (.lst ([V.ref b0] ++ us.map V.ref)) := upd_same
        generalize (upd H6 St (.lst ([.ref b0] ++ us.map V.ref))) = H7 at s26 hS7
        refine ⟨_, rfl, ?_⟩
        refine ⟨_, rfl, kt, rfl, ⟨_, sqT_same s26 w5⟩, fun D2 nD2 => ?_⟩
        refine lc_tup (K := K) (xs := intV s0.kv) (fun i H' => Same H7 H' ∧ ∃ zs : List Int, H' D2 = some (.lst (intV zs)) ∧ zs.length = i) ⟨same_upd nD2, [], upd_same, rfl⟩ (fun i H' _ z => sqT_same (s26.trans z.1) w5) ?_ ?_
        · rintro i v H8 hv ⟨s8, zs, hD2, lz⟩
          have il := (List.getElem?_eq_some_iff.mp hv).1
          unfold intV at hv il
          rw [List.getElem?_map] at hv
          obtain ⟨y, hy, rfl⟩ := Option.map_eq_some_iff.mp hv
          have lk : s0.kv.length ≤ 4 := by
            rw [es0]
            show kept.length ≤ 4
            have := kb.1
            have := kpP_len (ya := ya) (yb := yb)
            omega
          rw [List.length_map] at il
          refine ⟨rfl, _, rfl, _, rfl, _, _, rfl, rfl, _, hD2, ?_, same_new s8 nD2, zs ++ [y - (s0.now : Int)], ?_, by rw [List.length_append, lz]; rfl⟩
          · unfold intV
            rw [List.length_map, lz]
            exact small1000 (by omega)
          · rw [upd_same]
            exact congrArg (fun l => some (HO.lst l)) (intV_snoc _ _)
        · rintro H8 ⟨s8, zs, hD2, lz⟩
          refine ⟨D2, _, rfl, SqL.of hD2, fun fa of nfa odf => ?_⟩
          have s9 := same_upd (o := .frz of (.tup (intV zs))) nfa
          generalize (upd H8 fa (.frz of (.tup (intV zs)))) = H9 at s9
          refine ⟨_, rfl, St, _, rfl, SqL.of (s9 _ _ (s8 _ _ hS7)), fun sa os nsa ods => ⟨(by show 3 ≤ sizeLine; decide), fun u nu => ?_⟩⟩
          have s10 := same_upd (o := .frz os (.tup ([V.ref b0] ++ us.map V.ref))) nsa
          have hsa : TupD (upd H9 sa (.frz os (.tup ([V.ref b0] ++ us.map V.ref)))) sa ([V.ref b0] ++ us.map V.ref) := ⟨os, upd_same, ods⟩
          have s11 := same_upd (o := .tup [.str b, .ref fa, .ref sa]) nu
          refine k _ u (((s12.trans s26).trans (s8.trans s9)).trans (s10.trans s11)) (.inr ⟨fa, sa, _, S, d, SqT.of upd_same, (hsa.same s11).sq, ?_, so, hbr, hok⟩)
          rw [List.length_append, List.length_map, lu]
          show 1 + evs.length = d + 2
          omega
/-! ### alike_all -/
def spAlikeAll (K : PySem.W.Frag) (CP : Addr) : Sp := fun vs H Q _ => ∃ (m o : Addr) (ws ya yb : List Str) (bs : List Bool), vs = [.ref m, .ref o] ∧ PlanIs H CP m ws ya bs ∧ PlanIs H CP o ws yb bs ∧ (∀ x ∈ ws, Asc x) ∧ ws.length ≤ 4 ∧ ya.length = ws.length ∧ yb.length = ws.length ∧ bs.length = ws.length ∧ Two ya yb ∧
  ∀ H' T, Same H H' → (TldT K ya yb bs "alike" H' T ∨ TldB K ya yb bs "apart" H' T) → Q (.ref T) H'
theorem scAlikeAll : FnScope ["plan", "other"] ["plan", "other"] (defScope sAlikeAll) := ⟨rfl, rfl, rfl, by decide +kernel, rfl, by decide +kernel, by decide +kernel⟩
theorem ok_alikeAll {f CP CR CW : Addr} {fd : FuncData} (F : Fun K "alike_all" "alike_all" sAlikeAll f fd) (GT : Has P w K mg base "told_search" 7 ["walk", "kept_word", "broken_word"] (spToldS K CW CR)) (GO : Has P w K mg base "two_walk" 5 ["plan", "other"] (spTwoWalk K CP CR CW)) :
    FnOk P w K mg base CX0 8 f fd ["plan", "other"] (spAlikeAll K CP) := by
  refine F.ok scAlikeAll (fun vs H Q E h => ?_) (fun cdv A outer s H vs Q E hr h => ?_)
  · obtain ⟨m, o, ws, ya, yb, bs, rfl, _⟩ := h
    rfl
  · obtain ⟨m, o, ws, ya, yb, bs, rfl, pl, pl2, asc, w4, ly, ly2, lb, W, k⟩ := h
    refine ⟨_, pss_one (ps_ret (pe_has GT hr (pa_cons (pe_has GO (hr.mono (by decide)) (pa_cons (pv 0) (pa_cons (pv 1) pa_nil))) (pa_cons pe_str (pa_cons pe_str pa_nil))))), ?_⟩
    refine ⟨_, rfl, _, rfl, m, o, ws, ya, yb, bs, rfl, pl, pl2, asc, w4, ly, ly2, lb, fun H1 x r s1 ra wa => ?_⟩
    rw [← ly] at wa
    exact ⟨x, r, ws, ya, yb, bs, "alike", "apart", rfl, wa, ra, by omega, by omega, by omega, W, fun H2 T s2 h => k H2 T (s1.trans s2) h⟩
end
end K17

namespace K17
open L2 PySem PySem.Spec PyProof.Rows RZ
section
variable {X : Cx}
/-- list.count of flat things -/
def rCntV (K : PySem.W.Frag) : V → List V → Hp → VK → Prop := fun x xs H Q => ∃ (p : Addr) (ys : List V) (y : V), x = .ref p ∧ xs = [y] ∧ SqL K H p ys ∧ flatV y = true ∧ ys.all flatV = true ∧ Q (.int (ys.countP (fun z => eqV z y) : Nat)) H
theorem eqU_count {y : V} : ∀ {ys : List V} {us : List Value}, Vals ys us → ys.all flatV = true → us.countP (eqU y) = ys.countP fun z => eqV z y
  | _, _, .nil, _ => rfl
  | z :: ys, u :: us, .cons r t, f => by
    rw [List.all_cons, Bool.and_eq_true] at f
    rw [List.countP_cons, List.countP_cons, eqU_count t f.2, eqU_of r f.1]
theorem mt_countV : MtR X "list.count" (rCntV X.K) := by
  intro pins s σ H x xs v us Q I rx rxs h
  obtain ⟨p, ys, y, rfl, rfl, hs, fy, fys, q⟩ := h
  cases rx
  obtain ⟨u, rfl, ru⟩ := rxs.one
  obtain ⟨its, rv, ⟨⟨cls, dd, data, sl⟩, n, ho, hc, hdn, hd⟩, hlen⟩ := I.list hs
  simp only at hc hd
  subst hc hd
  refine call_meets PySem.F.slot_list_count ⟨_, ho, rfl⟩ PySem.F.entry_list_count (PySem.F.args_list_count_2 _ _)
    (SeqAt.list_countAt p its.toArray n dd sl u (eqU y)) ⟨ho, fun w hw => mem_eqAt ru fy rv fys w (by simpa using hw), ?_⟩
  have ec : its.toArray.toList.countP (eqU y) = ys.countP fun z => eqV z y := eqU_count rv fys
  refine ⟨.int (ys.countP (fun z => eqV z y) : Nat), H, I.tok _, ⟨s.toks, ?_⟩, q⟩
  show Value.int ((its.toArray.toList.countP (eqU y) : Nat) : Int) s.toks = Value.int ((ys.countP (fun z => eqV z y) : Nat) : Int) s.toks
  rw [ec]
end

section
variable {X : Cx}
/-- min(xs, default=None) of a list of ints -/
def rMinDef (K : PySem.W.Frag) : List V → List V → Hp → VK → Prop := fun vs zs H Q => ∃ (a : Addr) (ns : List Int), vs = [V.ref a] ∧ zs = [.non] ∧ SqL K H a (ns.map V.int) ∧ (ns = [] → Q .non H) ∧ ∀ m, m ∈ ns → (∀ y ∈ ns, m ≤ y) → Q (.int m) H
theorem ints_alike (ns : List Int) : PySem.W.AlikeAll (ns.map PyData.int) := by
  refine ⟨fun x hx y hy => ?_, fun x hx z => ?_⟩
  · obtain ⟨i, _, rfl⟩ := List.mem_map.mp hx
    obtain ⟨j, _, rfl⟩ := List.mem_map.mp hy
    simp [PySem.W.alike]
  · obtain ⟨i, _, rfl⟩ := List.mem_map.mp hx
    cases z
theorem fold_min : ∀ (ns : List Int) (n : Int), ns.foldl min n ∈ n :: ns ∧ ∀ y ∈ n :: ns, ns.foldl min n ≤ y
  | [], n => ⟨List.mem_cons_self, fun y hy => by rw [List.mem_singleton.mp hy]; exact Int.le_refl _⟩
  | a :: ns, n => by
    obtain ⟨h1, h2⟩ := fold_min ns (min n a)
    have hn := h2 (min n a) List.mem_cons_self
    refine ⟨?_, fun y hy => ?_⟩
    · show ns.foldl min (min n a) ∈ _
      rcases List.mem_cons.mp h1 with e | e
      · rw [e]
        rcases Int.le_total n a with l | l
        · rw [Int.min_eq_left l]
          exact List.mem_cons_self
        · rw [Int.min_eq_right l]
          exact List.mem_cons_of_mem _ List.mem_cons_self
      · exact List.mem_cons_of_mem _ (List.mem_cons_of_mem _ e)
    · show ns.foldl min (min n a) ≤ y
      rcases List.mem_cons.mp hy with e | hy
      · rw [e]
        have := Int.min_le_left n a
        omega
      · rcases List.mem_cons.mp hy with e | hy
        · rw [e]
          have := Int.min_le_right n a
          omega
        · exact h2 y (List.mem_cons_of_mem _ hy)
theorem ints_depth : ∀ ns : List Int, PyData.depthAll (ns.map PyData.int) = 0
  | [] => by simp [PyData.depthAll]
  | a :: l => by
    rw [List.map_cons, PyData.depthAll, ints_depth l]
    simp [PyData.depth]
theorem cr_minDef (hc : X.calm = true) (hu : X.A.units + 64 < cLine) : CallRK X (.builtin "min") [Str.ofString "default"] (rMinDef X.K) := by
  intro pins s σ H vs zs us ws Q I r rz h
  obtain ⟨a, ns, rfl, rfl, hs, q0, q1⟩ := h
  obtain ⟨its, rv, hl, _⟩ := I.list hs
  rw [Vals.ref1 r]
  obtain ⟨w1, rfl, e1⟩ := vals1 rz
  obtain rfl : w1 = Value.none := e1
  have hr := PyProof.Rows.IntsAre.reads s.heap rv.ints
  refine PySem.W.min_list_default (I.ok.hd hc) hl.isList (by simpa using hr) (ints_alike ns) (by rw [ints_depth]; omega) (fun e h' tk hk => ?_) (fun y ys i v h' tk bs e hi hv hk => ?_)
  · have e0 : ns = [] := List.map_eq_nil_iff.mp e
    exact ⟨.non, H, I.kept hk, rfl, q0 e0⟩
  · cases ns with
    | nil => cases e
    | cons n ns =>
      rw [List.map_cons] at e
      injection e with e1 e2
      subst e1 e2
      rw [PySem.W.minD_ints] at hv
      cases hv with
      | int m t =>
        obtain ⟨f1, f2⟩ := fold_min ns n
        exact ⟨.int _, H, I.kept hk, ⟨t, rfl⟩, q1 _ f1 f2⟩
end
structure PlanC (P : Program) (w : World) (K : PySem.W.Frag) (mg : Str → Option Value) (base : Heap) (C CB : Addr) : Prop extends PlanT K mg C where
  init : ∃ (fI : Addr) (fd : FuncData), Mk K C fI ∧ FnOk P w K mg base (L2.CX P w) 4 fI fd ["self", "text"] (spPI K C CB) ∧ Binds K fd ["self", "text"] []
theorem Three.asc {ws ys : List Str} {bs : List Bool} (h : Three ws ys bs) : ∀ x ∈ ws, Asc x := fun x hx c hc => by
  have := ((h.nm x hx).low c hc).2
  omega
theorem Three.short {ws ys : List Str} {bs : List Bool} (h : Three ws ys bs) : ∀ x ∈ ws, x.length ≤ 100 := fun x hx => Nat.le_trans (h.nm x hx).len (by decide)
theorem PlanIs.keepJ {H H' : Hp} {C m j : Addr} {n : Nat} {ws ys : List Str} {bs : List Bool} (h : PlanIs H C m ws ys bs) (hj : Jar H j n) (k : Keep j H H') : PlanIs H' C m ws ys bs := by
  obtain ⟨dx, a, b, c, z, e, e1, e2, e3⟩ := h.ex
  exact ⟨dx, a, b, c, z, k _ _ (not_jar hj e (fun _ q => nomatch q)) e, e1.keep (e1.ne_jar hj) k, e2.keep (e2.ne_jar hj) k, e3.keep (e3.ne_jar hj) k⟩
theorem MadeAt.plan {H : Hp} {C m : Addr} {z : Str} {ws ys : List Str} {bs : List Bool} (h : MadeAt H C m z (rowsOf ws ys bs)) (ly : ys.length = ws.length) (lb : bs.length = ws.length) : PlanIs H C m ws ys bs := by
  obtain ⟨dx, a, b, c, e, e1, e2, e3⟩ := h
  obtain ⟨c1, c2, c3⟩ := rows_cols ws ys bs ly lb
  rw [c1] at e1
  rw [c2] at e2
  rw [c3] at e3
  exact ⟨dx, a, b, c, z, e, e1, e2, e3⟩
theorem way_cases {y : Str} (h : y ∈ ways4) : y = wFresh ∨ y = wOnce ∨ y = wHanded ∨ y = wKept := by
  unfold ways4 at h
  simp only [List.mem_cons, List.not_mem_nil, or_false] at h
  exact h
theorem w_ne : wFresh ≠ wKept ∧ wFresh ≠ wOnce ∧ wFresh ≠ wHanded ∧ wKept ≠ wOnce ∧ wKept ≠ wHanded ∧ wOnce ≠ wHanded := wayne
theorem Three.waysOk {ws ys : List Str} {bs : List Bool} (h : Three ws ys bs) : WaysOk ys := fun p hp => by
  have e : wayOf ys p = ys[p] := by
    unfold wayOf
    rw [List.getD_eq_getElem?_getD, List.getElem?_eq_getElem hp]
    rfl
  have m := h.wy _ (List.getElem_mem hp)
  unfold ownB
  rw [e, decide_eq_true_eq]
  rcases way_cases m with q | q | q | q
  · exact .inl q
  · exact .inr (.inr (.inl q))
  · exact .inr (.inr (.inr q))
  · exact .inr (.inl q)
def cK (ys : List Str) : Nat := (ys.map V.str).countP fun z => eqV z (.str "kept")
theorem cK_le (ys : List Str) : cK ys ≤ ys.length := by
  unfold cK
  have := List.countP_le_length (p := fun z => eqV z (.str "kept")) (l := ys.map V.str)
  rwa [List.length_map] at this
theorem cK_cons (y : Str) (l : List Str) : cK (y :: l) = cK l + (if y = wKept then 1 else 0) := by
  unfold cK
  rw [List.map_cons, List.countP_cons]
  have e : eqV (.str y) (.str "kept") = decide (y = wKept) := by
    show (y == wKept) = decide (y = wKept)
    by_cases c : y = wKept
    · rw [c, decide_eq_true rfl]
      exact beq_self_eq_true _
    · rw [decide_eq_false c]
      exact beq_eq_false_iff_ne.mpr c
  rw [e]
  by_cases c : y = wKept
  · rw [if_pos c, decide_eq_true c, if_pos rfl]
  · rw [if_neg c, decide_eq_false c, if_neg (by decide)]
theorem cK_set {z : Str} (hz : z ≠ wKept) : ∀ {l : List Str} {i : Nat}, l[i]? = some wKept → cK (l.set i z) + 1 = cK l
  | [], i, h => nomatch h
  | y :: l, 0, h => by
    cases h
    rw [List.set_cons_zero, cK_cons, cK_cons, if_neg hz, if_pos rfl]
  | y :: l, i + 1, h => by
    have := cK_set hz (l := l) (i := i) h
    rw [List.set_cons_succ, cK_cons, cK_cons]
    omega
theorem cK_first : ∀ {l : List Str}, cK l ≠ 0 → ∃ i : Nat, l[i]? = some wKept ∧ ∀ (m : Nat) (y : Str), m < i → l[m]? = some y → y ≠ wKept
  | [], h => absurd rfl h
  | y :: l, h => by
    by_cases c : y = wKept
    · exact ⟨0, by rw [c]; rfl, fun m y' lt => absurd lt (Nat.not_lt_zero _)⟩
    · rw [cK_cons, if_neg c, Nat.add_zero] at h
      obtain ⟨i, h1, h2⟩ := cK_first h
      refine ⟨i + 1, h1, fun m y' lt e => ?_⟩
      cases m with
      | zero => cases e; exact c
      | succ m => exact h2 m y' (Nat.lt_of_succ_lt_succ lt) e
theorem own3k_of {y : V} (h : y ∈ ([.str "fresh", .str "once", .str "handed"] : List V)) : ∃ z : Str, y = .str z ∧ z ∈ ways4 ∧ z ≠ wKept := by
  simp only [List.mem_cons, List.not_mem_nil, or_false] at h
  rcases h with e | e | e
  · exact ⟨wFresh, e, by decide +kernel, w_ne.1⟩
  · exact ⟨wOnce, e, by decide +kernel, w_ne.2.2.2.1.symm⟩
  · exact ⟨wHanded, e, by decide +kernel, w_ne.2.2.2.2.1.symm⟩
theorem strs_ne_bls {ys : List Str} {bs : List Bool} (h : ys.map V.str = bs.map V.bl) (l : 1 ≤ ys.length) : False := by
  cases ys with
  | nil => exact absurd l (by decide)
  | cons a r =>
    cases bs with
    | nil => cases h
    | cons b t => cases h
theorem te_any {te : TE} {σ : L2.St} {H : Hp} {Q : VK} (R : V → Hp → Prop) (h : ∀ H' x, R x H' → Q x H') (k : ∀ Q' : VK, (∀ H' x, R x H' → Q' x H') → te σ H Q') : te σ H Q := k Q h

theorem keep_same {x : Addr} {H H' : Hp} (k : Keep x H H') (n : H x = none) : Same H H' := fun b o e => k b o (fun z => by rw [z, n] at e; cases e) e
theorem te_to {te : TE} {σ : L2.St} {H : Hp} {Q : VK} (R : V → Hp → Prop) (h : ∀ H' x, Same H H' → R x H' → Q x H') (k : ∀ Q' : VK, (∀ H' x, Same H H' → R x H' → Q' x H') → te σ H Q') : te σ H Q := k Q h
structure TxtN (K : PySem.W.Frag) (mg : Str → Option Value) : Prop extends TxtX K mg where
  any : mg "any" = none
  min : mg "min" = none
end K17

namespace K17
open L2 PySem PySem.Spec PyProof.Rows RZ
abbrev sPair : Stmt := top 56
def twinW (y : Str) : Str := if y = wOnce then wHanded else if y = wHanded then wOnce else y
theorem twin_get (y : Str) : (valV ([(Sum.inr wOnce, V.str wHanded), (Sum.inr wHanded, V.str wOnce)] : List (Key × V)) (Sum.inr y)).getD (V.str y) = V.str (twinW y) := by
  unfold twinW
  by_cases c1 : y = wOnce
  · rw [if_pos c1, valV_pos (by rw [c1])]
    rfl
  · rw [if_neg c1, valV_neg (fun z => c1 (Sum.inr.inj z).symm)]
    by_cases c2 : y = wHanded
    · rw [if_pos c2, valV_pos (by rw [c2])]
      rfl
    · rw [if_neg c2, valV_neg (fun z => c2 (Sum.inr.inj z).symm)]
      rfl
theorem twin_way {y : Str} (h : y ∈ ways4) : twinW y ∈ ways4 := by
  unfold twinW
  split
  · decide +kernel
  · split
    · decide +kernel
    · exact h
section
variable {base : Heap} {P : Program} {w : World} {K : PySem.W.Frag} {mg : Str → Option Value}
def spPair : Sp := fun vs H Q _ => ∃ (j d : Addr) (n : Nat) (ws ys : List Str) (bs : List Bool), vs = [.ref j, .ref d] ∧ Jar H j n ∧ n ≤ 8000 ∧ PlanAt H j d ws ys bs ∧ Three ws ys bs ∧
  ∀ H' d' ys', Jar H' j (n + 8) → Keep j H H' → PlanAt H' j d' ws ys' bs → Three ws ys' bs → Q (.ref d') H'
abbrev nPair : List Str := ["_law_jar_here", "_law_plan_here", "_law_other", "_law_near", "_law_some", "_law_way", "_law_twin", "_law_row"]
theorem scPair : FnScope nPair ["_law_jar_here", "_law_plan_here"] (defScope sPair) := ⟨rfl, rfl, rfl, by decide +kernel, rfl, by decide +kernel, by decide +kernel⟩
theorem ok_pair {f : Addr} {fd : FuncData} (F : Fun K "_law_pair" "_law_pair" sPair f fd) (T : TxtN K mg) (GOf : jarOf P w K mg base) : FnOk P w K mg base CX0 3 f fd ["_law_jar_here", "_law_plan_here"] spPair := by
  refine F.ok scPair (fun vs H Q E h => ?_) (fun cdv A outer s H vs Q E hr h => ?_)
  · obtain ⟨j, d, n, ws, ys, bs, rfl, _⟩ := h
    rfl
  · obtain ⟨j, d, n, ws, ys, bs, rfl, hj, hn, pa, th, k⟩ := h
    refine ⟨_, (pss_cons (ps_set (i := 2) scPair.nd rfl (.inl rfl) (pe_callTy call_dictD (by rfl) T.dict (by decide +kernel) (pa_cons (pv 1) pa_nil)))
      (pss_cons (ps_setLc (i := 3) (own := [("_law_way", 5)]) (g := gName 5) (tt := tYes) rfl scPair.nd rfl rfl rfl (pi_list (pe_dget (units1 hr) (pv 1) pe_str (fun _ _ => rfl))) (blkOk_by (N := nPair) (sc := defScope sPair) (by decide +kernel)) (fun _ _ _ _ _ => pg_name (i := 5) scPair.nd rfl (Or.inl rfl)) (fun _ _ _ _ _ => pts_nil) (fun _ _ _ _ _ => (pe_dget2 (units1 hr) (pe_disp (pps_cons pe_str pe_str (pps_cons pe_str pe_str pps_nil)) rfl rfl (by simp) (by decide)) (pv 5) (pv 5) ⟨rfl, rfl, rfl, rfl⟩)))
      (pss_cons (ps_setLc (i := 4) (own := [("_law_way", 5), ("_law_twin", 6)]) (g := gTup K 2 (gCons (gName 5) (gCons (gName 6) gNil))) (tt := tYes) rfl scPair.nd rfl rfl rfl (pi_zip (by rfl) T.zip (pa_cons (pe_dget (units1 hr) (pv 1) pe_str (fun _ _ => rfl)) (pa_cons (pv 3) pa_nil))) (blkOk_by (N := nPair) (sc := defScope sPair) (by decide +kernel)) (fun _ _ _ _ _ => pg_tup rfl (pgs_cons (pg_name (i := 5) scPair.nd rfl (Or.inl rfl)) (pgs_cons (pg_name (i := 6) scPair.nd rfl (Or.inl rfl)) pgs_nil))) (fun _ _ _ _ _ => pts_nil) (fun _ _ _ _ _ => (pe_tup (pa_cons (pv 5) (pa_cons (pv 6) (pa_cons (pe_has GOf hr (pa_cons (pv 0) (pa_cons (pe_lst (pa_cons pe_str (pa_cons pe_str (pa_cons pe_str (pa_cons pe_str pa_nil))))) pa_nil))) pa_nil))))))
      (pss_cons (ps_dput (units1 hr) (pv 2) pe_str (pe_lc (own := [("_law_row", 7)]) (g := gName 7) (tt := tYes) rfl scPair.nd (pi_list (pv 4)) (blkOk_by (N := nPair) (sc := defScope sPair) (by decide +kernel)) (fun _ _ _ _ _ => pg_name (i := 7) scPair.nd rfl (Or.inl rfl)) (fun _ _ _ _ _ => pts_nil) (fun _ _ _ _ _ => (pe_has GOf hr (pa_cons (pv 0) (pa_cons (pe_lst (pa_cons (pe_ix (r := rIxT K) ix_tup (pv 7) pe_int (fun _ _ => rfl)) (pa_cons (pe_ix (r := rIxT K) ix_tup (pv 7) pe_int (fun _ _ => rfl)) (pa_cons (pe_ix (r := rIxT K) ix_tup (pv 7) pe_int (fun _ _ => rfl)) (pa_cons (pe_ix (r := rIxT K) ix_tup (pv 7) pe_int (fun _ _ => rfl)) pa_nil))))) pa_nil))))) rfl)
      (pss_one (ps_ret (pv 2))))))), ?_⟩
    obtain ⟨p1, p2, p3, n0, n1, n2, n3, f0, f1, f2, f3⟩ := id pa.ex
    have one := th.one
    have four := th.four
    have ly := th.ly
    have lb := th.lb
    dsimp only [tSeq, tAsg, gName]
    refine ⟨_, rfl, d, _, rfl, Rd.of f0, fun c nc => ?_⟩
    have s1 := same_upd (o := .dK [(.inr "names", .ref p1), (.inr "ways", .ref p2), (.inr "takes", .ref p3)]) nc
    have hc : (upd H c (.dK [(.inr "names", .ref p1), (.inr "ways", .ref p2), (.inr "takes", .ref p3)])) c = some (.dK [(.inr "names", .ref p1), (.inr "ways", .ref p2), (.inr "takes", .ref p3)]) := upd_same
    have ncj := hj.ne nc
    generalize (upd H c (.dK [(.inr "names", .ref p1), (.inr "ways", .ref p2), (.inr "takes", .ref p3)])) = H1 at s1 hc
    dsimp only [tSeq, tAsg, tLc, iList, List.map]
    refine ⟨_, rfl, d, _, rfl, gD (k := .inr "ways") (s1 _ _ f0) rfl, p2, rfl, ⟨_, SqL.of (s1 _ _ f2)⟩, fun D nD => ?_⟩
    refine lc_list (K := K) (xs := ys.map V.str) (fun i H' => Same H1 H' ∧ H' D = some (.lst (((ys.map twinW).take i).map V.str))) ⟨same_upd nD, upd_same⟩ (fun i H' _ z => SqL.of (z.1 _ _ (s1 _ _ f2))) ?_ ?_
    · rintro i x H2 hx ⟨s2, hD⟩
      rw [List.getElem?_map] at hx
      obtain ⟨y, hy, rfl⟩ := Option.map_eq_some_iff.mp hx
      have il := (List.getElem?_eq_some_iff.mp hy).1
      refine ⟨rfl, fun dp ndp => ?_⟩
      refine ⟨upd_same, [(.inr wOnce, .str wHanded), (.inr wHanded, .str wOnce)], rfl, (by show 2 ≤ 15; decide), ?_⟩
      rw [upd_upd]
      have s3 := same_upd (o := .dK (mergeK [] [(.inr wOnce, V.str wHanded), (.inr wHanded, V.str wOnce)])) ndp
      have h3 : (upd H2 dp (.dK (mergeK [] [(.inr wOnce, V.str wHanded), (.inr wHanded, V.str wOnce)]))) dp = some (.dK [(.inr wOnce, V.str wHanded), (.inr wHanded, V.str wOnce)]) := upd_same
      refine ⟨dp, rfl, .inl ⟨_, .inl h3⟩, _, rfl, _, rfl, _, DGet.k (k := .inr y) h3, ?_⟩
      rw [twin_get]
      have e1 : (ys.map twinW)[i]? = some (twinW y) := by rw [List.getElem?_map, hy]; rfl
      refine ⟨_, s3 _ _ hD, ?_, same_new (s2.trans s3) nD, ?_⟩
      · rw [List.length_map, List.length_take]
        exact small1000 (by omega)
      · rw [upd_same, take_one e1, List.map_append]
        rfl
    rintro H2 ⟨s2, hD⟩
    have el1 : (ys.map twinW).take (ys.map V.str).length = ys.map twinW := List.take_of_length_le (by rw [List.length_map, List.length_map]; exact Nat.le_refl _)
    rw [el1] at hD
    have s12 := s1.trans s2
    have hc2 := s2 _ _ hc
    have hj2 := hj.same s12
    have nDj := (hj.same s1).ne nD
    refine ⟨_, rfl, d, _, rfl, gD (k := .inr "ways") (s12 _ _ f0) rfl, _, rfl, p2, D, _, _, rfl, SqL.of (s12 _ _ f2), SqL.of hD, fun D2 nD2 => ?_⟩
    have f22 := s12 _ _ f2
    have nD2j := hj2.ne nD2
    have rowsOk : ∀ (ts : List (Str × Str × Str)), (∀ t ∈ ts, t.1 ∈ ways4 ∧ t.2.1 ∈ ways4 ∧ t.2.2 ∈ ways4) → True := fun _ _ => True.intro
    refine lc_it (walk_zip (K := K) (a := p2) (b := D) (xs := ys.map V.str) (ys := (ys.map twinW).map V.str) (n := ys.length) (by simp)) (fun i H' => Keep j H2 H' ∧ Jar H' j (n + i) ∧ i ≤ ys.length ∧ ∃ (rs : List Addr) (ts : List (Str × Str × Str)), H' D2 = some (.lst (rs.map V.ref)) ∧ rs.length = i ∧ Paired (fun (r : Addr) (t : Str × Str × Str) => H' r = some (.tup [.str t.1, .str t.2.1, .str t.2.2]) ∧ r ≠ j) rs ts ∧ ∀ t ∈ ts, t.1 ∈ ways4 ∧ t.2.1 ∈ ways4 ∧ t.2.2 ∈ ways4)
      ⟨Keep.new nD2, hj2.upd nD2j, Nat.zero_le _, [], [], upd_same, rfl, .nil, fun t ht => (List.not_mem_nil ht).elim⟩ (fun i H' _ z => ⟨SqL.of (z.1 _ _ n2 f22), SqL.of (z.1 _ _ nDj hD)⟩) ?_ ?_
    · rintro i v H3 H4 hi ⟨k3, hj3, il, rs, ts, hD3, lr, pr, tw⟩ ⟨T', x1, x2, rfl, nT, rfl, e1, e2⟩
      have e1' : (ys.map V.str)[i]? = some x1 := e1
      have e2' : ((ys.map twinW).map V.str)[i]? = some x2 := e2
      rw [List.getElem?_map] at e1' e2'
      rw [List.getElem?_map] at e2'
      obtain ⟨y, hy, rfl⟩ := Option.map_eq_some_iff.mp e1'
      rw [hy] at e2'
      cases e2'
      have ym := th.wy y (List.mem_of_getElem? hy)
      have kT : Keep j H3 (upd H3 T' (.tup [.str y, .str (twinW y)])) := Keep.new nT
      have hjT := hj3.upd (o := .tup [.str y, .str (twinW y)]) (hj3.ne nT)
      refine ⟨T', _, rfl, SqT.of upd_same, rfl, _, _, rfl, _, _, rfl, rfl, rfl, ?_⟩
      generalize (upd H3 T' (.tup [.str y, .str (twinW y)])) = H4 at kT hjT
      refine ⟨_, rfl, _, rfl, .ref j, rfl, (by show 4 ≤ sizeLine; decide), fun q nq => ?_⟩
      have nqj := hjT.ne nq
      refine ⟨j, n + i, .ref q, rfl, hjT.upd nqj, by omega, .inl ⟨q, _, rfl, nqj, SqL.of upd_same, by decide, by decide, fun x5 H5 hx5 hj5 kp5 => ?_⟩⟩
      obtain ⟨z, rfl, hz⟩ := way_of hx5
      have k45 : Keep j H4 H5 := (Keep.new nq).trans kp5
      refine ⟨(by show 3 ≤ sizeLine; decide), fun r nr => ?_⟩
      have nrj := hj5.ne nr
      have k56 : Keep j H5 (upd H5 r (.tup [.str y, .str (twinW y), .str z])) := Keep.new nr
      have hr6 : (upd H5 r (.tup [.str y, .str (twinW y), .str z])) r = some (.tup [.str y, .str (twinW y), .str z]) := upd_same
      have hj6 := hj5.upd (o := .tup [.str y, .str (twinW y), .str z]) nrj
      generalize (upd H5 r (.tup [.str y, .str (twinW y), .str z])) = H6 at k56 hr6 hj6
      have k36 := (kT.trans k45).trans k56
      have hD6 := k36 _ _ nD2j hD3
      have ntl : ∀ {a : Addr} {xs : List V}, H6 a = some (.tup xs) → a ≠ D2 := fun z e => by rw [e, hD6] at z; cases z
      refine ⟨_, hD6, by rw [List.length_map, lr]; exact small1000 (by omega), (k3.trans k36).upd_new nD2, (hj6.upd nD2j).mono (by omega), hi, rs ++ [r], ts ++ [(y, twinW y, z)], by rw [upd_same, List.map_append]; rfl, by rw [List.length_append, lr]; rfl, ?_, fun t ht => ?_⟩
      · refine paired_snoc (paired_mono (fun a t q => ?_) pr) ⟨by rw [upd_ne (ntl hr6)]; exact hr6, nrj⟩
        have q6 := k36 _ _ q.2 q.1
        exact ⟨by rw [upd_ne (ntl q6)]; exact q6, q.2⟩
      · rcases List.mem_append.mp ht with h | h
        · exact tw t h
        · rw [List.mem_singleton.mp h]
          exact ⟨ym, twin_way ym, hz⟩
    rintro H3 ⟨k3, hj3, _, rs, ts, hD3, lr, pr, tw⟩
    have ltr : rs.length = ts.length := Paired.length pr
    have k13 : Keep j H H3 := (K17.Same.keep s12).trans k3
    have hc3 := k3 _ _ ncj hc2
    unfold sDPut tLc iList
    dsimp only [List.map]
    refine ⟨_, rfl, D2, rfl, ⟨_, SqL.of hD3⟩, fun D3 nD3 => ?_⟩
    have nD3j := hj3.ne nD3
    have nD3c : c ≠ D3 := fun e => by rw [e, nD3] at hc3; cases hc3
    refine lc_list (K := K) (xs := rs.map V.ref) (fun i H' => Keep j H3 H' ∧ Jar H' j (n + ys.length + i) ∧ i ≤ ys.length ∧ ∃ zs : List Str, H' D3 = some (.lst (zs.map V.str)) ∧ zs.length = i ∧ ∀ z ∈ zs, z ∈ ways4)
      ⟨Keep.new nD3, hj3.upd nD3j, Nat.zero_le _, [], upd_same, rfl, fun z hz => (List.not_mem_nil hz).elim⟩ (fun i H' _ z => SqL.of (z.1 _ _ nD2j hD3)) ?_ ?_
    · rintro i x H4 hx ⟨k4, hj4, _, zs, hD4, lz, zw⟩
      rw [List.getElem?_map] at hx
      obtain ⟨r, hr0, rfl⟩ := Option.map_eq_some_iff.mp hx
      obtain ⟨t, ht, htr, nrj⟩ := paired_get pr hr0
      have il := (List.getElem?_eq_some_iff.mp hr0).1
      obtain ⟨t1, t2, t3⟩ := tw t (List.mem_of_getElem? ht)
      have htr4 := k4 _ _ nrj htr
      refine ⟨rfl, .ref j, rfl, ?_⟩
      refine ⟨_, rfl, r, _, 0, .str t.1, rfl, rfl, SqT.of htr4, atI_nat (j := 0) rfl, _, rfl, r, _, 0, .str t.1, rfl, rfl, SqT.of htr4, atI_nat (j := 0) rfl, _, rfl, r, _, 1, .str t.2.1, rfl, rfl, SqT.of htr4, atI_nat (j := 1) rfl, _, rfl, r, _, 2, .str t.2.2, rfl, rfl, SqT.of htr4, atI_nat (j := 2) rfl, (by show 4 ≤ sizeLine; decide), fun q nq => ?_⟩
      have nqj := hj4.ne nq
      refine ⟨j, n + ys.length + i, .ref q, rfl, hj4.upd nqj, by omega, .inl ⟨q, _, rfl, nqj, SqL.of upd_same, (by show 0 < 4; decide), (by show 4 ≤ _; decide), fun x5 H5 hx5 hj5 kp5 => ?_⟩⟩
      obtain ⟨z, rfl, hz⟩ : ∃ z : Str, x5 = .str z ∧ z ∈ ways4 := by
        have hx5' : x5 ∈ ([.str t.1, .str t.1, .str t.2.1, .str t.2.2] : List V) := hx5
        simp only [List.mem_cons, List.not_mem_nil, or_false] at hx5'
        rcases hx5' with e | e | e | e
        · exact ⟨_, e, t1⟩
        · exact ⟨_, e, t1⟩
        · exact ⟨_, e, t2⟩
        · exact ⟨_, e, t3⟩
      have k45 : Keep j H4 H5 := (Keep.new nq).trans kp5
      refine ⟨_, k45 _ _ nD3j hD4, by rw [List.length_map, lz]; exact small1000 (by omega), (k4.trans k45).upd_new nD3, (hj5.upd nD3j).mono (by omega), by omega, zs ++ [z], by rw [upd_same, List.map_append]; rfl, by rw [List.length_append, lz]; rfl, fun u hu => ?_⟩
      rcases List.mem_append.mp hu with h | h
      · exact zw u h
      · rw [List.mem_singleton.mp h]
        exact hz
    rintro H4 ⟨k4, hj4, _, zs, hD4, lz, zw⟩
    rw [List.length_map, lr] at lz hj4
    have hc4 := k4 _ _ ncj hc3
    refine ⟨_, rfl, c, _, rfl, DPut.k (k := .inr "ways") hc4 (by show 3 < sizeLine; decide), ?_⟩
    rw [show putK ([(.inr "names", .ref p1), (.inr "ways", .ref p2), (.inr "takes", .ref p3)] : List (Key × V)) (.inr "ways") (.ref D3) = [(.inr "names", .ref p1), (.inr "ways", .ref D3), (.inr "takes", .ref p3)] from rfl]
    have k14 : Keep j H H4 := k13.trans k4
    have g1 := k14 _ _ n1 f1
    have g3 := k14 _ _ n3 f3
    have nl : ∀ {a : Addr} {xs : List V}, H4 a = some (.lst xs) → a ≠ c := fun z e => by rw [e, hc4] at z; cases z
    refine ⟨_, rfl, k _ c zs ((hj4.upd ncj).mono (by omega)) (k14.upd_new nc) ⟨p1, D3, p3, ncj, n1, nD3j, n3, upd_same, (upd_ne (nl g1)).trans g1, (upd_ne (nl hD4)).trans hD4, (upd_ne (nl g3)).trans g3⟩ ⟨one, four, by omega, lb, th.nd, th.nm, zw⟩⟩
end
end K17

/-! for x in zip(a, b), x one name: the pair is held, or gone -/
namespace ZNm
open PySem
abbrev IsZg (h : Heap) (z TI TO : Addr) (v : Value) (f : Bool) : Prop :=
  h.get? z = some { cls := .type "zip", dict := none, data := .fields #[v, .bool f, .bool false, .ref TI, .ref TO], slots := #[] }
section
variable {prog : Program} {w : World} {A : Around} {E : Value → Shared → Prop} {s : Shared}
theorem dead {a : Addr} {Q : Option Obj → Shared → Prop} (ho : s.heap.get? a = none) (h : Q none s) : wpAny (model prog w) A (loadIfAlive a) Q E s := by
  have h' : Q (s.heap.get? a) s := by rw [ho]; exact h
  exact fun _ _ _ => h'
/-- its own pair is free -/
theorem free_item {z TI TO i1 i2 l1 l2 : Addr} {v : Value} {f : Bool} {k : Nat} {xs ys : Array Value} {x y a b : Value} {Q : Value → Shared → Prop} (D : ZipApart z TI TO i1 i2 l1 l2)
    (hz : IsZg s.heap z TI TO v f) (hfree : ∀ (A' : Around) (E' : Value → Shared → Prop) (Q' : Bool → Shared → Prop), Q' true s → wpAny (model prog w) A' (Builtin.SmallTypes.ownedTupleIsFree (.ref z)) Q' E' s) (hTI : IsPair s.heap TI (.ref i1) (.ref i2)) (hTO : IsPair s.heap TO a b)
    (h1 : s.heap.IsListIter i1 l1 k) (h2 : s.heap.IsListIter i2 l2 k) (hl1 : s.heap.IsList l1 xs) (hl2 : s.heap.IsList l2 ys) (hx : xs[k]? = some x) (hy : ys[k]? = some y)
    (hQ : ∀ h', IsZg h' z TI TO (rawInt s.heap.objs.size) false → IsPair h' TO x y → h'.IsListIter i1 l1 (k + 1) → h'.IsListIter i2 l2 (k + 1) → IsPair h' s.heap.objs.size x y → h'.objs.size = s.heap.objs.size + 1 →
      (∀ c o, c ≠ z → c ≠ TO → c ≠ i1 → c ≠ i2 → s.heap.get? c = some o → h'.get? c = some o) → Q (.ref s.heap.objs.size) { s with heap := h' }) :
    wpAny (model prog w) A (Builtin.«zip.__next__» ⟨[.ref z], []⟩) (fun fin s' => ∃ v, fin = .done (.ret v) ∧ Q v s') E s := by
  show wpAny _ _ (field (.ref z) 2 >>= _) _ _ _
  refine wpAny_bind (wpAny_field hz rfl (x := .bool false) rfl ?_)
  show wpAny _ _ (field (.ref z) 3 >>= _) _ _ _
  refine wpAny_bind (wpAny_field hz rfl (x := .ref TI) rfl ?_)
  refine wpAny_bind (wpAny_seqItems hTI rfl ?_)
  show wpAny _ _ (Builtin.SmallTypes.ownedTupleIsFree (.ref z) >>= _) _ _ _
  refine wpAny_bind (hfree _ _ _ ?_)
  simp only [if_true]
  refine wpAny_bind (wpAny_rule ?_)
  refine wpAny_bind (wpAny_field hz rfl (x := .ref TO) rfl ?_)
  refine wpAny_bind (wpAny_setField_rec hz (by simp) fun h₁ hz₁ hs₁ => ?_)
  replace hz₁ : IsZg h₁ z TI TO .ellipsis f := hz₁
  refine wpAny_bind ?_
  simp only [List.zipIdx_cons, List.zipIdx_nil, List.forIn_cons, List.forIn_nil]
  refine wpAny_bind (wpAny_bind (wpAny_onRaise ?_))
  show wpAny _ _ (Builtin.SmallTypes.nextOf (.ref i1) >>= _) _ _ _
  refine wpAny_bind (wpAny_nextOf_list_item (h1.extBut hs₁.extBut D.i1z) (hl1.extBut hs₁.extBut D.l1z) hx fun h₂ h1₂ hs₂ => wpAny_pure ?_)
  have hTO₂ : IsPair h₂ TO a b := hs₂.extBut _ _ D.TOi1 (hs₁.extBut _ _ D.TOz hTO)
  refine wpAny_bind (wpAny_seqItems hTO₂ rfl ?_)
  refine wpAny_bind (wpAny_updateSeq_pair hTO₂ fun h₃ hTO₃ hs₃ => ?_)
  replace hTO₃ : IsPair h₃ TO x b := hTO₃
  refine wpAny_bind (wpAny_letGo (wpAny_pure ?_))
  refine wpAny_bind (wpAny_bind (wpAny_onRaise ?_))
  show wpAny _ _ (Builtin.SmallTypes.nextOf (.ref i2) >>= _) _ _ _
  refine wpAny_bind (wpAny_nextOf_list_item (((h2.extBut hs₁.extBut D.i2z).extBut hs₂.extBut D.i12.symm).extBut hs₃.extBut D.TOi2.symm)
    (((hl2.extBut hs₁.extBut D.l2z).extBut hs₂.extBut D.l2i1).extBut hs₃.extBut D.l2TO) hy fun h₄ h2₄ hs₄ => wpAny_pure ?_)
  have hTO₄ : IsPair h₄ TO x b := hs₄.extBut _ _ D.TOi2 hTO₃
  refine wpAny_bind (wpAny_seqItems hTO₄ rfl ?_)
  refine wpAny_bind (wpAny_updateSeq_pair hTO₄ fun h₅ hTO₅ hs₅ => ?_)
  replace hTO₅ : IsPair h₅ TO x y := hTO₅
  refine wpAny_bind (wpAny_letGo (wpAny_pure (wpAny_pure ?_)))
  refine wpAny_bind (wpAny_seqItems hTO₅ rfl ?_)
  refine wpAny_bind (wpAny_newTuple ?_)
  have hsz : h₅.objs.size = s.heap.objs.size := by rw [hs₅.1, hs₄.1, hs₃.1, hs₂.1, hs₁.1]
  have hz₅ : IsZg h₅ z TI TO .ellipsis f := hs₅.extBut _ _ D.TOz.symm (hs₄.extBut _ _ D.i2z.symm (hs₃.extBut _ _ D.TOz.symm (hs₂.extBut _ _ D.i1z.symm hz₁)))
  have hk₅ : ∀ c o, c ≠ z → c ≠ TO → c ≠ i1 → c ≠ i2 → s.heap.get? c = some o → h₅.get? c = some o := fun c o c1 c2 c3 c4 e =>
    hs₅.extBut _ _ c2 (hs₄.extBut _ _ c4 (hs₃.extBut _ _ c2 (hs₂.extBut _ _ c3 (hs₁.extBut _ _ c1 e))))
  have h1₅ : h₅.IsListIter i1 l1 (k + 1) := ((h1₂.extBut hs₃.extBut D.TOi1.symm).extBut hs₄.extBut D.i12).extBut hs₅.extBut D.TOi1.symm
  have h2₅ : h₅.IsListIter i2 l2 (k + 1) := h2₄.extBut hs₅.extBut D.TOi2.symm
  have hzlt : z < h₅.objs.size := Heap.lt_size hz₅
  show wpAny _ _ (Builtin.SmallTypes.ownedTupleHandOut (.ref z) (.ref h₅.objs.size) >>= _) _ _ _
  refine wpAny_bind ?_
  unfold Builtin.SmallTypes.ownedTupleHandOut
  have hz₆ : IsZg (h₅.push { cls := .type "tuple", data := .seq #[x, y] }) z TI TO .ellipsis f := Heap.get?_push_of_some _ hz₅
  refine wpAny_bind (wpAny_setField_rec hz₆ (by simp) fun h₇ hz₇ hs₇ => ?_)
  replace hz₇ : IsZg h₇ z TI TO (rawInt h₅.objs.size) f := hz₇
  refine wpAny_setField_rec hz₇ (by simp) fun h₈ hz₈ hs₈ => ?_
  replace hz₈ : IsZg h₈ z TI TO (rawInt h₅.objs.size) false := hz₈
  have up : ∀ c o, c ≠ z → h₅.get? c = some o → h₈.get? c = some o := fun c o c1 e => hs₈.extBut _ _ c1 (hs₇.extBut _ _ c1 (Heap.get?_push_of_some _ e))
  have hT₈ : IsPair h₈ h₅.objs.size x y := hs₈.extBut _ _ (Nat.ne_of_gt hzlt) (hs₇.extBut _ _ (Nat.ne_of_gt hzlt) (Heap.get?_push_size _ rfl))
  have hz8 : h₈.objs.size = h₅.objs.size + 1 := by rw [hs₈.1, hs₇.1, Heap.size_push]
  rw [hsz] at hz₈ hT₈ hz8
  refine wpAny_pure ⟨_, rfl, ?_⟩
  show Q (.ref h₅.objs.size) _
  rw [hsz]
  exact hQ h₈ hz₈ (up _ _ D.TOz hTO₅) (h1₅.at fun o e => up _ o D.i1z e) (h2₅.at fun o e => up _ o D.i2z e) hT₈ hz8 fun c o c1 c2 c3 c4 e => up c o c1 (hk₅ c o c1 c2 c3 c4 e)
/-- a zip of two lists, k pairs gone through -/
structure ZG (h : Heap) (z TI TO i1 i2 l1 l2 : Addr) (k : Nat) : Prop where
  zz : ∃ (v : Value) (f : Bool), IsZg h z TI TO v f ∧ (v = .none ∨ ∃ T : Addr, v = rawInt T ∧ T ≠ z)
  TI : IsPair h TI (.ref i1) (.ref i2)
  TO : ∃ a b, IsPair h TO a b
  i1 : h.IsListIter i1 l1 k
  i2 : h.IsListIter i2 l2 k

theorem zn_next {z TI TO i1 i2 l1 l2 : Addr} {k : Nat} {xs ys : Array Value} {x y : Value} {Q : Option Value → Shared → Prop} (D : ZipApart z TI TO i1 i2 l1 l2) (Z : ZG s.heap z TI TO i1 i2 l1 l2 k) (hl1 : s.heap.IsList l1 xs) (hl2 : s.heap.IsList l2 ys) (hx : xs[k]? = some x) (hy : ys[k]? = some y)
    (hQ : ∀ h', ZG h' z TI TO i1 i2 l1 l2 (k + 1) → IsPair h' s.heap.objs.size x y → h'.objs.size = s.heap.objs.size + 1 → (∀ c o, c ≠ z → c ≠ TO → c ≠ i1 → c ≠ i2 → s.heap.get? c = some o → h'.get? c = some o) → Q (some (.ref s.heap.objs.size)) { s with heap := h' }) :
    wpAny (model prog w) A (pyNext (.ref z)) Q E s := by
  obtain ⟨v, f, hz, hv⟩ := Z.zz
  obtain ⟨a, b, hTO⟩ := Z.TO
  have hTy : s.TypeIs (.ref z) "zip" := ⟨_, hz, rfl⟩
  have zl : z < s.heap.objs.size := Heap.lt_size hz
  have free : (∀ (A' : Around) (E' : Value → Shared → Prop) (Q' : Bool → Shared → Prop), Q' true s → wpAny (model prog w) A' (Builtin.SmallTypes.ownedTupleIsFree (.ref z)) Q' E' s) → wpAny (model prog w) A (pyNext (.ref z)) Q E s := fun hfree => by
    unfold pyNext
    exact wpAny_bind (wpAny_attempt (wpAny_callSpecial?_slot (name := Str.ofString "__next__") hTy F.slot_zip_next
      (wpAny_call_entry F.slot_zip_next hTy F.entry_zip_next (free_item D hz hfree Z.TI hTO Z.i1 Z.i2 hl1 hl2 hx hy fun h' a1 a2 a3 a4 a5 a6 a7 => wpAny_pure (hQ h' ⟨⟨_, _, a1, .inr ⟨_, rfl, Nat.ne_of_gt zl⟩⟩, a7 _ _ D.TIz D.TITO D.TIi1 D.TIi2 Z.TI, ⟨_, _, a2⟩, a3, a4⟩ a5 a6 a7)) (F.args_zip_next_1 _))))
  rcases hv with rfl | ⟨T, rfl, nT⟩
  · refine free fun A' E' Q' q => ?_
    unfold Builtin.SmallTypes.ownedTupleIsFree
    exact wpAny_bind (wpAny_field hz rfl (x := .none) rfl (wpAny_pure q))
  · cases hT : s.heap.get? T with
    | none =>
      refine free fun A' E' Q' q => ?_
      unfold Builtin.SmallTypes.ownedTupleIsFree
      refine wpAny_bind (wpAny_field hz rfl (x := rawInt T) rfl ?_)
      show wpAny _ _ (loadIfAlive ((T : Int).toNat) >>= _) _ _ _
      rw [Int.toNat_natCast]
      refine wpAny_bind (dead hT ?_)
      exact wpAny_pure q
    | some oT =>
      exact wpAny_pyNext_zip_item_held D hz hT Z.TI Z.i1 Z.i2 hl1 hl2 hx hy fun h' a1 a3 a4 a5 a6 a7 => hQ h' ⟨⟨_, _, a1, .inr ⟨T, rfl, nT⟩⟩, a7 _ _ D.TIz D.TIi1 D.TIi2 Z.TI, ⟨a, b, a7 _ _ D.TOz D.TOi1 D.TOi2 hTO⟩, a3, a4⟩ a5 a6 fun c o c1 _ c3 c4 q => a7 c o c1 c3 c4 q
theorem zn_end {z TI TO i1 i2 l1 l2 : Addr} {k : Nat} {xs ys : Array Value} {Q : Option Value → Shared → Prop} (hh : A.handled = none) (D : ZipApart z TI TO i1 i2 l1 l2) (Z : ZG s.heap z TI TO i1 i2 l1 l2 k) (hl1 : s.heap.IsList l1 xs) (hl2 : s.heap.IsList l2 ys) (hx : xs[k]? = none)
    (hQ : ∀ h', (∀ c o, c ≠ z → c ≠ TO → c ≠ i1 → c ≠ i2 → s.heap.get? c = some o → h'.get? c = some o) → Q none { s with heap := h' }) :
    wpAny (model prog w) A (pyNext (.ref z)) Q E s := by
  obtain ⟨v, f, hz, hv⟩ := Z.zz
  obtain ⟨a, b, hTO⟩ := Z.TO
  have hTI := Z.TI
  have h1 := Z.i1
  have hTy : s.TypeIs (.ref z) "zip" := ⟨_, hz, rfl⟩
  have free : (∀ (A' : Around) (E' : Value → Shared → Prop) (Q' : Bool → Shared → Prop), Q' true s → wpAny (model prog w) A' (Builtin.SmallTypes.ownedTupleIsFree (.ref z)) Q' E' s) → wpAny (model prog w) A (pyNext (.ref z)) Q E s := fun hfree => by
    have body : ∀ {B : Around} {Q' : Fin → Shared → Prop} {E' : Value → Shared → Prop}, B.handled = none → (∀ h' x, (∀ c o, c ≠ z → c ≠ TO → c ≠ i1 → c ≠ i2 → s.heap.get? c = some o → h'.get? c = some o) → (∃ o, h'.get? x = some o ∧ o.cls = .type "StopIteration") → E' (.ref x) { s with heap := h' }) →
        wpAny (model prog w) B (Builtin.«zip.__next__» ⟨[.ref z], []⟩) Q' E' s := fun {B Q' E'} hB hE => by
      show wpAny _ _ (field (.ref z) 2 >>= _) _ _ _
      refine wpAny_bind (wpAny_field hz rfl (x := .bool false) rfl ?_)
      show wpAny _ _ (field (.ref z) 3 >>= _) _ _ _
      refine wpAny_bind (wpAny_field hz rfl (x := .ref TI) rfl ?_)
      refine wpAny_bind (wpAny_seqItems hTI rfl ?_)
      show wpAny _ _ (Builtin.SmallTypes.ownedTupleIsFree (.ref z) >>= _) _ _ _
      refine wpAny_bind (hfree _ _ _ ?_)
      simp only [if_true]
      refine wpAny_bind (wpAny_rule ?_)
      refine wpAny_bind (wpAny_field hz rfl (x := .ref TO) rfl ?_)
      refine wpAny_bind (wpAny_setField_rec hz (by simp) fun h₁ hz₁ hs₁ => ?_)
      replace hz₁ : IsZg h₁ z TI TO .ellipsis f := hz₁
      refine wpAny_bind ?_
      simp only [List.zipIdx_cons, List.zipIdx_nil, List.forIn_cons, List.forIn_nil]
      refine wpAny_bind (wpAny_bind (wpAny_onRaise ?_))
      show wpAny _ _ (Builtin.SmallTypes.nextOf (.ref i1) >>= _) _ _ _
      refine wpAny_bind (wpAny_nextOf_list_end (by exact hB) (h1.extBut hs₁.extBut D.i1z) (hl1.extBut hs₁.extBut D.l1z) hx fun h₂ e hs₂ he => ?_)
      obtain ⟨oe, hoe, hce⟩ := he
      have hz₂ : IsZg h₂ z TI TO .ellipsis f := hs₂ _ _ D.i1z.symm hz₁
      have hez : e ≠ z := fun x => by subst x; rw [hz₂] at hoe; cases hoe; simp at hce
      exact wpAny_setField_rec hz₂ (by simp) fun h₃ _ hs₃ => hE h₃ e (fun c o c1 _ c3 _ x => hs₃.extBut _ _ c1 (hs₂ _ _ c3 (hs₁.extBut _ _ c1 x))) ⟨oe, hs₃.extBut _ _ hez hoe, hce⟩
    unfold pyNext
    refine wpAny_bind (wpAny_attempt (wpAny_callSpecial?_slot (name := Str.ofString "__next__") hTy F.slot_zip_next
      (wpAny_call_entry F.slot_zip_next hTy F.entry_zip_next (body (by exact hh) fun h' e hk he => ?_) (F.args_zip_next_1 _))))
    obtain ⟨o, ho, hc⟩ := he
    refine wpAny_bind (wpAny_isInstance (T := "StopIteration") (b := true) ⟨o, ho, hc⟩ isSubtype_stop ?_)
    exact wpAny_pure (hQ _ hk)
  rcases hv with rfl | ⟨T, rfl, nT⟩
  · refine free fun A' E' Q' q => ?_
    unfold Builtin.SmallTypes.ownedTupleIsFree
    exact wpAny_bind (wpAny_field hz rfl (x := .none) rfl (wpAny_pure q))
  · cases hT : s.heap.get? T with
    | none =>
      refine free fun A' E' Q' q => ?_
      unfold Builtin.SmallTypes.ownedTupleIsFree
      refine wpAny_bind (wpAny_field hz rfl (x := rawInt T) rfl ?_)
      show wpAny _ _ (loadIfAlive ((T : Int).toNat) >>= _) _ _ _
      rw [Int.toNat_natCast]
      refine wpAny_bind (dead hT ?_)
      exact wpAny_pure q
    | some oT =>
      exact wpAny_pyNext_zip_end_held hh D hz hT Z.TI Z.i1 Z.i2 hl1 hl2 (.inl hx) fun h' k => hQ h' fun c o c1 _ c3 c4 q => k c o c1 c3 c4 q
theorem ZG.keep {h h' : Heap} {z TI TO i1 i2 l1 l2 : Addr} {k : Nat} (Z : ZG h z TI TO i1 i2 l1 l2 k) (e : ∀ b o, (b = z ∨ b = TI ∨ b = TO ∨ b = i1 ∨ b = i2) → h.get? b = some o → h'.get? b = some o) : ZG h' z TI TO i1 i2 l1 l2 k := by
  obtain ⟨v, f, hz, hv⟩ := Z.zz
  obtain ⟨a, b, hTO⟩ := Z.TO
  exact ⟨⟨v, f, e _ _ (.inl rfl) hz, hv⟩, e _ _ (.inr (.inl rfl)) Z.TI, ⟨a, b, e _ _ (.inr (.inr (.inl rfl))) hTO⟩, Z.i1.at fun o q => e _ o (.inr (.inr (.inr (.inl rfl)))) q, Z.i2.at fun o q => e _ o (.inr (.inr (.inr (.inr rfl)))) q⟩
end
end ZNm
namespace L2
open PySem PySem.Spec PyProof.Rows
/-- the lists at a and b as they stand at each turn; the first one tells the end -/
def ItzN (K : PySem.W.Frag) (a b : Addr) : It :=
  ⟨fun i H => ∃ (xs ys : List V) (x y : V), SqL K H a xs ∧ SqL K H b ys ∧ xs[i]? = some x ∧ ys[i]? = some y,
    fun i H v H' => ∃ T x y, v = .ref T ∧ H T = none ∧ H' = upd H T (.tup [x, y]) ∧ (∀ xs, SqL K H a xs → xs[i]? = some x) ∧ ∀ ys, SqL K H b ys → ys[i]? = some y,
    fun i H => ∃ xs ys : List V, SqL K H a xs ∧ SqL K H b ys ∧ xs.length ≤ i⟩
theorem turn_zipNm {P : Program} {w : World} {K : PySem.W.Frag} {x : Str} {tpos : Pos} {a b z TI TO i1 i2 : Addr} (D : ZipApart z TI TO i1 i2 a b) :
    Turn P w K (.Name x tpos) (ItzN K a b) [z, TI, TO, i1, i2] z (fun i h => ZNm.ZG h z TI TO i1 i2 a b i) where
  mem := by simp
  obj := fun i h Z c hc => by
    obtain ⟨v, f, hz, _⟩ := Z.zz
    obtain ⟨x, y, hTO⟩ := Z.TO
    obtain ⟨o1, e1, _, d1⟩ := Z.i1
    obtain ⟨o2, e2, _, d2⟩ := Z.i2
    have e' : c = z ∨ c = TI ∨ c = TO ∨ c = i1 ∨ c = i2 := by simpa using hc
    rcases e' with q | q | q | q | q
    · rw [q]; exact ⟨_, hz, fun v q => nomatch q⟩
    · rw [q]; exact ⟨_, Z.TI, fun v q => nomatch q⟩
    · rw [q]; exact ⟨_, hTO, fun v q => nomatch q⟩
    · rw [q]; exact ⟨o1, e1, fun v q => by rw [d1] at q; cases q⟩
    · rw [q]; exact ⟨o2, e2, fun v q => by rw [d2] at q; cases q⟩
  keep := fun i h h' Z k => Z.keep fun b o hb q => k b (by rcases hb with r | r | r | r | r <;> simp [r]) o q
  item := by
    intro X hP hw hK hc i pins s σ H E I hf Z hg
    subst hP hw hK
    obtain ⟨xs, ys, x0, y0, hqx, hqy, hx, hy⟩ := hg
    obtain ⟨its, rv, p, _⟩ := I.list hqx
    obtain ⟨its2, rv2, p2, _⟩ := I.list hqy
    obtain ⟨u, hu, ru⟩ := rv.get hx
    obtain ⟨u2, hu2, ru2⟩ := rv2.get hy
    refine ZNm.zn_next D Z p.isList p2.isList (x := u) (y := u2) (by simpa using hu) (by simpa using hu2) fun h' Z' hT hsz hk => ?_
    refine ⟨_, rfl, ?_⟩
    have new : ObjOk X.prog X.w (upd H s.heap.objs.size (.tup [x0, y0])) h' s.heap.objs.size (.tup [x0, y0]) :=
      ⟨by show 2 ≤ sizeLine; decide, [u, u2], .cons ru (.cons ru2 .nil), ⟨_, hT, rfl, _, rfl⟩⟩
    have I1 : Inv X pins σ (upd H s.heap.objs.size (.tup [x0, y0])) { s with heap := h' } :=
      I.turnedNew (t' := s.toks) (ch := [z, TI, TO, i1, i2]) (fun c o hb q => hk c o (fun q' => hb (by simp [q'])) (fun q' => hb (by simp [q'])) (fun q' => hb (by simp [q'])) (fun q' => hb (by simp [q'])) q) hf (Nat.le_refl _) new
    unfold letOwnedTupleGo
    refine wpAny_pure ⟨.ref s.heap.objs.size, _, I1, rfl, ⟨_, x0, y0, rfl, I.hok.fresh (Nat.le_refl _), rfl, fun l hl => by rw [I.list_inj hl hqx]; exact hx, fun l hl => by rw [I.list_inj hl hqy]; exact hy⟩, Z', fun c hcm => ?_⟩
    have hlt : c < s.heap.objs.size := by
      obtain ⟨v, f, hz, _⟩ := Z.zz
      obtain ⟨x1, y1, hTO⟩ := Z.TO
      obtain ⟨o1, e1, _⟩ := Z.i1
      obtain ⟨o2, e2, _⟩ := Z.i2
      have e' : c = z ∨ c = TI ∨ c = TO ∨ c = i1 ∨ c = i2 := by simpa using hcm
      rcases e' with q | q | q | q | q
      · rw [q]; exact Heap.lt_size hz
      · rw [q]; exact Heap.lt_size Z.TI
      · rw [q]; exact Heap.lt_size hTO
      · rw [q]; exact Heap.lt_size e1
      · rw [q]; exact Heap.lt_size e2
    rw [upd_ne (Nat.ne_of_lt hlt)]
    exact (hf c hcm).1
  done := by
    intro X hP hw hK hc i pins s σ H E I hf Z hg
    subst hP hw hK
    obtain ⟨xs, ys, hqx, hqy, hend⟩ := hg
    obtain ⟨its, rv, p, _⟩ := I.list hqx
    obtain ⟨its2, rv2, p2, _⟩ := I.list hqy
    have l1 := rv.length
    exact ZNm.zn_end (I.ok.hd hc) D Z p.isList p2.isList (by simp; omega) fun h' hk => ⟨rfl, I.turnedL (t' := s.toks) (ch := [z, TI, TO, i1, i2]) (fun c o hb q =>
      hk c o (fun q' => hb (by simp [q'])) (fun q' => hb (by simp [q'])) (fun q' => hb (by simp [q'])) (fun q' => hb (by simp [q'])) q) hf⟩
  self := fun A i s Q E Z h => by
    obtain ⟨v, f, hz, _⟩ := Z.zz
    have hT : s.TypeIs (.ref z) "zip" := ⟨_, hz, rfl⟩
    refine wpAny_pyIter_slot hT F.slot_zip_iter (wpAny_call_entry F.slot_zip_iter hT F.entry_zip_iter ?_ (F.args_zip_iter_1 _))
    show wpAny _ _ (ret (.ref z)) _ _ s
    exact wpAny_pure ⟨_, rfl, "zip", _, hT, F.slot_zip_next.lookup, h⟩
def iZipN (K : PySem.W.Frag) (ta : TA) : TI := fun σ H R => ta σ H fun vs H1 => ∃ a b xs ys, vs = [.ref a, .ref b] ∧ SqL K H1 a xs ∧ SqL K H1 b ys ∧ R (ItzN K a b) H1
/-- for x in zip(a, b) -/
theorem pi_zipNm {X : Cx} {e e2 : Expr} {ta : TA} {p pos tpos : Pos} {x : Str} (hg : Gl X "zip") (hm : X.mg "zip" = none) (ha : PA X [e, e2] ta)
    (hs : starEach [e, e2] X.env = (false, eval e X.env) :: starEach [e2] X.env := by rfl) (hpl : (backTo pos (starEach [e2] X.env)).any (·.1) = false := by rfl) :
    PI X (.Name x tpos) (.Call (.Name "zip" p) [e, e2] [] pos) (iZipN X.K ta) := by
  refine ⟨fun pins s σ H R I h => ?_⟩
  refine Call_ (ld_blt I hg hm PyProof.Rows.boot_zip (PyProof.Rows.callWith_type1 (thn (ha.run pos pins s σ H _ I h) fun us s1 ⟨vs, H1, I1, r1, q1⟩ => ?_) hs hpl))
  obtain ⟨a, b, xs, ys, ex, hqx, hqy, q⟩ := q1
  subst ex
  cases r1 with
  | cons r rr =>
    cases rr with
    | cons r' rr =>
      cases rr
      cases r
      cases r'
      obtain ⟨its, rv, p1, _⟩ := I1.list hqx
      obtain ⟨its2, rv2, p2, _⟩ := I1.list hqy
      have la : a < s1.heap.objs.size := p1.lt
      have lb : b < s1.heap.objs.size := p2.lt
      refine call_zip_2 p1.isList p2.isList fun h' hz hTI hTO h1 h2 hsz hk => wpAny_pyIter_zip hz ?_
      have I2 : Inv X pins σ H1 { s1 with heap := h' } := I1.kept (t' := s1.toks) hk
      refine ⟨s1.heap.objs.size + 4, [s1.heap.objs.size + 4, s1.heap.objs.size + 2, s1.heap.objs.size + 3, s1.heap.objs.size, s1.heap.objs.size + 1], _, _, H1, rfl, I2, turn_zipNm (PySem.W.ktu_apart s1.heap.objs.size a b la lb), ⟨⟨_, _, hz, .inl rfl⟩, hTI, ⟨_, _, hTO⟩, h1, h2⟩, fun c hcm => ?_, q⟩
      have e' : c = s1.heap.objs.size + 4 ∨ c = s1.heap.objs.size + 2 ∨ c = s1.heap.objs.size + 3 ∨ c = s1.heap.objs.size ∨ c = s1.heap.objs.size + 1 := by simpa using hcm
      have hle : s1.heap.objs.size ≤ c := by
        rcases e' with z | z | z | z | z
        · rw [z]; exact Nat.le_add_right _ _
        · rw [z]; exact Nat.le_add_right _ _
        · rw [z]; exact Nat.le_add_right _ _
        · rw [z]; exact Nat.le_refl _
        · rw [z]; exact Nat.le_add_right _ _
      exact I1.fpOk hle (I1.hok.fresh hle)
theorem walk_zipNm {K : PySem.W.Frag} {a b : Addr} {xs ys : List V} {n : Nat} (h1 : xs.length = n) (h2 : ys.length = n) : Walk (ItzN K a b) n (fun H => SqL K H a xs ∧ SqL K H b ys) (YPair (fun i => xs[i]?) (fun i => ys[i]?)) where
  goes := fun i _ hi q => ⟨xs, ys, xs[i]'(by omega), ys[i]'(by omega), q.1, q.2, List.getElem?_eq_getElem (by omega), List.getElem?_eq_getElem (by omega)⟩
  stops := fun _ q => ⟨xs, ys, q.1, q.2, by omega⟩
  yields := fun i H v H' _ q y => by
    obtain ⟨T, x, z, h1, h2, h3, h4, h5⟩ := y
    exact ⟨T, x, z, h1, h2, h3, h4 xs q.1, h5 ys q.2⟩
end L2

namespace K17
open L2 PySem PySem.Spec PyProof.Rows RZ
abbrev sLeast : Stmt := top 57
def lvV : Option Nat → V
  | none => .non
  | some n => .int (n : Int)
def kAny (x : Str) (ya yb : Ys) : Bool := (ya.zip yb).any fun q => !decide (V.bl (decide (V.str q.1 = V.str x)) = V.bl (decide (V.str q.2 = V.str x)))
theorem way_get {ys : Ys} {p : Nat} {y : Str} (h : ys[p]? = some y) : wayOf ys p = y := by
  unfold wayOf
  rw [List.getD_eq_getElem?_getD, h]
  rfl
theorem kAny_iff {x : Str} {ya yb : Ys} (hl : yb.length = ya.length) : kAny x ya yb = true ↔ ∃ p, p < ya.length ∧ ¬ (wayOf ya p = x ↔ wayOf yb p = x) := by
  unfold kAny
  rw [List.any_eq_true]
  have one : ∀ a b : Str, (!decide (V.bl (decide (V.str a = V.str x)) = V.bl (decide (V.str b = V.str x)))) = true ↔ ¬ (a = x ↔ b = x) := fun a b => by
    have e1 : decide (V.str a = V.str x) = decide (a = x) := by rw [Bool.eq_iff_iff, decide_eq_true_eq, decide_eq_true_eq]; exact ⟨fun h => V.str.inj h, fun h => by rw [h]⟩
    have e2 : decide (V.str b = V.str x) = decide (b = x) := by rw [Bool.eq_iff_iff, decide_eq_true_eq, decide_eq_true_eq]; exact ⟨fun h => V.str.inj h, fun h => by rw [h]⟩
    rw [e1, e2, Bool.not_eq_true', decide_eq_false_iff_not]
    refine not_congr ⟨fun h => ?_, fun h => ?_⟩
    · have := V.bl.inj h
      rw [Bool.eq_iff_iff, decide_eq_true_eq, decide_eq_true_eq] at this
      exact this
    · have : decide (a = x) = decide (b = x) := by rw [Bool.eq_iff_iff, decide_eq_true_eq, decide_eq_true_eq]; exact h
      rw [this]
  constructor
  · rintro ⟨q, hq, h⟩
    obtain ⟨p, hp⟩ := List.mem_iff_getElem?.mp hq
    rw [List.getElem?_zip_eq_some] at hp
    refine ⟨p, (List.getElem?_eq_some_iff.mp hp.1).1, ?_⟩
    rw [way_get hp.1, way_get hp.2]
    exact (one _ _).mp h
  · rintro ⟨p, hp, h⟩
    refine ⟨(wayOf ya p, wayOf yb p), List.mem_iff_getElem?.mpr ⟨p, ?_⟩, (one _ _).mpr h⟩
    rw [List.getElem?_zip_eq_some]
    exact ⟨way_at hp, way_at (by rw [hl]; exact hp)⟩
def P3i (ya yb : Ys) (i : Nat) : Prop := ∃ p q, q < p ∧ p < i ∧ wayOf ya p ≠ wayOf yb p ∧ wayOf ya q = wKept
def P4i (ya yb : Ys) (i : Nat) : Prop := ∃ p q, q < p ∧ p < i ∧ wayOf ya p ≠ wayOf yb p ∧ wayOf ya q ≠ wFresh
/-- what is found of the first parts -/
structure Fnd (ya yb : Ys) (i : Nat) (L : List Int) : Prop where
  mem : ∀ x ∈ L, (x = 3 ∧ P3i ya yb i) ∨ (x = 4 ∧ P4i ya yb i)
  t3 : P3i ya yb i → (3 : Int) ∈ L
  t4 : P4i ya yb i → (4 : Int) ∈ L
  len : L.length ≤ 2 * i
theorem mem_take {ys : Ys} {i : Nat} (h : i ≤ ys.length) {y : Str} : y ∈ ys.take i ↔ ∃ q, q < i ∧ wayOf ys q = y := by
  rw [List.mem_iff_getElem?]
  constructor
  · rintro ⟨q, hq⟩
    rw [List.getElem?_take] at hq
    split at hq
    · rename_i c
      exact ⟨q, c, way_get hq⟩
    · cases hq
  · rintro ⟨q, hq, e⟩
    refine ⟨q, ?_⟩
    rw [List.getElem?_take, if_pos hq, way_at (by omega), e]
theorem Fnd.step {ya yb : Ys} {i : Nat} {L M : List Int} (h : Fnd ya yb i L) (h3 : (wayOf ya i ≠ wayOf yb i ∧ ∃ q, q < i ∧ wayOf ya q = wKept) → (3 : Int) ∈ M) (h4 : (wayOf ya i ≠ wayOf yb i ∧ ∃ q, q < i ∧ wayOf ya q ≠ wFresh) → (4 : Int) ∈ M)
    (hm : ∀ x ∈ M, (x = 3 ∧ wayOf ya i ≠ wayOf yb i ∧ ∃ q, q < i ∧ wayOf ya q = wKept) ∨ (x = 4 ∧ wayOf ya i ≠ wayOf yb i ∧ ∃ q, q < i ∧ wayOf ya q ≠ wFresh)) (hl : M.length ≤ 2) : Fnd ya yb (i + 1) (L ++ M) := by
  refine ⟨fun x hx => ?_, ?_, ?_, ?_⟩
  · rcases List.mem_append.mp hx with q | q
    · rcases h.mem x q with ⟨e, p, q, a, b, c⟩ | ⟨e, p, q, a, b, c⟩
      · exact .inl ⟨e, p, q, a, by omega, c⟩
      · exact .inr ⟨e, p, q, a, by omega, c⟩
    · rcases hm x q with ⟨e, n, q, a, b⟩ | ⟨e, n, q, a, b⟩
      · exact .inl ⟨e, i, q, a, by omega, n, b⟩
      · exact .inr ⟨e, i, q, a, by omega, n, b⟩
  · rintro ⟨p, q, a, b, n, c⟩
    by_cases e : p < i
    · exact List.mem_append_left _ (h.t3 ⟨p, q, a, e, n, c⟩)
    · obtain rfl : p = i := by omega
      exact List.mem_append_right _ (h3 ⟨n, q, a, c⟩)
  · rintro ⟨p, q, a, b, n, c⟩
    by_cases e : p < i
    · exact List.mem_append_left _ (h.t4 ⟨p, q, a, e, n, c⟩)
    · obtain rfl : p = i := by omega
      exact List.mem_append_right _ (h4 ⟨n, q, a, c⟩)
  · rw [List.length_append]
    have := h.len
    omega
theorem Fnd.nil {ya yb : Ys} : Fnd ya yb 0 [] := ⟨fun x hx => (List.not_mem_nil hx).elim, fun ⟨_, _, _, h, _⟩ => absurd h (Nat.not_lt_zero _), fun ⟨_, _, _, h, _⟩ => absurd h (Nat.not_lt_zero _), Nat.le_refl _⟩
section
variable {base : Heap} {P : Program} {w : World} {K : PySem.W.Frag} {mg : Str → Option Value}
def spLeast (K : PySem.W.Frag) : Sp := fun vs H Q _ => ∃ (a b : Addr) (ya yb : List Str), vs = [.ref a, .ref b] ∧ H a = some (.lst (ya.map V.str)) ∧ H b = some (.lst (yb.map V.str)) ∧ yb.length = ya.length ∧ ya.length ≤ 4 ∧
  ∀ H' l, Same H H' → Least ya yb l → Q (lvV l) H'
abbrev nLeast : List Str := ["_law_one", "_law_other", "_law_both", "_law_found", "_law_part", "_law_left", "_law_right_here", "_law_pair_here", "_law_way"]
theorem scLeast : FnScope nLeast ["_law_one", "_law_other"] (defScope sLeast) := ⟨rfl, rfl, rfl, by decide +kernel, rfl, by decide +kernel, by decide +kernel⟩
theorem any_pairs {v0 v1 v3 v4 v5 v6 v7 v8 : Option V} {H : Hp} {b : Addr} {x : Str} {rs : List Addr} {ya yb : Ys} {Q : VK} (hb : H b = some (.lst (rs.map V.ref))) (pr : Paired (fun (r : Addr) (q : Str × Str) => H r = some (.tup [.str q.1, .str q.2])) rs (ya.zip yb)) (h4 : rs.length ≤ 4)
    (k : ∀ H', Same H H' → Q (.bl (kAny x ya yb)) H') : tCB (rAny K) (tCons (tLc (iList K (tVar 2)) (gTup K 2 (gCons (gName 5) (gCons (gName 6) gNil))) tYes (tOp rNe (tOp rEq (tVar 5) (tC (.str x))) (tOp rEq (tVar 6) (tC (.str x)))) [5, 6]) tNil) [v0, v1, some (.ref b), v3, v4, v5, v6, v7, v8] H Q := by
  dsimp only [tCB, tCons, tLc, iList, tNil]
  refine ⟨_, rfl, b, rfl, ⟨_, SqL.of hb⟩, fun D nD => ?_⟩
  have lr : rs.length = (ya.zip yb).length := Paired.length pr
  refine lc_list (K := K) (a := b) (xs := rs.map V.ref) (fun i H' => Same H H' ∧ H' D = some (.lst (((ya.zip yb).take i).map fun q => V.bl (!decide (V.bl (decide (V.str q.1 = V.str x)) = V.bl (decide (V.str q.2 = V.str x))))))) ⟨same_upd nD, upd_same⟩ (fun i H' _ q => SqL.of (q.1 _ _ hb)) ?_ ?_
  · rintro i v H' hx ⟨s', hD⟩
    rw [List.getElem?_map] at hx
    obtain ⟨r, hr, rfl⟩ := Option.map_eq_some_iff.mp hx
    obtain ⟨q, hq, hrq⟩ := paired_get pr hr
    have il := (List.getElem?_eq_some_iff.mp hr).1
    refine ⟨r, _, rfl, SqT.of (s' _ _ hrq), rfl, _, _, rfl, _, _, rfl, rfl, rfl, ?_⟩
    refine ⟨_, rfl, rfl, _, rfl, rfl, rfl, _, hD, ?_, same_new s' nD, ?_⟩
    · rw [List.length_map, List.length_take]
      exact small1000 (by omega)
    · rw [upd_same, take_one hq, List.map_append]
      rfl
  · rintro H' ⟨s', hD⟩
    rw [List.length_map, lr, List.take_length] at hD
    have e : (ya.zip yb).map (fun q => V.bl (!decide (V.bl (decide (V.str q.1 = V.str x)) = V.bl (decide (V.str q.2 = V.str x))))) = ((ya.zip yb).map fun q => (!decide (V.bl (decide (V.str q.1 = V.str x)) = V.bl (decide (V.str q.2 = V.str x))))).map V.bl := by
      rw [List.map_map]
      rfl
    rw [e] at hD
    refine ⟨D, _, rfl, SqL.of hD, ?_⟩
    have e2 : ((ya.zip yb).map fun q => (!decide (V.bl (decide (V.str q.1 = V.str x)) = V.bl (decide (V.str q.2 = V.str x))))).any id = kAny x ya yb := by
      rw [List.any_map]
      rfl
    rw [e2]
    exact k H' s'
theorem tifS_any {tt : TT} {ta tb : TS} {D : Ends} {σ : L2.St} {H : Hp} (R : L2.St → Hp → Prop) (h : ∀ σ' H', R σ' H' → D.nx σ' H') (k : ∀ D' : Ends, (∀ σ' H', R σ' H' → D'.nx σ' H') → tIfS tt ta tb D' σ H) : tIfS tt ta tb D σ H := k D h
theorem cut_take (l : List V) (i : Nat) : cutV l none (some (i : Int)) = l.take i := by
  unfold cutV
  rw [HT.sIx_none, List.drop_zero, Nat.sub_zero]
  have e : HT.sIx l.length l.length (some (i : Int)) = min i l.length := by
    show (if (i : Int) < 0 then ((i : Int) + (l.length : Int)).toNat else min (i : Int).toNat l.length) = _
    rw [if_neg (by omega)]
    rfl
  rw [e]
  rcases Nat.le_total i l.length with h | h
  · rw [Nat.min_eq_left h]
  · rw [Nat.min_eq_right h, List.take_length, List.take_of_length_le h]
theorem ok_least {f : Addr} {fd : FuncData} (F : Fun K "_law_least" "_law_least" sLeast f fd) (T : TxtN K mg) : FnOk P w K mg base CX0 1 f fd ["_law_one", "_law_other"] (spLeast K) := by
  refine F.ok scLeast (fun vs H Q E h => ?_) (fun cdv A outer s H vs Q E hr h => ?_)
  · obtain ⟨a, b, ya, yb, rfl, _⟩ := h
    rfl
  · obtain ⟨a, b, ya, yb, rfl, ha, hb, hl, h4, k⟩ := h
    refine ⟨_, (pss_cons (ps_setLc (i := 2) (own := [("_law_pair_here", 7)]) (g := gName 7) (tt := tYes) rfl scLeast.nd rfl rfl rfl (pi_zipNm (by rfl) T.zip (pa_cons (pv 0) (pa_cons (pv 1) pa_nil))) (blkOk_by (N := nLeast) (sc := defScope sLeast) (by decide +kernel)) (fun _ _ _ _ _ => pg_name (i := 7) scLeast.nd rfl (Or.inl rfl)) (fun _ _ _ _ _ => pts_nil) (fun _ _ _ _ _ => (pv 7)))
      (pss_cons (ps_if (pt_val (pe_callB (cr_any rfl) (by rfl) T.any (by decide +kernel) (pa_cons (pe_lc (own := [("_law_left", 5), ("_law_right_here", 6)]) (g := gTup K 2 (gCons (gName 5) (gCons (gName 6) gNil))) (tt := tYes) rfl scLeast.nd (pi_list (pv 2)) (blkOk_by (N := nLeast) (sc := defScope sLeast) (by decide +kernel)) (fun _ _ _ _ _ => pg_tup rfl (pgs_cons (pg_name (i := 5) scLeast.nd rfl (Or.inl rfl)) (pgs_cons (pg_name (i := 6) scLeast.nd rfl (Or.inl rfl)) pgs_nil))) (fun _ _ _ _ _ => pts_nil) (fun _ _ _ _ _ => (pe_cmpR op_ne (pe_cmpR op_eq (pv 5) pe_str (nomark _)) (pe_cmpR op_eq (pv 6) pe_str (nomark _)) (nomark _)))) pa_nil))) (pss_one (ps_ret pe_int)) pss_nil)
      (pss_cons (ps_if (pt_val (pe_callB (cr_any rfl) (by rfl) T.any (by decide +kernel) (pa_cons (pe_lc (own := [("_law_left", 5), ("_law_right_here", 6)]) (g := gTup K 2 (gCons (gName 5) (gCons (gName 6) gNil))) (tt := tYes) rfl scLeast.nd (pi_list (pv 2)) (blkOk_by (N := nLeast) (sc := defScope sLeast) (by decide +kernel)) (fun _ _ _ _ _ => pg_tup rfl (pgs_cons (pg_name (i := 5) scLeast.nd rfl (Or.inl rfl)) (pgs_cons (pg_name (i := 6) scLeast.nd rfl (Or.inl rfl)) pgs_nil))) (fun _ _ _ _ _ => pts_nil) (fun _ _ _ _ _ => (pe_cmpR op_ne (pe_cmpR op_eq (pv 5) pe_str (nomark _)) (pe_cmpR op_eq (pv 6) pe_str (nomark _)) (nomark _)))) pa_nil))) (pss_one (ps_ret pe_int)) pss_nil)
      (pss_cons (ps_set (i := 3) scLeast.nd rfl (.inl rfl) (pe_lst pa_nil))
      (pss_cons (ps_for PassesOwn.never rfl (pi_enum (by rfl) T.enum (pa_cons (pv 2) pa_nil)) (pg_tup rfl (pgs_cons (pg_name (i := 4) scLeast.nd rfl (.inl rfl)) (pgs_cons (pg_tup rfl (pgs_cons (pg_name (i := 5) scLeast.nd rfl (.inl rfl)) (pgs_cons (pg_name (i := 6) scLeast.nd rfl (.inl rfl)) pgs_nil))) pgs_nil))) (pss_cons (ps_if (PW.pt (pw_and (pt_cmpR op_ne (pv 5) (pv 6) (nomark _)) (pw_and1 (pt_cmpR (r := rIn K false) op_in_seq pe_str (pe_slice (r := rSlL K) sl_list (pv 0) po_none (po_some (pv 4))) (by rfl))))) (pss_one (ps_expr (pe_bm PySem.F.plainAttrs_list PySem.F.slot_list_append PySem.F.type_list_append mt_append (pv 3) (pa_cons pe_int pa_nil)))) pss_nil) (pss_one (ps_if (PW.pt (pw_and (pt_cmpR op_ne (pv 5) (pv 6) (nomark _)) (pw_and1 (pt_val (pe_callB (cr_any rfl) (by rfl) T.any (by decide +kernel) (pa_cons (pe_lc (own := [("_law_way", 8)]) (g := gName 8) (tt := tYes) rfl scLeast.nd (pi_list (pe_slice (r := rSlL K) sl_list (pv 0) po_none (po_some (pv 4)))) (blkOk_by (N := nLeast) (sc := defScope sLeast) (by decide +kernel)) (fun _ _ _ _ _ => pg_name (i := 8) scLeast.nd rfl (Or.inl rfl)) (fun _ _ _ _ _ => pts_nil) (fun _ _ _ _ _ => (pe_cmpR op_ne (pv 8) pe_str (nomark _)))) pa_nil)))))) (pss_one (ps_expr (pe_bm PySem.F.plainAttrs_list PySem.F.slot_list_append PySem.F.type_list_append mt_append (pv 3) (pa_cons pe_int pa_nil)))) pss_nil))))
      (pss_one (ps_ret (pe_callBK (cr_minDef rfl (u64 hr)) (by rfl) T.min (by decide +kernel) (pa_cons (pv 3) pa_nil) (pk_cons pe_non pk_nil))))))))), ?_⟩
    dsimp only [tSeq, tAsg, gName]
    refine ⟨_, rfl, _, rfl, a, b, _, _, rfl, SqL.of ha, SqL.of hb, fun D nD => ?_⟩
    refine lc_it (walk_zipNm (K := K) (a := a) (b := b) (xs := ya.map V.str) (ys := yb.map V.str) (n := ya.length) (by simp) (by simpa using hl)) (fun i H' => Same H H' ∧ ∃ rs : List Addr, H' D = some (.lst (rs.map V.ref)) ∧ rs.length = i ∧ Paired (fun (r : Addr) (q : Str × Str) => H' r = some (.tup [.str q.1, .str q.2])) rs ((ya.zip yb).take i)) ⟨same_upd nD, [], upd_same, rfl, .nil⟩ (fun i H' _ q => ⟨SqL.of (q.1 _ _ ha), SqL.of (q.1 _ _ hb)⟩) ?_ ?_
    · rintro i v H1 H2 hi ⟨s1, rs, hD, lr, pr⟩ ⟨T', x1, x2, rfl, nT, rfl, e1, e2⟩
      have e1' : (ya.map V.str)[i]? = some x1 := e1
      have e2' : (yb.map V.str)[i]? = some x2 := e2
      rw [List.getElem?_map] at e1' e2'
      obtain ⟨y1, hy1, rfl⟩ := Option.map_eq_some_iff.mp e1'
      obtain ⟨y2, hy2, rfl⟩ := Option.map_eq_some_iff.mp e2'
      have ez : (ya.zip yb)[i]? = some (y1, y2) := List.getElem?_zip_eq_some.mpr ⟨hy1, hy2⟩
      have sT := same_upd (o := .tup [V.str y1, V.str y2]) nT
      have hT : (upd H1 T' (.tup [V.str y1, V.str y2])) T' = some (.tup [V.str y1, V.str y2]) := upd_same
      generalize (upd H1 T' (.tup [V.str y1, V.str y2])) = H3 at sT hT
      have hD3 := sT _ _ hD
      have ntl : ∀ {r : Addr} {xs : List V}, H3 r = some (.tup xs) → r ≠ D := fun z e => by rw [e, hD3] at z; cases z
      refine ⟨rfl, _, rfl, _, hD3, by rw [List.length_map, lr]; exact small1000 (by omega), same_new (s1.trans sT) nD, rs ++ [T'], by rw [upd_same, List.map_append]; rfl, by rw [List.length_append, lr]; rfl, ?_⟩
      rw [take_one ez]
      exact paired_snoc (paired_mono (fun r q z => by rw [upd_ne (ntl (sT _ _ z))]; exact sT _ _ z) pr) (by rw [upd_ne (ntl hT)]; exact hT)
    rintro H1 ⟨s1, rs, hD, lr, pr⟩
    have lz : (ya.zip yb).length = ya.length := by rw [List.length_zip, hl, Nat.min_self]
    rw [List.take_of_length_le (by rw [lz]; exact Nat.le_refl _)] at pr
    have lr4 : rs.length ≤ 4 := by omega
    refine any_pairs hD pr lr4 (fun H2 s2 => ?_)
    refine ⟨_, rfl, ?_⟩
    refine ite2 (fun c => k _ (some 2) (s1.trans s2) (.two ((kAny_iff hl).mp c))) (fun c1 => ?_)
    have nPK : ¬ PKd ya yb := fun z => c1 ((kAny_iff hl).mpr z)
    refine any_pairs (s2 _ _ hD) (paired_mono (fun _ _ z => s2 _ _ z) pr) lr4 (fun H3 s3 => ?_)
    refine ⟨_, rfl, ?_⟩
    refine ite2 (fun c => k _ (some 3) ((s1.trans s2).trans s3) (.three nPK (.inl ((kAny_iff hl).mp c)))) (fun c2 => ?_)
    have nPF : ¬ PFd ya yb := fun z => c2 ((kAny_iff hl).mpr z)
    have s13 := (s1.trans s2).trans s3
    have hD3 := s3 _ _ (s2 _ _ hD)
    have pr3 := paired_mono (fun _ _ z => s3 _ _ (s2 _ _ z)) pr
    refine ⟨(by show 0 ≤ sizeLine; exact Nat.zero_le _), fun Fo nF => ?_⟩
    have s4 := same_upd (o := .lst []) nF
    have nFH : H Fo = none := s13.free nF
    have nDF : D ≠ Fo := fun z => by rw [z, nF] at hD3; cases hD3
    refine ⟨_, rfl, D, _, rfl, SqL.of (s4 _ _ hD3), ?_⟩
    refine for_it (walk_enum (K := K) (a := D) (xs := rs.map V.ref)) (fun i σ H' => ∃ v4 v5 v6 v7 v8 : Option V, σ = [some (.ref a), some (.ref b), some (.ref D), some (.ref Fo), v4, v5, v6, v7, v8] ∧ Same H H' ∧ H' D = some (.lst (rs.map V.ref)) ∧ Paired (fun (r : Addr) (q : Str × Str) => H' r = some (.tup [.str q.1, .str q.2])) rs (ya.zip yb) ∧ ∃ L, H' Fo = some (.lst (intV L)) ∧ Fnd ya yb i L)
      ⟨_, _, _, _, _, rfl, s13.trans s4, s4 _ _ hD3, paired_mono (fun _ _ z => s4 _ _ z) pr3, [], upd_same, .nil⟩ (fun i σ H' _ z => by obtain ⟨_, _, _, _, _, _, _, q, _⟩ := z; exact SqL.of q) ?_ ?_
    · rintro i v σ H4 H5 hi ⟨v4, v5, v6, v7, v8, rfl, s5, hD5, pr5, L, hF5, fn⟩ ⟨T', x1, x2, rfl, nT, rfl, e1, e2⟩
      cases (show some (V.int (i : Nat)) = some x1 from e1)
      have e2' : (rs.map V.ref)[i]? = some x2 := e2
      rw [List.getElem?_map] at e2'
      obtain ⟨r, hr0, rfl⟩ := Option.map_eq_some_iff.mp e2'
      obtain ⟨q, hq, hrq⟩ := paired_get pr5 hr0
      have il : i < rs.length := (List.getElem?_eq_some_iff.mp hr0).1
      obtain ⟨hq1, hq2⟩ := List.getElem?_zip_eq_some.mp hq
      have w1 := way_get hq1
      have w2 := way_get hq2
      have ila : i ≤ ya.length := by omega
      have sT := same_upd (o := .tup [V.int (i : Nat), V.ref r]) nT
      have hT : (upd H4 T' (.tup [V.int (i : Nat), V.ref r])) T' = some (.tup [V.int (i : Nat), V.ref r]) := upd_same
      generalize (upd H4 T' (.tup [V.int (i : Nat), V.ref r])) = H5 at sT hT
      have hrT := sT _ _ hrq
      have hF6 := sT _ _ hF5
      have hD6 := sT _ _ hD5
      have pr6 := paired_mono (fun _ _ z => sT _ _ z) pr5
      have s06 := s5.trans sT
      refine ⟨T', _, rfl, SqT.of hT, rfl, _, _, rfl, _, _, rfl, r, _, rfl, SqT.of hrT, rfl, _, _, rfl, _, _, rfl, rfl, rfl, ?_⟩
      have hL8 : L.length ≤ 8 := by have := fn.len; omega
      have hav := s06 _ _ ha
      have naF : a ≠ Fo := fun z => by rw [z, nFH] at ha; cases ha
      have e12 : ∀ c : (!decide (V.str q.1 = V.str q.2)) = true, wayOf ya i ≠ wayOf yb i := fun c z => by
        rw [w1, w2] at z
        rw [z, decide_eq_true rfl] at c
        cases c
      have e12' : ∀ c : ¬ (!decide (V.str q.1 = V.str q.2)) = true, wayOf ya i = wayOf yb i := fun c => by
        rw [w1, w2]
        refine Classical.byContradiction fun z => c ?_
        rw [decide_eq_false fun e => z (V.str.inj e)]
        rfl
      refine tifS_any (fun σ' H' => σ' = [some (.ref a), some (.ref b), some (.ref D), some (.ref Fo), some (.int (i : Nat)), some (.str q.1), some (.str q.2), v7, v8] ∧ Keep Fo H5 H' ∧ ∃ M : List Int, H' Fo = some (.lst (intV (L ++ M))) ∧ ((M = [3] ∧ wayOf ya i ≠ wayOf yb i ∧ ∃ q', q' < i ∧ wayOf ya q' = wKept) ∨ (M = [] ∧ ¬ (wayOf ya i ≠ wayOf yb i ∧ ∃ q', q' < i ∧ wayOf ya q' = wKept)))) (fun σ' H6 h => ?_) (fun D' k' => ?_)
      rotate_left
      · have no : ¬ (wayOf ya i ≠ wayOf yb i ∧ ∃ q', q' < i ∧ wayOf ya q' = wKept) → D'.nx [some (.ref a), some (.ref b), some (.ref D), some (.ref Fo), some (.int (i : Nat)), some (.str q.1), some (.str q.2), v7, v8] H5 := fun n => k' _ _ ⟨rfl, fun _ _ _ e => e, [], by rw [List.append_nil]; exact hF6, .inr ⟨rfl, n⟩⟩
        refine ⟨_, rfl, _, rfl, rfl, _, rfl, ?_⟩
        refine ite2 (fun c => ?_) (fun c => ?_)
        · refine ⟨_, rfl, _, rfl, (i : Int), rfl, a, _, rfl, SqL.of hav, fun p np => ?_⟩
          rw [cut_take, ← List.map_take]
          have sp := same_upd (o := .lst ((ya.take i).map V.str)) np
          refine ⟨p, _, rfl, .inl (SqL.of upd_same), rfl, strs_flat _, _, rfl, ?_⟩
          refine ite2 (fun c2 => ?_) (fun c2 => ?_)
          · have c2' : inV (.str wKept) ((ya.take i).map V.str) = true := c2
            rw [inV_str] at c2'
            obtain ⟨q', hq', eq'⟩ := (mem_take ila).mp (of_decide_eq_true c2')
            refine ⟨_, rfl, .inl ⟨rfl, _, SqL.of (sp _ _ hF6)⟩, Fo, _, _, rfl, rfl, sp _ _ hF6, ?_, ?_⟩
            · unfold intV
              rw [List.length_map]
              exact small1000 (by omega)
            · refine k' _ _ ⟨rfl, (K17.Same.keep sp).trans Keep.put, [3], ?_, .inl ⟨rfl, e12 c, q', hq', eq'⟩⟩
              rw [upd_same]
              exact congrArg (fun l => some (HO.lst l)) (intV_snoc _ _)
          · have n3 : ¬ (wayOf ya i ≠ wayOf yb i ∧ ∃ q', q' < i ∧ wayOf ya q' = wKept) := fun ⟨_, q', hq', eq'⟩ => c2 (by
              show inV (.str wKept) ((ya.take i).map V.str) = true
              rw [inV_str]
              exact decide_eq_true ((mem_take ila).mpr ⟨q', hq', eq'⟩))
            exact k' _ _ ⟨rfl, K17.Same.keep sp, [], by rw [List.append_nil]; exact sp _ _ hF6, .inr ⟨rfl, n3⟩⟩
        · refine ite2 (fun z => absurd z (by decide)) (fun _ => no fun z => z.1 (e12' c))
      obtain ⟨rfl, k6, M, hF7, hM⟩ := h
      have hM1 : M.length ≤ 1 := by rcases hM with ⟨rfl, _⟩ | ⟨rfl, _⟩ <;> decide
      have hD7 : H6 D = some (.lst (rs.map V.ref)) := k6 _ _ nDF hD6
      have pr7 : Paired (fun (r : Addr) (q : Str × Str) => H6 r = some (.tup [.str q.1, .str q.2])) rs (ya.zip yb) := paired_mono (fun r _ z => k6 _ _ (fun e => by rw [e, hF6] at z; cases z) z) pr6
      have hav7 := k6 _ _ naF hav
      have kH6 : Keep Fo H H6 := (K17.Same.keep s06).trans k6
      have fin : ∀ (H7 : Hp) (N : List Int), Keep Fo H6 H7 → H7 Fo = some (.lst (intV ((L ++ M) ++ N))) → ((N = [4] ∧ wayOf ya i ≠ wayOf yb i ∧ ∃ q', q' < i ∧ wayOf ya q' ≠ wFresh) ∨ (N = [] ∧ ¬ (wayOf ya i ≠ wayOf yb i ∧ ∃ q', q' < i ∧ wayOf ya q' ≠ wFresh))) →
          ∃ v4 v5 v6 v7' v8' : Option V, ([some (.ref a), some (.ref b), some (.ref D), some (.ref Fo), some (.int (i : Nat)), some (.str q.1), some (.str q.2), v7, v8] : L2.St) = [some (.ref a), some (.ref b), some (.ref D), some (.ref Fo), v4, v5, v6, v7', v8'] ∧ Same H H7 ∧ H7 D = some (.lst (rs.map V.ref)) ∧ Paired (fun (r : Addr) (q : Str × Str) => H7 r = some (.tup [.str q.1, .str q.2])) rs (ya.zip yb) ∧ ∃ L, H7 Fo = some (.lst (intV L)) ∧ Fnd ya yb (i + 1) L := fun H7 N k7 h7 hN => by
        refine ⟨_, _, _, _, _, rfl, keep_same (kH6.trans k7) nFH, k7 _ _ nDF hD7, paired_mono (fun r _ z => k7 _ _ (fun e => by rw [e, hF7] at z; cases z) z) pr7, L ++ (M ++ N), by rw [← List.append_assoc]; exact h7, fn.step (fun z => ?_) (fun z => ?_) (fun x hx => ?_) ?_⟩
        · rcases hM with ⟨rfl, _⟩ | ⟨_, n⟩
          · simp
          · exact absurd z n
        · rcases hN with ⟨rfl, _⟩ | ⟨_, n⟩
          · simp
          · exact absurd z n
        · rcases List.mem_append.mp hx with h | h
          · rcases hM with ⟨rfl, q⟩ | ⟨rfl, _⟩
            · exact .inl ⟨List.mem_singleton.mp h, q⟩
            · exact (List.not_mem_nil h).elim
          · rcases hN with ⟨rfl, q⟩ | ⟨rfl, _⟩
            · exact .inr ⟨List.mem_singleton.mp h, q⟩
            · exact (List.not_mem_nil h).elim
        · rw [List.length_append]
          rcases hN with ⟨rfl, _⟩ | ⟨rfl, _⟩
          · show M.length + 1 ≤ 2
            omega
          · show M.length + 0 ≤ 2
            omega
      refine ⟨_, rfl, _, rfl, rfl, _, rfl, ?_⟩
      refine ite2 (fun c => ?_) (fun c => ?_)
      · refine ⟨_, rfl, _, rfl, (i : Int), rfl, a, _, rfl, SqL.of hav7, fun p np => ?_⟩
        rw [cut_take, ← List.map_take]
        have sp := same_upd (o := .lst ((ya.take i).map V.str)) np
        have hp8 : (upd H6 p (.lst ((ya.take i).map V.str))) p = some (.lst ((ya.take i).map V.str)) := upd_same
        generalize (upd H6 p (.lst ((ya.take i).map V.str))) = H8 at sp hp8
        refine ⟨p, rfl, ⟨_, SqL.of hp8⟩, fun D2 nD2 => ?_⟩
        refine lc_list (K := K) (a := p) (xs := (ya.take i).map V.str) (fun j H' => Same H8 H' ∧ H' D2 = some (.lst (((ya.take i).take j).map fun y => V.bl (!decide (V.str y = V.str "fresh"))))) ⟨same_upd nD2, upd_same⟩ (fun j H' _ z => SqL.of (z.1 _ _ hp8)) ?_ ?_
        · rintro j x H' hx ⟨s', hD2⟩
          rw [List.getElem?_map] at hx
          obtain ⟨y, hy, rfl⟩ := Option.map_eq_some_iff.mp hx
          have jl := (List.getElem?_eq_some_iff.mp hy).1
          rw [List.length_take] at jl
          refine ⟨rfl, _, rfl, rfl, _, hD2, ?_, same_new s' nD2, ?_⟩
          · rw [List.length_map, List.length_take, List.length_take]
            exact small1000 (by omega)
          · rw [upd_same, take_one hy, List.map_append]
            rfl
        · rintro H' ⟨s', hD2⟩
          rw [List.length_map, List.take_length] at hD2
          have e : (ya.take i).map (fun y => V.bl (!decide (V.str y = V.str "fresh"))) = ((ya.take i).map fun y => !decide (V.str y = V.str "fresh")).map V.bl := by
            rw [List.map_map]
            rfl
          rw [e] at hD2
          have iff4 : ((ya.take i).map fun y => !decide (V.str y = V.str "fresh")).any id = true ↔ ∃ q', q' < i ∧ wayOf ya q' ≠ wFresh := by
            rw [List.any_map, List.any_eq_true]
            constructor
            · rintro ⟨y, hy, n⟩
              obtain ⟨q', hq', eq'⟩ := (mem_take ila).mp hy
              refine ⟨q', hq', fun z => ?_⟩
              have n' : (!decide (V.str y = V.str "fresh")) = true := n
              rw [← eq', z, decide_eq_true (show V.str wFresh = V.str "fresh" from rfl)] at n'
              cases n'
            · rintro ⟨q', hq', n⟩
              refine ⟨wayOf ya q', (mem_take ila).mpr ⟨q', hq', rfl⟩, ?_⟩
              show (!decide (V.str (wayOf ya q') = V.str wFresh)) = true
              rw [decide_eq_false fun z => n (V.str.inj z)]
              rfl
          have k8 : Keep Fo H6 H' := K17.Same.keep (sp.trans s')
          have hF8 := (sp.trans s') _ _ hF7
          refine ⟨D2, _, rfl, SqL.of hD2, _, rfl, ?_⟩
          refine ite2 (fun c4 => ?_) (fun c4 => ?_)
          · refine ⟨_, rfl, .inl ⟨rfl, _, SqL.of hF8⟩, Fo, _, _, rfl, rfl, hF8, ?_, ?_⟩
            · unfold intV
              rw [List.length_map, List.length_append]
              exact small1000 (by omega)
            · refine fin _ [4] (k8.trans Keep.put) ?_ (.inl ⟨rfl, e12 c, iff4.mp c4⟩)
              rw [upd_same]
              exact congrArg (fun l => some (HO.lst l)) (intV_snoc _ _)
          · exact fin _ [] k8 (by rw [List.append_nil]; exact hF8) (.inr ⟨rfl, fun z => c4 (iff4.mpr z.2)⟩)
      · refine ite2 (fun z => absurd z (by decide)) (fun _ => fin H6 [] (fun _ _ _ e => e) (by rw [List.append_nil]; exact hF7) (.inr ⟨rfl, fun z => z.1 (e12' c)⟩))
    · rintro σ H4 ⟨v4, v5, v6, v7, v8, rfl, s5, hD5, pr5, L, hF5, fn⟩
      rw [List.length_map] at fn
      have el : rs.length = ya.length := by omega
      rw [el] at fn
      refine ⟨_, rfl, Fo, L, rfl, rfl, SqL.of hF5, fun e => ?_, fun m hm hmin => ?_⟩
      · subst e
        exact k _ none s5 (.none nPK nPF (fun ⟨p, q, x1, x2, x3, x4⟩ => List.not_mem_nil (fn.t3 ⟨p, q, x1, x2, x3, x4⟩)) fun ⟨p, q, x1, x2, x3, x4⟩ => List.not_mem_nil (fn.t4 ⟨p, q, x1, x2, x3, x4⟩))
      · rcases fn.mem m hm with ⟨rfl, p, q, x1, x2, x3, x4⟩ | ⟨rfl, p, q, x1, x2, x3, x4⟩
        · exact k _ (some 3) s5 (.three nPK (.inr ⟨p, q, x1, x2, x3, x4⟩))
        · have n3 : ¬ P3d ya yb := fun ⟨p', q', y1, y2, y3, y4⟩ => by
            have := hmin _ (fn.t3 ⟨p', q', y1, y2, y3, y4⟩)
            omega
          exact k _ (some 4) s5 (.four nPK nPF n3 ⟨p, q, x1, x2, x3, x4⟩)
end
end K17

namespace K17
open L2 PySem PySem.Spec PyProof.Rows RZ
abbrev sRight : Stmt := top 58
theorem three_two {ws ya yb : List Str} {bs : List Bool} (h : Three ws ya bs) (h' : Three ws yb bs) : Two ya yb := ⟨by rw [h.ly, h'.ly], h.waysOk, h'.waysOk⟩
/-- what is told is what the ways say -/
theorem told_least {K : PySem.W.Frag} {ya yb : Ys} {bs : List Bool} {H : Hp} {T : Addr} {l : Option Nat} (W : Two ya yb) (L : Least ya yb l) (h : TldT K ya yb bs "alike" H T ∨ TldB K ya yb bs "apart" H T) :
    (l = none ∧ ∃ tb, SqT K H T [.str "alike", .ref tb]) ∨ ∃ (fa sa : Addr) (sts : List V), l = some sts.length ∧ SqT K H T [.str "apart", .ref fa, .ref sa] ∧ SqT K H sa sts := by
  rcases h with ⟨tb, Z, S, hT, _, so, rch, unb⟩ | ⟨fa, sa, sts, S, d, hT, hS, hl, so, br⟩
  · exact .inl ⟨least_tab W so.ok (fun k s r => unb s (rch k s r)) L, tb, hT⟩
  · exact .inr ⟨fa, sa, sts, by rw [hl]; exact least_brk W so.ok br L, hT, hS⟩
def tJn (K : PySem.W.Frag) (to te : TE) : TE := tM1 (fun x xs H Q => ∃ a p, ∃ ys : List Str, x = .str a ∧ xs = [.ref p] ∧ (SqL K H p (ys.map V.str) ∨ SqT K H p (ys.map V.str)) ∧ (ys.map (·.length)).sum + ys.length * a.length ≤ 16777216 ∧ Q (.str (Txt.join a ys)) H) to te
section
variable {base : Heap} {P : Program} {w : World} {K : PySem.W.Frag} {mg : Str → Option Value}
def spRight : Sp := fun vs H Q _ => ∃ (j : Addr) (n : Nat), vs = [.ref j] ∧ Jar H j n ∧ n ≤ 4000 ∧ ∀ H', Jar H' j (n + 100) → Keep j H H' → Q (.bl true) H'
abbrev nRight : List Str := ["_law_jar_here", "_law_plan_here", "_law_other", "_law_made", "_law_least_here", "_law_one", "_law_two", "_law_told"]
theorem scRight : FnScope nRight ["_law_jar_here"] (defScope sRight) := ⟨rfl, rfl, rfl, by decide +kernel, rfl, by decide +kernel, by decide +kernel⟩
theorem ok_right {f C CB : Addr} {fd : FuncData} (F : Fun K "_law_right" "_law_right" sRight f fd) (T : TxtN K mg) (TP : PlanC P w K mg base C CB)
    (GP : Has P w K mg base "_law_plan" 4 ["_law_jar_here", "_law_most"] spPlan) (GOf : jarOf P w K mg base) (GL : Has P w K mg base "_law_plan_lines" 1 ["_law_plan_here"] spPLines)
    (GPr : Has P w K mg base "_law_pair" 3 ["_law_jar_here", "_law_plan_here"] spPair) (GLs : Has P w K mg base "_law_least" 1 ["_law_one", "_law_other"] (spLeast K))
    (GA : Has P w K mg base "alike_all" 8 ["plan", "other"] (spAlikeAll K C)) : FnOk P w K mg base CX0 9 f fd ["_law_jar_here"] spRight := by
  refine F.ok scRight (fun vs H Q E h => ?_) (fun cdv A outer s H vs Q E hr h => ?_)
  · obtain ⟨j, n, rfl, _⟩ := h
    rfl
  · obtain ⟨j, n, rfl, hj, hn, k⟩ := h
    obtain ⟨fI, fdI, M, FI, bI⟩ := TP.init
    have r8 : Room 8 _ := hr
    have r5 : Room 5 _ := hr.mono (by decide)
    have r4 : Room 4 _ := hr.mono (by decide)
    have r3 : Room 3 _ := hr.mono (by decide)
    have r2 : Room 2 _ := hr.mono (by decide)
    have r1 : Room 1 _ := hr.mono (by decide)
    refine ⟨_, (pss_cons (ps_set (i := 1) scRight.nd rfl (.inl rfl) (pe_has GP r4 (pa_cons (pv 0) (pa_cons pe_int pa_nil))))
      (pss_cons (ps_while PassesOwn.never (pt_cmpR op_gt (pe_bm PySem.F.plainAttrs_list PySem.F.slot_list_count PySem.F.type_list_count mt_countV (pe_dget (units1 hr) (pv 1) pe_str (fun _ _ => rfl)) (pa_cons pe_str pa_nil)) pe_int (nomark _)) (pss_one (ps_asg (pe_has GOf r2 (pa_cons (pv 0) (pa_cons (pe_lst (pa_cons pe_str (pa_cons pe_str (pa_cons pe_str pa_nil)))) pa_nil))) (pg_sub (pe_dget (units1 hr) (pv 1) pe_str (fun _ _ => rfl)) (pe_bm PySem.F.plainAttrs_list PySem.F.slot_list_index PySem.F.type_list_index mt_index (pe_dget (units1 hr) (pv 1) pe_str (fun _ _ => rfl)) (pa_cons pe_str pa_nil)) set_list))))
      (pss_cons (ps_set (i := 2) scRight.nd rfl (.inl rfl) (pe_has GPr r3 (pa_cons (pv 0) (pa_cons (pv 1) pa_nil))))
      (pss_cons (ps_setLc (i := 3) (own := [("_law_one", 5)]) (g := gName 5) (tt := tYes) (te := tMakeS C (spPI K C CB) (fun σ => WE (fun _ _ _ _ => False) σ) (tCons (tJn K (tC (.str "\n")) (tCall spPLines [] E0 (tCons (tVar 5) tNil))) tNil)) rfl scRight.nd rfl rfl rfl (pi_tup (pe_tup (pa_cons (pv 1) (pa_cons (pv 2) pa_nil)))) (blkOk_by (N := nRight) (sc := defScope sRight) (by decide +kernel)) (fun _ _ _ _ _ => pg_name (i := 5) scRight.nd rfl (Or.inl rfl)) (fun _ _ _ _ _ => pts_nil) (fun _ _ _ _ _ => (pe_makeS M FI r5 rfl TP.gP bI (fun σ => passAt takes0 σ) (pa_cons (pe_join pe_str (pe_has GL r1 (pa_cons (pv 5) pa_nil))) pa_nil))))
      (pss_cons (ps_set (i := 4) scRight.nd rfl (.inl rfl) (pe_has GLs r1 (pa_cons (pe_dget (units1 hr) (pv 1) pe_str (fun _ _ => rfl)) (pa_cons (pe_dget (units1 hr) (pv 2) pe_str (fun _ _ => rfl)) pa_nil))))
      (pss_cons (ps_for PassesOwn.never rfl (pi_tup (pe_tup (pa_cons (pe_tup (pa_cons (pe_ix (r := rIxL K) ix_list (pv 3) pe_int (fun _ _ => rfl)) (pa_cons (pe_ix (r := rIxL K) ix_list (pv 3) pe_int (fun _ _ => rfl)) pa_nil))) (pa_cons (pe_tup (pa_cons (pe_ix (r := rIxL K) ix_list (pv 3) pe_int (fun _ _ => rfl)) (pa_cons (pe_ix (r := rIxL K) ix_list (pv 3) pe_int (fun _ _ => rfl)) pa_nil))) pa_nil)))) (pg_tup rfl (pgs_cons (pg_name (i := 5) scRight.nd rfl (.inl rfl)) (pgs_cons (pg_name (i := 6) scRight.nd rfl (.inl rfl)) pgs_nil))) (pss_cons (ps_set (i := 7) scRight.nd rfl (.inl rfl) (pe_has GA r8 (pa_cons (pv 5) (pa_cons (pv 6) pa_nil)))) (pss_one (ps_if (PW.pt (pw_or (pt_cmpR op_ne (pe_ix (r := rIxT K) ix_tup (pv 7) pe_int (fun _ _ => rfl)) (pe_ifExp (pt_cmpR op_isN (pv 4) pe_non (nomark _)) pe_str pe_str) (nomark _)) (pw_or1 (PW.pt (pw_and (pt_cmpR op_notN (pv 4) pe_non (nomark _)) (pw_and1 (pt_cmpR op_ne (pe_callB call_len_seq (by rfl) T.len PySem.boot_len (pa_cons (pe_ix (r := rIxT K) ix_tup (pv 7) pe_int (fun _ _ => rfl)) pa_nil)) (pv 4) (nomark _)))))))) (pss_one (ps_ret pe_bl)) pss_nil))))
      (pss_one (ps_ret (pe_cmpR op_eq (pe_ix (r := rIxT K) ix_tup (pe_has GA r8 (pa_cons (pe_ix (r := rIxL K) ix_list (pv 3) pe_int (fun _ _ => rfl)) (pa_cons (pe_ix (r := rIxL K) ix_list (pv 3) pe_int (fun _ _ => rfl)) pa_nil))) pe_int (fun _ _ => rfl)) pe_str (nomark _)))))))))), ?_⟩
    dsimp only [tSeq, tAsg, gName]
    refine ⟨.ref j, rfl, j, n, 4, rfl, hj, by omega, by decide, by decide, fun d H1 ws ys0 bs dn dp2 th0 hj1 kp1 pa1 => ?_⟩
    obtain ⟨p1, p2, p3, n0, n1, n2, n3, f0, f1, f2, f3⟩ := id pa1.ex
    obtain ⟨np2, a12⟩ := dp2 _ _ _ f0
    refine ⟨fun mm σ H' => ∃ ys : List Str, σ = [some (.ref j), some (.ref d), none, none, none, none, none, none] ∧ mm = cK ys ∧ Three ws ys bs ∧ H' d = some (.dK [(.inr "names", .ref p1), (.inr "ways", .ref p2), (.inr "takes", .ref p3)]) ∧ H' p1 = some (.lst (ws.map V.str)) ∧ H' p2 = some (.lst (ys.map V.str)) ∧ H' p3 = some (.lst (bs.map V.bl)) ∧ Jar H' j (n + 34 - cK ys) ∧ Keep j H H',
      ⟨_, ys0, rfl, rfl, th0, f0, f1, f2, f3, hj1.mono (by have := cK_le ys0; have := th0.ly; have := th0.four; omega), kp1⟩, ?_⟩
    rintro mm σ H3 ⟨ys, rfl, rfl, th, g0, g1, g2, g3, hj3, kp3⟩
    have one := th.one
    have four := th.four
    have ly := th.ly
    have lb := th.lb
    have c4 : cK ys ≤ 4 := by have := cK_le ys; omega
    refine ⟨.ref d, rfl, d, _, rfl, gD (k := .inr "ways") g0 rfl, .inl ⟨rfl, _, SqL.of g2⟩, p2, _, .str "kept", rfl, rfl, SqL.of g2, rfl, strs_flat _, ?_⟩
    refine ⟨_, 1, rfl, rfl, _, rfl, ?_⟩
    refine ite2 (fun cw => ?_) (fun cw => ?_)
    · have c1 : cK ys ≠ 0 := fun z => by
        have cw' : decide ((1 : Int) < ((cK ys : Nat) : Int)) = true := cw
        have := of_decide_eq_true cw'
        rw [z] at this
        omega
      obtain ⟨i, hi, hfirst⟩ := cK_first c1
      have il := (List.getElem?_eq_some_iff.mp hi).1
      refine ⟨_, fun σ' H' h => h, ?_⟩
      refine ⟨.ref j, rfl, (by show 3 ≤ sizeLine; decide), fun q nq => ?_⟩
      have nqj := hj3.ne nq
      have hjq : Jar (upd H3 q (.lst [.str "fresh", .str "once", .str "handed"])) j _ := hj3.upd nqj
      refine ⟨j, _, .ref q, rfl, hjq, by omega, .inl ⟨q, _, rfl, nqj, SqL.of upd_same, by decide, by decide, fun y H4 hy hj4 kp4 => ?_⟩⟩
      obtain ⟨z, rfl, hz, hzk⟩ := own3k_of hy
      have kp34 : Keep j H3 H4 := (Keep.new nq).trans kp4
      have e0 := kp34 _ _ n0 g0
      have e2 := kp34 _ _ n2 g2
      refine ⟨.ref d, rfl, d, _, rfl, gD (k := .inr "ways") e0 rfl, .ref d, rfl, d, _, rfl, gD (k := .inr "ways") e0 rfl, .inl ⟨rfl, _, SqL.of e2⟩, ?_⟩
      refine ⟨p2, _, .str "kept", i, .str wKept, rfl, rfl, SqL.of e2, rfl, strs_flat _, by rw [List.getElem?_map, hi]; rfl, by decide +kernel, fun m z' hm hz' => ?_, ?_⟩
      · rw [List.getElem?_map] at hz'
        obtain ⟨y', hy', rfl⟩ := Option.map_eq_some_iff.mp hz'
        exact beq_eq_false_iff_ne.mpr (hfirst m y' hm hy')
      have cs := cK_set hzk hi
      refine ⟨p2, _, (i : Int), i, rfl, rfl, e2, Evl.ixN_nat (by rw [List.length_map]; exact il), ?_⟩
      rw [show (ys.map V.str).set i (.str z) = (ys.set i z).map V.str by rw [List.map_set]]
      have e1 := kp34 _ _ n1 g1
      have e3 := kp34 _ _ n3 g3
      have a02 : d ≠ p2 := fun z => by rw [z, e2] at e0; cases e0
      have a32 : p3 ≠ p2 := fun z => by
        rw [z, e2] at e3
        injection e3 with e3
        injection e3 with e3
        exact strs_ne_bls e3 (by omega)
      exact ⟨cK (ys.set i z), by omega, ys.set i z, rfl, rfl, ⟨one, four, by rw [List.length_set]; exact ly, lb, th.nd, th.nm, fun y hy => by
        rcases List.mem_or_eq_of_mem_set hy with q | q
        · exact th.wy y q
        · rw [q]
          exact hz⟩, (upd_ne a02).trans e0, (upd_ne a12).trans e1, upd_same, (upd_ne a32).trans e3, (hj4.upd n2).mono (by omega), (kp3.trans kp34).upd_new np2⟩
    dsimp only [tSeq]
    have paW : PlanAt H3 j d ws ys bs := ⟨p1, p2, p3, n0, n1, n2, n3, g0, g1, g2, g3⟩
    have hjW := hj3.mono (show n + 34 - cK ys ≤ n + 34 by omega)
    refine ⟨.ref j, rfl, .ref d, rfl, j, d, n + 34, ws, ys, bs, rfl, hjW, by omega, paW, th, fun H4 d2 ys2 hj4 kp4 pa2 th2 => ?_⟩
    have pa4 := paW.keep kp4
    have T2 := three_two th th2
    have ly2 := th2.ly
    have kH4 : Keep j H H4 := kp3.trans kp4
    dsimp only [tSeq, tAsg, tLc, iTup, List.map]
    refine ⟨_, rfl, _, rfl, (by show 2 ≤ sizeLine; decide), fun q nq => ⟨q, rfl, ⟨_, SqT.of upd_same⟩, fun D nD => ?_⟩⟩
    have s5 := same_upd (o := .tup [.ref d, .ref d2]) nq
    have hq5 : (upd H4 q (.tup [.ref d, .ref d2])) q = some (.tup [.ref d, .ref d2]) := upd_same
    generalize (upd H4 q (.tup [.ref d, .ref d2])) = H5 at s5 hq5 nD
    refine lc_tup (K := K) (a := q) (xs := [.ref d, .ref d2]) (fun i H' => Same H5 H' ∧ ∃ ms : List Addr, H' D = some (.lst (ms.map V.ref)) ∧ ms.length = i ∧ Paired (fun (m : Addr) (y : List Str) => PlanIs H' C m ws y bs) ms ([ys, ys2].take i)) ⟨same_upd nD, [], upd_same, rfl, .nil⟩ (fun i H' _ z => SqT.of (z.1 _ _ hq5)) ?_ ?_
    · rintro i x H6 hx ⟨s6, ms, hD, lm, pms⟩
      obtain ⟨dd, y, rfl, hy, pay, thy⟩ : ∃ (dd : Addr) (y : List Str), x = .ref dd ∧ [ys, ys2][i]? = some y ∧ PlanAt H6 j dd ws y bs ∧ Three ws y bs := by
        have li : i < 2 := (List.getElem?_eq_some_iff.mp hx).1
        match i, li, hx with
        | 0, _, hx => cases hx; exact ⟨d, ys, rfl, rfl, (pa4.keep (K17.Same.keep s5)).keep (K17.Same.keep s6), th⟩
        | 1, _, hx => cases hx; exact ⟨d2, ys2, rfl, rfl, (pa2.keep (K17.Same.keep s5)).keep (K17.Same.keep s6), th2⟩
      have t1 := thy.one
      have t4 := thy.four
      have lyy := thy.ly
      have lby := thy.lb
      have li : i < 2 := (List.getElem?_eq_some_iff.mp hy).1
      have dok : ∀ l ∈ drawn ws y bs, l.length ≤ 50 ∧ Asc l := fun l hl => by
        obtain ⟨w1, y1, b1, h1, h2, rfl⟩ := drawn_mem hl
        have := line_ok (b := b1) (thy.nm w1 h1) (thy.wy y1 h2)
        exact ⟨this.1, this.2.1⟩
      have dl := drawn_len thy.ly thy.lb
      have nl1 : nl.length = 1 := by decide +kernel
      obtain ⟨tl, ta⟩ := drawn_text thy
      have rd := drawn_read thy
      refine ⟨rfl, ⟨_, rfl⟩, .ref dd, rfl, j, dd, ws, y, bs, rfl, pay, thy, fun H7 Ln s7 nL hL => ?_⟩
      refine ⟨_, Ln, drawn ws y bs, rfl, rfl, .inl (SqL.of hL), ?_, ?_⟩
      · have := sum_le (ls := drawn ws y bs) (m := 50) fun l hl => (dok l hl).1
        show _ + _ * nl.length ≤ 16777216
        rw [nl1]
        omega
      refine fun mA dm nm ndm nem => ⟨mA, dm, _, rfl, upd_same, .inr ⟨joined (drawn ws y bs), rfl, by omega, ta, fun n e => inr_ne rd e, fun rows e H8 a b c k6 e1 e2 e3 e4 => ⟨rfl, ?_⟩⟩⟩
      have s8 := mk_same nm ndm nem k6
      obtain rfl : rows = rowsOf ws y bs := by
        rw [rd] at e
        cases e
        rfl
      have hm : MadeAt H8 C mA (joined (drawn ws y bs)) (rowsOf ws y bs) := ⟨dm, a, b, c, e1, e2, e3, e4⟩
      have pi8 := hm.plan lyy lby
      have s78 := s7.trans s8
      have hD8 := s78 _ _ hD
      have wrP : ∀ {m : Addr} {y : List Str}, PlanIs H8 C m ws y bs → PlanIs (upd H8 D (.lst (ms.map V.ref ++ [V.ref mA]))) C m ws y bs := fun {m y} h => by
        obtain ⟨dx, a, b, c, z, e, e1, e2, e3⟩ := h.ex
        have tw : ∀ {p : Addr} {xs : List V}, TupD H8 p xs → TupD (upd H8 D (.lst (ms.map V.ref ++ [V.ref mA]))) p xs := fun {p xs} ⟨o, g, gd⟩ => ⟨o, by rw [upd_ne (fun z => by rw [z, hD8] at g; cases g)]; exact g, gd⟩
        exact ⟨dx, a, b, c, z, by rw [upd_ne (fun z => by rw [z, hD8] at e; cases e)]; exact e, tw e1, tw e2, tw e3⟩
      refine ⟨_, hD8, by rw [List.length_map, lm]; exact small1000 (by omega), same_new (s6.trans s78) nD, ms ++ [mA], by rw [upd_same, List.map_append]; rfl, by rw [List.length_append, lm]; rfl, ?_⟩
      rw [take_one hy]
      exact paired_snoc (paired_mono (fun _ _ h => wrP (h.same s78)) pms) (wrP pi8)
    rintro H6 ⟨s6, ms, hD, lm, pms⟩
    obtain ⟨m1, m2, rfl, pi1, pi2⟩ : ∃ m1 m2 : Addr, ms = [m1, m2] ∧ PlanIs H6 C m1 ws ys bs ∧ PlanIs H6 C m2 ws ys2 bs := by
      have pms' : Paired (fun (m : Addr) (y : List Str) => PlanIs H6 C m ws y bs) ms [ys, ys2] := pms
      cases pms' with
      | cons a p =>
        cases p with
        | cons b p =>
          cases p
          exact ⟨_, _, rfl, a, b⟩
    have s46 := s5.trans s6
    obtain ⟨a1, a2, a3, b0, b1, b2, b3, c0, c1, c2, c3⟩ := id (pa4.keep (K17.Same.keep s46)).ex
    obtain ⟨a1', a2', a3', b0', b1', b2', b3', c0', c1', c2', c3'⟩ := id (pa2.keep (K17.Same.keep s46)).ex
    refine ⟨.ref d, rfl, d, _, rfl, gD (k := .inr "ways") c0 rfl, .ref d2, rfl, d2, _, rfl, gD (k := .inr "ways") c0' rfl, a2, a2', ys, ys2, rfl, c2, c2', by rw [th2.ly, th.ly], by omega, fun H7 l s7 L => ?_⟩
    have hD7 : H7 D = some (.lst [.ref m1, .ref m2]) := s7 _ _ hD
    have pi17 := pi1.same s7
    have pi27 := pi2.same s7
    refine ⟨_, rfl, D, _, 0, .ref m1, rfl, rfl, SqL.of hD7, atI_nat (j := 0) rfl, _, rfl, D, _, 1, .ref m2, rfl, rfl, SqL.of hD7, atI_nat (j := 1) rfl, (by show 2 ≤ sizeLine; decide), fun t1 nt1 => ?_⟩
    have s8 := same_upd (o := .tup [.ref m1, .ref m2]) nt1
    have ht1 : (upd H7 t1 (.tup [.ref m1, .ref m2])) t1 = some (.tup [.ref m1, .ref m2]) := upd_same
    generalize (upd H7 t1 (.tup [.ref m1, .ref m2])) = H8 at s8 ht1
    have hD8 := s8 _ _ hD7
    refine ⟨_, rfl, D, _, 1, .ref m2, rfl, rfl, SqL.of hD8, atI_nat (j := 1) rfl, _, rfl, D, _, 0, .ref m1, rfl, rfl, SqL.of hD8, atI_nat (j := 0) rfl, (by show 2 ≤ sizeLine; decide), fun t2 nt2 => ?_⟩
    have s9 := same_upd (o := .tup [.ref m2, .ref m1]) nt2
    have ht2 : (upd H8 t2 (.tup [.ref m2, .ref m1])) t2 = some (.tup [.ref m2, .ref m1]) := upd_same
    generalize (upd H8 t2 (.tup [.ref m2, .ref m1])) = H9 at s9 ht2
    refine ⟨(by show 2 ≤ sizeLine; decide), fun tt ntt => ?_⟩
    have s10 := same_upd (o := .tup [.ref t1, .ref t2]) ntt
    have htt : (upd H9 tt (.tup [.ref t1, .ref t2])) tt = some (.tup [.ref t1, .ref t2]) := upd_same
    generalize (upd H9 tt (.tup [.ref t1, .ref t2])) = HT at s10 htt
    have s7T := (s8.trans s9).trans s10
    have ht1T := (s9.trans s10) _ _ ht1
    have ht2T := s10 _ _ ht2
    have hDT := s7T _ _ hD7
    refine ⟨tt, rfl, ⟨_, SqT.of htt⟩, ?_⟩
    refine for_tup (K := K) (xs := [.ref t1, .ref t2]) (fun i σ H' => ∃ v5 v6 v7 : Option V, σ = [some (.ref j), some (.ref d), some (.ref d2), some (.ref D), some (lvV l), v5, v6, v7] ∧ Same HT H') ⟨_, _, _, rfl, Same.refl _⟩ (fun i σ H' _ z => by obtain ⟨_, _, _, _, s'⟩ := z; exact SqT.of (s' _ _ htt)) ?_ ?_
    · rintro i x σ H10 hx ⟨v5, v6, v7, rfl, s11⟩
      obtain ⟨ti, ma, mb, y1, y2, rfl, hti, pa1, pb1, W, Li⟩ : ∃ (ti ma mb : Addr) (y1 y2 : List Str), x = .ref ti ∧ HT ti = some (.tup [.ref ma, .ref mb]) ∧ (PlanIs H7 C ma ws y1 bs ∧ y1.length = ws.length) ∧ (PlanIs H7 C mb ws y2 bs ∧ y2.length = ws.length) ∧ Two y1 y2 ∧ Least y1 y2 l := by
        have li : i < 2 := (List.getElem?_eq_some_iff.mp hx).1
        match i, li, hx with
        | 0, _, hx => cases hx; exact ⟨t1, m1, m2, ys, ys2, rfl, ht1T, ⟨pi17, ly⟩, ⟨pi27, ly2⟩, T2, L⟩
        | 1, _, hx => cases hx; exact ⟨t2, m2, m1, ys2, ys, rfl, ht2T, ⟨pi27, ly2⟩, ⟨pi17, ly⟩, T2.symm, L.symm T2⟩
      have s7x := s7T.trans s11
      refine ⟨ti, _, rfl, SqT.of (s11 _ _ hti), rfl, _, _, rfl, _, _, rfl, rfl, ?_⟩
      refine ⟨_, rfl, _, rfl, ma, mb, ws, y1, y2, bs, rfl, pa1.1.same s7x, pb1.1.same s7x, th.asc, four, pa1.2, pb1.2, lb, W, fun H11 Ta s12 told => ?_⟩
      rcases told_least W Li told with ⟨rfl, tb, hT⟩ | ⟨fa, sa, sts, rfl, hT, hS⟩
      · refine ⟨_, rfl, Ta, _, 0, .str "alike", rfl, rfl, hT, atI_nat (j := 0) rfl, ?_⟩
        refine ⟨_, rfl, rfl, _, rfl, ?_⟩
        refine ite2 (fun _ => ?_) (fun z => absurd (decide_eq_true rfl) z)
        refine ⟨rfl, _, rfl, ?_⟩
        refine ite2 (fun z => absurd z (by decide +kernel)) (fun _ => ?_)
        refine ⟨_, rfl, rfl, _, rfl, ?_⟩
        refine ite2 (fun z => absurd z (by decide)) (fun _ => ?_)
        exact ite2 (fun z => absurd z (by decide)) (fun _ => ⟨_, _, _, rfl, s11.trans s12⟩)
      · refine ⟨_, rfl, Ta, _, 0, .str "apart", rfl, rfl, hT, atI_nat (j := 0) rfl, ?_⟩
        refine ⟨_, rfl, rfl, _, rfl, ?_⟩
        refine ite2 (fun z => by cases of_decide_eq_true z) (fun _ => ?_)
        refine ⟨rfl, _, rfl, ?_⟩
        refine ite2 (fun z => absurd z (by decide +kernel)) (fun _ => ?_)
        refine ⟨_, rfl, rfl, _, rfl, ?_⟩
        refine ite2 (fun _ => ?_) (fun z => ?_)
        · refine ⟨_, rfl, Ta, _, 2, .ref sa, rfl, rfl, hT, atI_nat (j := 2) rfl, sa, sts, rfl, .inr hS, _, rfl, rfl, _, rfl, ?_⟩
          refine ite2 (fun z => ?_) (fun _ => ⟨_, _, _, rfl, s11.trans s12⟩)
          have z' : (!decide (V.int (sts.length : Int) = V.int (sts.length : Int))) = true := z
          rw [decide_eq_true rfl] at z'
          cases z'
        · exact absurd (show (!decide (V.int (sts.length : Int) = V.non)) = true by rw [decide_eq_false fun e => by cases e]; rfl) z
    · rintro σ H10 ⟨v5, v6, v7, rfl, s11⟩
      have s7x := s7T.trans s11
      have hD10 := s11 _ _ hDT
      refine ⟨_, rfl, D, _, 0, .ref m1, rfl, rfl, SqL.of hD10, atI_nat (j := 0) rfl, _, rfl, D, _, 0, .ref m1, rfl, rfl, SqL.of hD10, atI_nat (j := 0) rfl, m1, m1, ws, ys, ys, bs, rfl, pi17.same s7x, pi17.same s7x, th.asc, four, ly, ly, lb, three_two th th, fun H11 Ta s12 told => ?_⟩
      have sAll := (s46.trans s7).trans (s7x.trans s12)
      rcases told_least (three_two th th) Least.self told with ⟨_, tb, hT⟩ | ⟨fa, sa, sts, e, _, _⟩
      · refine ⟨Ta, _, 0, .str "alike", rfl, rfl, hT, atI_nat (j := 0) rfl, rfl, ?_⟩
        rw [decide_eq_true (rfl : V.str "alike" = V.str "alike")]
        exact k _ ((hj4.same sAll).mono (by omega)) (kH4.trans (K17.Same.keep sAll))
      · cases e
end
end K17

namespace K17
open PySem L2
abbrev sLaw : Stmt := top 59
structure TxtF (K : PySem.W.Frag) (mg : Str → Option Value) : Prop extends TxtN K mg where
  max : mg "max" = none
theorem seq_over {K : PySem.W.Frag} {H H5 H6 : Hp} {p a : Addr} {xs : List V} (s : Same H H5) (hp : H p = none) (k : Keep p H5 H6) (q : SqL K H a xs) : SqL K H6 a xs := by
  rcases q with (q | ⟨o, q⟩) | q
  · exact .inl (.inl (k _ _ (ne_of_none q hp) (s _ _ q)))
  · exact .inl (.inr ⟨o, k _ _ (ne_of_none q hp) (s _ _ q)⟩)
  · exact .inr q
section
variable {base : Heap} {P : Program} {w : World} {K : PySem.W.Frag} {mg : Str → Option Value}
def spLaw (K : PySem.W.Frag) : Sp := (fun vs H Q _ => ∃ (a : Addr) (ns : List Int), vs = [.ref a] ∧ SqL K H a (ns.map V.int) ∧ ns.length ≤ 63 ∧ ∀ H', Q (.bl true) H')
abbrev nLaw : List Str := ["_law_script", "_law_k", "_law_jar_here", "_law_turn"]
theorem scLaw : FnScope nLaw ["_law_script"] (defScope sLaw) := ⟨rfl, rfl, rfl, by decide +kernel, rfl, by decide +kernel, by decide +kernel⟩
theorem ok_law {f : Addr} {fd : FuncData} (F : Fun K "law" "law" sLaw f fd) (T : TxtF K mg) (GJ : Has P w K mg base "_law_jar" 1 ["_law_script", "_law_k"] (spJar K)) (GR : Has P w K mg base "_law_right" 9 ["_law_jar_here"] spRight) : FnG P w K mg base 10 f fd ["_law_script"] (spLaw K) := by
  refine K17.Fun.okG F scLaw (fun vs H Q E h => ?_) (fun cdv A outer s H vs Q E hgu hr h => ?_)
  · obtain ⟨a, ns, rfl, _⟩ := h
    rfl
  · obtain ⟨a, ns, rfl, hS, hn, k⟩ := h
    have r1 : Room 1 _ := hr.mono (by decide)
    refine ⟨_, pss_cons (ps_for PassesOwn.never rfl (pi_range1 (by rfl) T.range (pa_cons (pe_callB (call_max2 rfl) (by rfl) T.max (by decide +kernel) (pa_cons pe_int (pa_cons (pe_callB (call_min2 rfl) (by rfl) T.min (by decide +kernel)
          (pa_cons pe_int (pa_cons (pe_callB call_len_seq (by rfl) T.len PySem.boot_len (pa_cons (pv 0) pa_nil)) pa_nil))) pa_nil))) pa_nil)) (pg_name (i := 1) scLaw.nd rfl (.inl rfl))
        (pss_cons (ps_set (i := 2) scLaw.nd rfl (.inr rfl) (pe_has GJ r1 (pa_cons (pv 0) (pa_cons (pv 1) pa_nil))))
        (pss_one (ps_if (pt_not (pt_val (pe_callB (cr_all rfl) (by rfl) T.all (by decide +kernel) (pa_cons (pe_lc (own := [("_law_turn", 3)]) (g := gName 3) (tt := tYes) rfl scLaw.nd (pi_range1 (by rfl) T.range (pa_cons pe_int pa_nil))
          (blkOk_by (N := nLaw) (sc := defScope sLaw) (by decide +kernel)) (fun _ _ _ _ _ => pg_name (i := 3) scLaw.nd rfl (Or.inl rfl)) (fun _ _ _ _ _ => pts_nil)
          (fun _ _ _ _ _ => pe_has GR hr (pa_cons (pv 2) pa_nil))) pa_nil)))) (pss_one (ps_ret pe_bl)) pss_nil))))
      (pss_one (ps_ret pe_bl)), ?_⟩
    refine ⟨.ref a, rfl, a, _, rfl, .inl hS, ?_⟩
    refine ⟨3, _, rfl, 1, _, rfl, ?_⟩
    rw [List.length_map]
    obtain ⟨N, hN, N3⟩ : ∃ N : Nat, (if (if (ns.length : Int) < 3 then (ns.length : Int) else 3) > 1 then (if (ns.length : Int) < 3 then (ns.length : Int) else 3) else 1) = (N : Int) ∧ N ≤ 3 := by
      by_cases c : (ns.length : Int) < 3
      · rw [if_pos c]
        by_cases c2 : (ns.length : Int) > 1
        · rw [if_pos c2]
          exact ⟨ns.length, rfl, by omega⟩
        · rw [if_neg c2]
          exact ⟨1, rfl, by decide⟩
      · rw [if_neg c, if_pos (by decide)]
        exact ⟨3, rfl, by decide⟩
    rw [hN]
    refine ⟨_, rfl, by omega, by omega, for_range (lo := 0) (n := ((N : Nat) : Int).toNat) (fun i σ H' => ∃ v1 v2 v3 : Option V, σ = [some (.ref a), v1, v2, v3] ∧ SqL K H' a (ns.map V.int)) ⟨_, _, _, rfl, hS⟩ ?_ ?_⟩
    · rintro i σ H4 hi ⟨v1, v2, v3, rfl, h4⟩
      refine ⟨.ref a, rfl, .int (0 + (i : Int)), rfl, a, ns, 0 + (i : Int), rfl, h4, by omega, by omega, fun p H5 np s5 hj5 => ?_⟩
      refine ⟨_, rfl, by decide, by decide, fun D nD => ?_⟩
      have nDp := hj5.ne nD
      refine lc_range (lo := 0) (n := 4) (fun t H6 => Jar H6 p (100 * t) ∧ Keep p H5 H6 ∧ H6 D = some (.lst (List.replicate t (V.bl true)))) ⟨hj5.upd nDp, Keep.new nD, upd_same⟩ ?_ ?_
      · rintro t H6 ht ⟨hj6, kp6, hD⟩
        refine ⟨rfl, .ref p, rfl, p, 100 * t, rfl, hj6, by omega, fun H7 hj7 kp7 => ?_⟩
        refine ⟨_, kp7 _ _ nDp hD, by rw [List.length_replicate]; exact small1000 (by omega), (hj7.upd nDp).mono (by omega), (kp6.trans kp7).upd_new nD, ?_⟩
        rw [upd_same, List.replicate_succ']
      · rintro H6 ⟨hj6, kp6, hD⟩
        refine ⟨D, List.replicate 4 true, rfl, SqL.of hD, _, rfl, ?_⟩
        refine ite2 (fun z => absurd z (by decide)) (fun _ => ?_)
        exact ⟨_, _, _, rfl, seq_over s5 np kp6 h4⟩
    · rintro σ H4 ⟨v1, v2, v3, rfl, h4⟩
      exact k H4
end
end K17

namespace K17
open L2 PySem PySem.W PyProof.Rows
theorem dN_zip {T : Addr} {kV doc pm cdv ct : Value} {an : Option Addr} : ∀ us its : List Value, us.length = 2 → its.length = 1 →
    ∃ k, bindArgs (PySem.W.fnOf "search" "search" (defArgs (top 37)) (defBody (top 37)) (defScope (top 37)) (.ref T) kV doc pm an cdv ct) ⟨us, []⟩ = seqItems? (.ref T) >>= k ∧ k (some its.toArray) = pure ((["walk", "starts", "most"] : List Str).zip (us ++ its.drop 0))
  | [_, _], [_], _, _ => ⟨_, rfl, rfl⟩
theorem dN_one {ds : List Value} (h : L2.Vals (([V.non] : List V).drop 0) ds) : ds = [Value.none] := by
  cases h with
  | cons h1 h2 =>
    cases h1
    cases h2
    rfl
theorem all_mk {P : Program} {w : World} {K : PySem.W.Frag} {h : Heap} {mg : Str → Option Value} {fa : Addr} (X : K.In h) (G : h.Ns mainGlobals mg) (hfa : mg "law" = some (.ref fa))
    {CB C CR CW pW pO pQ pM pD pp2 pp3 pp4 : Addr} {tL t8 t4 tN tG tA : Tok}
    {f9 : Addr} {od9 an9 : Option Addr} {sl9 : Array (Option Value)} {oc9 kV9 dc9 pm9 cd9 ct9 : Value}
    {f10 : Addr} {od10 an10 : Option Addr} {sl10 : Array (Option Value)} {oc10 kV10 dc10 pm10 cd10 ct10 : Value}
    {f11 : Addr} {od11 an11 : Option Addr} {sl11 : Array (Option Value)} {oc11 kV11 dc11 pm11 cd11 ct11 : Value}
    {f17 : Addr} {od17 an17 : Option Addr} {sl17 : Array (Option Value)} {oc17 kV17 dc17 pm17 cd17 ct17 : Value}
    {f18 : Addr} {od18 an18 : Option Addr} {sl18 : Array (Option Value)} {oc18 kV18 dc18 pm18 cd18 ct18 : Value}
    {f19 : Addr} {od19 an19 : Option Addr} {sl19 : Array (Option Value)} {oc19 kV19 dc19 pm19 cd19 ct19 : Value}
    {f20 : Addr} {od20 an20 : Option Addr} {sl20 : Array (Option Value)} {oc20 kV20 dc20 pm20 cd20 ct20 : Value}
    {f21 : Addr} {od21 an21 : Option Addr} {sl21 : Array (Option Value)} {oc21 kV21 dc21 pm21 cd21 ct21 : Value}
    {f22 : Addr} {od22 an22 : Option Addr} {sl22 : Array (Option Value)} {oc22 kV22 dc22 pm22 cd22 ct22 : Value}
    {f26 : Addr} {od26 an26 : Option Addr} {sl26 : Array (Option Value)} {oc26 kV26 dc26 pm26 cd26 ct26 : Value}
    {f27 : Addr} {od27 an27 : Option Addr} {sl27 : Array (Option Value)} {oc27 kV27 dc27 pm27 cd27 ct27 : Value}
    {f28 : Addr} {od28 an28 : Option Addr} {sl28 : Array (Option Value)} {oc28 kV28 dc28 pm28 cd28 ct28 : Value}
    {f29 : Addr} {od29 an29 : Option Addr} {sl29 : Array (Option Value)} {oc29 kV29 dc29 pm29 cd29 ct29 : Value}
    {f34 : Addr} {od34 an34 : Option Addr} {sl34 : Array (Option Value)} {oc34 kV34 dc34 pm34 cd34 ct34 : Value}
    {f35 : Addr} {od35 an35 : Option Addr} {sl35 : Array (Option Value)} {oc35 kV35 dc35 pm35 cd35 ct35 : Value}
    {f37 : Addr} {od37 an37 : Option Addr} {sl37 : Array (Option Value)} {oc37 kV37 dc37 pm37 cd37 ct37 : Value}
    {f38 : Addr} {od38 an38 : Option Addr} {sl38 : Array (Option Value)} {oc38 kV38 dc38 pm38 cd38 ct38 : Value}
    {f41 : Addr} {od41 an41 : Option Addr} {sl41 : Array (Option Value)} {oc41 kV41 dc41 pm41 cd41 ct41 : Value}
    {f42 : Addr} {od42 an42 : Option Addr} {sl42 : Array (Option Value)} {oc42 kV42 dc42 pm42 cd42 ct42 : Value}
    {f43 : Addr} {od43 an43 : Option Addr} {sl43 : Array (Option Value)} {oc43 kV43 dc43 pm43 cd43 ct43 : Value}
    {f46 : Addr} {od46 an46 : Option Addr} {sl46 : Array (Option Value)} {oc46 kV46 dc46 pm46 cd46 ct46 : Value}
    {f47 : Addr} {od47 an47 : Option Addr} {sl47 : Array (Option Value)} {oc47 kV47 dc47 pm47 cd47 ct47 : Value}
    {f48 : Addr} {od48 an48 : Option Addr} {sl48 : Array (Option Value)} {oc48 kV48 dc48 pm48 cd48 ct48 : Value}
    {f50 : Addr} {od50 an50 : Option Addr} {sl50 : Array (Option Value)} {oc50 kV50 dc50 pm50 cd50 ct50 : Value}
    {f51 : Addr} {od51 an51 : Option Addr} {sl51 : Array (Option Value)} {oc51 kV51 dc51 pm51 cd51 ct51 : Value}
    {f52 : Addr} {od52 an52 : Option Addr} {sl52 : Array (Option Value)} {oc52 kV52 dc52 pm52 cd52 ct52 : Value}
    {f53 : Addr} {od53 an53 : Option Addr} {sl53 : Array (Option Value)} {oc53 kV53 dc53 pm53 cd53 ct53 : Value}
    {f54 : Addr} {od54 an54 : Option Addr} {sl54 : Array (Option Value)} {oc54 kV54 dc54 pm54 cd54 ct54 : Value}
    {f55 : Addr} {od55 an55 : Option Addr} {sl55 : Array (Option Value)} {oc55 kV55 dc55 pm55 cd55 ct55 : Value}
    {f56 : Addr} {od56 an56 : Option Addr} {sl56 : Array (Option Value)} {oc56 kV56 dc56 pm56 cd56 ct56 : Value}
    {f57 : Addr} {od57 an57 : Option Addr} {sl57 : Array (Option Value)} {oc57 kV57 dc57 pm57 cd57 ct57 : Value}
    {f58 : Addr} {od58 an58 : Option Addr} {sl58 : Array (Option Value)} {oc58 kV58 dc58 pm58 cd58 ct58 : Value}
    {f59 : Addr} {od59 an59 : Option Addr} {sl59 : Array (Option Value)} {oc59 kV59 dc59 pm59 cd59 ct59 : Value}
    {odD : Option Addr} {nD : Nat} {slD : Array (Option Value)} {ocD : Value}
    {rr2 rr3 rr4 : List Value}
    {fE : Addr} {odE anE : Option Addr} {slE : Array (Option Value)} {ocE kVE dcE pmE cdE ctE : Value}
    {fP : Addr} {odP anP : Option Addr} {slP : Array (Option Value)} {ocP kVP dcP pmP cdP ctP : Value}
    {fG2 : Addr} {odG2 anG2 : Option Addr} {slG2 : Array (Option Value)} {ocG2 kVG2 dcG2 pmG2 cdG2 ctG2 : Value}
    {fG3 : Addr} {odG3 anG3 : Option Addr} {slG3 : Array (Option Value)} {ocG3 kVG3 dcG3 pmG3 cdG3 ctG3 : Value}
    {fG4 : Addr} {odG4 anG4 : Option Addr} {slG4 : Array (Option Value)} {ocG4 kVG4 dcG4 pmG4 cdG4 ctG4 : Value}
    {fR0 : Addr} {odR0 anR0 : Option Addr} {slR0 : Array (Option Value)} {ocR0 kVR0 dcR0 pmR0 cdR0 ctR0 : Value}
    {fR1 : Addr} {odR1 anR1 : Option Addr} {slR1 : Array (Option Value)} {ocR1 kVR1 dcR1 pmR1 cdR1 ctR1 : Value}
    {fR2 : Addr} {odR2 anR2 : Option Addr} {slR2 : Array (Option Value)} {ocR2 kVR2 dcR2 pmR2 cdR2 ctR2 : Value}
    {fR3 : Addr} {odR3 anR3 : Option Addr} {slR3 : Array (Option Value)} {ocR3 kVR3 dcR3 pmR3 cdR3 ctR3 : Value}
    {fR4 : Addr} {odR4 anR4 : Option Addr} {slR4 : Array (Option Value)} {ocR4 kVR4 dcR4 pmR4 cdR4 ctR4 : Value}
    {fR5 : Addr} {odR5 anR5 : Option Addr} {slR5 : Array (Option Value)} {ocR5 kVR5 dcR5 pmR5 cdR5 ctR5 : Value}
    {fR6 : Addr} {odR6 anR6 : Option Addr} {slR6 : Array (Option Value)} {ocR6 kVR6 dcR6 pmR6 cdR6 ctR6 : Value}
    {fW0 : Addr} {odW0 anW0 : Option Addr} {slW0 : Array (Option Value)} {ocW0 kVW0 dcW0 pmW0 cdW0 ctW0 : Value}
    {fW1 : Addr} {odW1 anW1 : Option Addr} {slW1 : Array (Option Value)} {ocW1 kVW1 dcW1 pmW1 cdW1 ctW1 : Value}
    {fW2 : Addr} {odW2 anW2 : Option Addr} {slW2 : Array (Option Value)} {ocW2 kVW2 dcW2 pmW2 cdW2 ctW2 : Value}
    {fW3 : Addr} {odW3 anW3 : Option Addr} {slW3 : Array (Option Value)} {ocW3 kVW3 dcW3 pmW3 cdW3 ctW3 : Value}
    {fW4 : Addr} {odW4 anW4 : Option Addr} {slW4 : Array (Option Value)} {ocW4 kVW4 dcW4 pmW4 cdW4 ctW4 : Value}
    {wW0 wW1 wW2 wW3 : Tok} {odW : Option Addr} {nW : Nat} {slW : Array (Option Value)}
    {wO0 wO1 : Tok} {odO : Option Addr} {nO : Nat} {slO : Array (Option Value)}
    {wQ0 wQ1 wQ2 : Tok} {odQ : Option Addr} {nQ : Nat} {slQ : Array (Option Value)}
    {wM0 wM1 wM2 wM3 : Tok} {odM : Option Addr} {nM : Nat} {slM : Array (Option Value)}
    (a9 : PySem.W.nsIn K mainGlobals "lines_of" = some (some (.ref f9)))
    (l9 : K.lookup f9 = some ⟨oc9, od9, .func (PySem.W.fnOf "lines_of" "lines_of" (defArgs (top 9)) (defBody (top 9)) (defScope (top 9)) .none kV9 dc9 pm9 an9 cd9 ct9), sl9⟩)
    (c9 : PySem.W.codeIn K cd9 "lines_of" = true)
    (k9 : PySem.W.keepIn K (.ref f9) = true)
    (a10 : PySem.W.nsIn K mainGlobals "words_of" = some (some (.ref f10)))
    (l10 : K.lookup f10 = some ⟨oc10, od10, .func (PySem.W.fnOf "words_of" "words_of" (defArgs (top 10)) (defBody (top 10)) (defScope (top 10)) .none kV10 dc10 pm10 an10 cd10 ct10), sl10⟩)
    (c10 : PySem.W.codeIn K cd10 "words_of" = true)
    (k10 : PySem.W.keepIn K (.ref f10) = true)
    (a11 : PySem.W.nsIn K mainGlobals "is_name" = some (some (.ref f11)))
    (l11 : K.lookup f11 = some ⟨oc11, od11, .func (PySem.W.fnOf "is_name" "is_name" (defArgs (top 11)) (defBody (top 11)) (defScope (top 11)) .none kV11 dc11 pm11 an11 cd11 ct11), sl11⟩)
    (c11 : PySem.W.codeIn K cd11 "is_name" = true)
    (k11 : PySem.W.keepIn K (.ref f11) = true)
    (a17 : PySem.W.nsIn K mainGlobals "read_by" = some (some (.ref f17)))
    (l17 : K.lookup f17 = some ⟨oc17, od17, .func (PySem.W.fnOf "read_by" "read_by" (defArgs (top 17)) (defBody (top 17)) (defScope (top 17)) .none kV17 dc17 pm17 an17 cd17 ct17), sl17⟩)
    (c17 : PySem.W.codeIn K cd17 "read_by" = true)
    (k17 : PySem.W.keepIn K (.ref f17) = true)
    (a18 : PySem.W.nsIn K mainGlobals "opened_by" = some (some (.ref f18)))
    (l18 : K.lookup f18 = some ⟨oc18, od18, .func (PySem.W.fnOf "opened_by" "opened_by" (defArgs (top 18)) (defBody (top 18)) (defScope (top 18)) .none kV18 dc18 pm18 an18 cd18 ct18), sl18⟩)
    (c18 : PySem.W.codeIn K cd18 "opened_by" = true)
    (k18 : PySem.W.keepIn K (.ref f18) = true)
    (a19 : PySem.W.nsIn K mainGlobals "places_of" = some (some (.ref f19)))
    (l19 : K.lookup f19 = some ⟨oc19, od19, .func (PySem.W.fnOf "places_of" "places_of" (defArgs (top 19)) (defBody (top 19)) (defScope (top 19)) .none kV19 dc19 pm19 an19 cd19 ct19), sl19⟩)
    (c19 : PySem.W.codeIn K cd19 "places_of" = true)
    (k19 : PySem.W.keepIn K (.ref f19) = true)
    (a20 : PySem.W.nsIn K mainGlobals "renumbered" = some (some (.ref f20)))
    (l20 : K.lookup f20 = some ⟨oc20, od20, .func (PySem.W.fnOf "renumbered" "renumbered" (defArgs (top 20)) (defBody (top 20)) (defScope (top 20)) .none kV20 dc20 pm20 an20 cd20 ct20), sl20⟩)
    (c20 : PySem.W.codeIn K cd20 "renumbered" = true)
    (k20 : PySem.W.keepIn K (.ref f20) = true)
    (a21 : PySem.W.nsIn K mainGlobals "kept_beginnings" = some (some (.ref f21)))
    (l21 : K.lookup f21 = some ⟨oc21, od21, .func (PySem.W.fnOf "kept_beginnings" "kept_beginnings" (defArgs (top 21)) (defBody (top 21)) (defScope (top 21)) .none kV21 dc21 pm21 an21 cd21 ct21), sl21⟩)
    (c21 : PySem.W.codeIn K cd21 "kept_beginnings" = true)
    (k21 : PySem.W.keepIn K (.ref f21) = true)
    (a22 : PySem.W.nsIn K mainGlobals "all_tuples" = some (some (.ref f22)))
    (l22 : K.lookup f22 = some ⟨oc22, od22, .func (PySem.W.fnOf "all_tuples" "all_tuples" (defArgs (top 22)) (defBody (top 22)) (defScope (top 22)) .none kV22 dc22 pm22 an22 cd22 ct22), sl22⟩)
    (c22 : PySem.W.codeIn K cd22 "all_tuples" = true)
    (k22 : PySem.W.keepIn K (.ref f22) = true)
    (a26 : PySem.W.nsIn K mainGlobals "first_tail" = some (some (.ref f26)))
    (l26 : K.lookup f26 = some ⟨oc26, od26, .func (PySem.W.fnOf "first_tail" "first_tail" (defArgs (top 26)) (defBody (top 26)) (defScope (top 26)) .none kV26 dc26 pm26 an26 cd26 ct26), sl26⟩)
    (c26 : PySem.W.codeIn K cd26 "first_tail" = true)
    (k26 : PySem.W.keepIn K (.ref f26) = true)
    (a27 : PySem.W.nsIn K mainGlobals "first_rest" = some (some (.ref f27)))
    (l27 : K.lookup f27 = some ⟨oc27, od27, .func (PySem.W.fnOf "first_rest" "first_rest" (defArgs (top 27)) (defBody (top 27)) (defScope (top 27)) .none kV27 dc27 pm27 an27 cd27 ct27), sl27⟩)
    (c27 : PySem.W.codeIn K cd27 "first_rest" = true)
    (k27 : PySem.W.keepIn K (.ref f27) = true)
    (a28 : PySem.W.nsIn K mainGlobals "judged" = some (some (.ref f28)))
    (l28 : K.lookup f28 = some ⟨oc28, od28, .func (PySem.W.fnOf "judged" "judged" (defArgs (top 28)) (defBody (top 28)) (defScope (top 28)) .none kV28 dc28 pm28 an28 cd28 ct28), sl28⟩)
    (c28 : PySem.W.codeIn K cd28 "judged" = true)
    (k28 : PySem.W.keepIn K (.ref f28) = true)
    (a29 : PySem.W.nsIn K mainGlobals "rest_renumbered" = some (some (.ref f29)))
    (l29 : K.lookup f29 = some ⟨oc29, od29, .func (PySem.W.fnOf "rest_renumbered" "rest_renumbered" (defArgs (top 29)) (defBody (top 29)) (defScope (top 29)) .none kV29 dc29 pm29 an29 cd29 ct29), sl29⟩)
    (c29 : PySem.W.codeIn K cd29 "rest_renumbered" = true)
    (k29 : PySem.W.keepIn K (.ref f29) = true)
    (a34 : PySem.W.nsIn K mainGlobals "part_of" = some (some (.ref f34)))
    (l34 : K.lookup f34 = some ⟨oc34, od34, .func (PySem.W.fnOf "part_of" "part_of" (defArgs (top 34)) (defBody (top 34)) (defScope (top 34)) .none kV34 dc34 pm34 an34 cd34 ct34), sl34⟩)
    (c34 : PySem.W.codeIn K cd34 "part_of" = true)
    (k34 : PySem.W.keepIn K (.ref f34) = true)
    (a35 : PySem.W.nsIn K mainGlobals "read_parts" = some (some (.ref f35)))
    (l35 : K.lookup f35 = some ⟨oc35, od35, .func (PySem.W.fnOf "read_parts" "read_parts" (defArgs (top 35)) (defBody (top 35)) (defScope (top 35)) .none kV35 dc35 pm35 an35 cd35 ct35), sl35⟩)
    (c35 : PySem.W.codeIn K cd35 "read_parts" = true)
    (k35 : PySem.W.keepIn K (.ref f35) = true)
    (a37 : PySem.W.nsIn K mainGlobals "search" = some (some (.ref f37)))
    (l37 : K.lookup f37 = some ⟨oc37, od37, .func (PySem.W.fnOf "search" "search" (defArgs (top 37)) (defBody (top 37)) (defScope (top 37)) (.ref pD) kV37 dc37 pm37 an37 cd37 ct37), sl37⟩)
    (c37 : PySem.W.codeIn K cd37 "search" = true)
    (k37 : PySem.W.keepIn K (.ref f37) = true)
    (a38 : PySem.W.nsIn K mainGlobals "way_to" = some (some (.ref f38)))
    (l38 : K.lookup f38 = some ⟨oc38, od38, .func (PySem.W.fnOf "way_to" "way_to" (defArgs (top 38)) (defBody (top 38)) (defScope (top 38)) .none kV38 dc38 pm38 an38 cd38 ct38), sl38⟩)
    (c38 : PySem.W.codeIn K cd38 "way_to" = true)
    (k38 : PySem.W.keepIn K (.ref f38) = true)
    (a41 : PySem.W.nsIn K mainGlobals "told_event" = some (some (.ref f41)))
    (l41 : K.lookup f41 = some ⟨oc41, od41, .func (PySem.W.fnOf "told_event" "told_event" (defArgs (top 41)) (defBody (top 41)) (defScope (top 41)) .none kV41 dc41 pm41 an41 cd41 ct41), sl41⟩)
    (c41 : PySem.W.codeIn K cd41 "told_event" = true)
    (k41 : PySem.W.keepIn K (.ref f41) = true)
    (a42 : PySem.W.nsIn K mainGlobals "after" = some (some (.ref f42)))
    (l42 : K.lookup f42 = some ⟨oc42, od42, .func (PySem.W.fnOf "after" "after" (defArgs (top 42)) (defBody (top 42)) (defScope (top 42)) .none kV42 dc42 pm42 an42 cd42 ct42), sl42⟩)
    (c42 : PySem.W.codeIn K cd42 "after" = true)
    (k42 : PySem.W.keepIn K (.ref f42) = true)
    (a43 : PySem.W.nsIn K mainGlobals "after_own" = some (some (.ref f43)))
    (l43 : K.lookup f43 = some ⟨oc43, od43, .func (PySem.W.fnOf "after_own" "after_own" (defArgs (top 43)) (defBody (top 43)) (defScope (top 43)) .none kV43 dc43 pm43 an43 cd43 ct43), sl43⟩)
    (c43 : PySem.W.codeIn K cd43 "after_own" = true)
    (k43 : PySem.W.keepIn K (.ref f43) = true)
    (a46 : PySem.W.nsIn K mainGlobals "alike_all" = some (some (.ref f46)))
    (l46 : K.lookup f46 = some ⟨oc46, od46, .func (PySem.W.fnOf "alike_all" "alike_all" (defArgs (top 46)) (defBody (top 46)) (defScope (top 46)) .none kV46 dc46 pm46 an46 cd46 ct46), sl46⟩)
    (c46 : PySem.W.codeIn K cd46 "alike_all" = true)
    (k46 : PySem.W.keepIn K (.ref f46) = true)
    (a47 : PySem.W.nsIn K mainGlobals "two_walk" = some (some (.ref f47)))
    (l47 : K.lookup f47 = some ⟨oc47, od47, .func (PySem.W.fnOf "two_walk" "two_walk" (defArgs (top 47)) (defBody (top 47)) (defScope (top 47)) .none kV47 dc47 pm47 an47 cd47 ct47), sl47⟩)
    (c47 : PySem.W.codeIn K cd47 "two_walk" = true)
    (k47 : PySem.W.keepIn K (.ref f47) = true)
    (a48 : PySem.W.nsIn K mainGlobals "told_search" = some (some (.ref f48)))
    (l48 : K.lookup f48 = some ⟨oc48, od48, .func (PySem.W.fnOf "told_search" "told_search" (defArgs (top 48)) (defBody (top 48)) (defScope (top 48)) .none kV48 dc48 pm48 an48 cd48 ct48), sl48⟩)
    (c48 : PySem.W.codeIn K cd48 "told_search" = true)
    (k48 : PySem.W.keepIn K (.ref f48) = true)
    (a50 : PySem.W.nsIn K mainGlobals "_law_jar" = some (some (.ref f50)))
    (l50 : K.lookup f50 = some ⟨oc50, od50, .func (PySem.W.fnOf "_law_jar" "_law_jar" (defArgs (top 50)) (defBody (top 50)) (defScope (top 50)) .none kV50 dc50 pm50 an50 cd50 ct50), sl50⟩)
    (c50 : PySem.W.codeIn K cd50 "_law_jar" = true)
    (k50 : PySem.W.keepIn K (.ref f50) = true)
    (a51 : PySem.W.nsIn K mainGlobals "_law_take" = some (some (.ref f51)))
    (l51 : K.lookup f51 = some ⟨oc51, od51, .func (PySem.W.fnOf "_law_take" "_law_take" (defArgs (top 51)) (defBody (top 51)) (defScope (top 51)) .none kV51 dc51 pm51 an51 cd51 ct51), sl51⟩)
    (c51 : PySem.W.codeIn K cd51 "_law_take" = true)
    (k51 : PySem.W.keepIn K (.ref f51) = true)
    (a52 : PySem.W.nsIn K mainGlobals "_law_of" = some (some (.ref f52)))
    (l52 : K.lookup f52 = some ⟨oc52, od52, .func (PySem.W.fnOf "_law_of" "_law_of" (defArgs (top 52)) (defBody (top 52)) (defScope (top 52)) .none kV52 dc52 pm52 an52 cd52 ct52), sl52⟩)
    (c52 : PySem.W.codeIn K cd52 "_law_of" = true)
    (k52 : PySem.W.keepIn K (.ref f52) = true)
    (a53 : PySem.W.nsIn K mainGlobals "_law_names" = some (some (.ref f53)))
    (l53 : K.lookup f53 = some ⟨oc53, od53, .func (PySem.W.fnOf "_law_names" "_law_names" (defArgs (top 53)) (defBody (top 53)) (defScope (top 53)) .none kV53 dc53 pm53 an53 cd53 ct53), sl53⟩)
    (c53 : PySem.W.codeIn K cd53 "_law_names" = true)
    (k53 : PySem.W.keepIn K (.ref f53) = true)
    (a54 : PySem.W.nsIn K mainGlobals "_law_plan" = some (some (.ref f54)))
    (l54 : K.lookup f54 = some ⟨oc54, od54, .func (PySem.W.fnOf "_law_plan" "_law_plan" (defArgs (top 54)) (defBody (top 54)) (defScope (top 54)) .none kV54 dc54 pm54 an54 cd54 ct54), sl54⟩)
    (c54 : PySem.W.codeIn K cd54 "_law_plan" = true)
    (k54 : PySem.W.keepIn K (.ref f54) = true)
    (a55 : PySem.W.nsIn K mainGlobals "_law_plan_lines" = some (some (.ref f55)))
    (l55 : K.lookup f55 = some ⟨oc55, od55, .func (PySem.W.fnOf "_law_plan_lines" "_law_plan_lines" (defArgs (top 55)) (defBody (top 55)) (defScope (top 55)) .none kV55 dc55 pm55 an55 cd55 ct55), sl55⟩)
    (c55 : PySem.W.codeIn K cd55 "_law_plan_lines" = true)
    (k55 : PySem.W.keepIn K (.ref f55) = true)
    (a56 : PySem.W.nsIn K mainGlobals "_law_pair" = some (some (.ref f56)))
    (l56 : K.lookup f56 = some ⟨oc56, od56, .func (PySem.W.fnOf "_law_pair" "_law_pair" (defArgs (top 56)) (defBody (top 56)) (defScope (top 56)) .none kV56 dc56 pm56 an56 cd56 ct56), sl56⟩)
    (c56 : PySem.W.codeIn K cd56 "_law_pair" = true)
    (k56 : PySem.W.keepIn K (.ref f56) = true)
    (a57 : PySem.W.nsIn K mainGlobals "_law_least" = some (some (.ref f57)))
    (l57 : K.lookup f57 = some ⟨oc57, od57, .func (PySem.W.fnOf "_law_least" "_law_least" (defArgs (top 57)) (defBody (top 57)) (defScope (top 57)) .none kV57 dc57 pm57 an57 cd57 ct57), sl57⟩)
    (c57 : PySem.W.codeIn K cd57 "_law_least" = true)
    (k57 : PySem.W.keepIn K (.ref f57) = true)
    (a58 : PySem.W.nsIn K mainGlobals "_law_right" = some (some (.ref f58)))
    (l58 : K.lookup f58 = some ⟨oc58, od58, .func (PySem.W.fnOf "_law_right" "_law_right" (defArgs (top 58)) (defBody (top 58)) (defScope (top 58)) .none kV58 dc58 pm58 an58 cd58 ct58), sl58⟩)
    (c58 : PySem.W.codeIn K cd58 "_law_right" = true)
    (k58 : PySem.W.keepIn K (.ref f58) = true)
    (a59 : PySem.W.nsIn K mainGlobals "law" = some (some (.ref f59)))
    (l59 : K.lookup f59 = some ⟨oc59, od59, .func (PySem.W.fnOf "law" "law" (defArgs (top 59)) (defBody (top 59)) (defScope (top 59)) .none kV59 dc59 pm59 an59 cd59 ct59), sl59⟩)
    (c59 : PySem.W.codeIn K cd59 "law" = true)
    (k59 : PySem.W.keepIn K (.ref f59) = true)
    (lD : K.lookup pD = some ⟨ocD, odD, .seq #[.none] nD, slD⟩)
    (nCB : PySem.W.nsIn K mainGlobals "BadText" = some (some (.ref CB)))
    (nC : PySem.W.nsIn K mainGlobals "Plan" = some (some (.ref C)))
    (nCR : PySem.W.nsIn K mainGlobals "Road" = some (some (.ref CR)))
    (nCW : PySem.W.nsIn K mainGlobals "PlanWalk" = some (some (.ref CW)))
    (eE : PySem.W.findIn K (.ref CB) "__init__" = some (some (.ref fE)))
    (tE : PySem.W.typeIn K (.ref fE) = some (.type "function"))
    (eP : PySem.W.findIn K (.ref C) "__init__" = some (some (.ref fP)))
    (iP : PySem.W.isFn K (.ref fP) = true)
    (eR0 : PySem.W.findIn K (.ref CR) "__init__" = some (some (.ref fR0)))
    (iR0 : PySem.W.isFn K (.ref fR0) = true)
    (eW0 : PySem.W.findIn K (.ref CW) "__init__" = some (some (.ref fW0)))
    (iW0 : PySem.W.isFn K (.ref fW0) = true)
    (eR1 : PySem.W.findIn K (.ref CR) "reads" = some (some (.ref fR1)))
    (iR1 : PySem.W.isFn K (.ref fR1) = true)
    (eR2 : PySem.W.findIn K (.ref CR) "opened" = some (some (.ref fR2)))
    (iR2 : PySem.W.isFn K (.ref fR2) = true)
    (eR3 : PySem.W.findIn K (.ref CR) "begun" = some (some (.ref fR3)))
    (iR3 : PySem.W.isFn K (.ref fR3) = true)
    (eR4 : PySem.W.findIn K (.ref CR) "taken" = some (some (.ref fR4)))
    (iR4 : PySem.W.isFn K (.ref fR4) = true)
    (eR5 : PySem.W.findIn K (.ref CR) "renewed" = some (some (.ref fR5)))
    (iR5 : PySem.W.isFn K (.ref fR5) = true)
    (eR6 : PySem.W.findIn K (.ref CR) "held" = some (some (.ref fR6)))
    (iR6 : PySem.W.isFn K (.ref fR6) = true)
    (eW1 : PySem.W.findIn K (.ref CW) "starts" = some (some (.ref fW1)))
    (iW1 : PySem.W.isFn K (.ref fW1) = true)
    (eW2 : PySem.W.findIn K (.ref CW) "moves" = some (some (.ref fW2)))
    (iW2 : PySem.W.isFn K (.ref fW2) = true)
    (eW3 : PySem.W.findIn K (.ref CW) "reading" = some (some (.ref fW3)))
    (iW3 : PySem.W.isFn K (.ref fW3) = true)
    (eW4 : PySem.W.findIn K (.ref CW) "settled" = some (some (.ref fW4)))
    (iW4 : PySem.W.isFn K (.ref fW4) = true)
    (pa2 : PySem.W.findIn K (.ref C) "parts" = some (some (.ref pp2)))
    (pg2 : PySem.W.specialIn K (.ref pp2) "__get__" = some (some (.builtin "property.__get__")))
    (pt2 : PySem.W.takesIn K (.ref pp2) = some true)
    (pr2 : PySem.W.recIn K pp2 "property" = some (.ref fG2 :: rr2))
    (pa3 : PySem.W.findIn K (.ref C) "ways" = some (some (.ref pp3)))
    (pg3 : PySem.W.specialIn K (.ref pp3) "__get__" = some (some (.builtin "property.__get__")))
    (pt3 : PySem.W.takesIn K (.ref pp3) = some true)
    (pr3 : PySem.W.recIn K pp3 "property" = some (.ref fG3 :: rr3))
    (pa4 : PySem.W.findIn K (.ref C) "takes" = some (some (.ref pp4)))
    (pg4 : PySem.W.specialIn K (.ref pp4) "__get__" = some (some (.builtin "property.__get__")))
    (pt4 : PySem.W.takesIn K (.ref pp4) = some true)
    (pr4 : PySem.W.recIn K pp4 "property" = some (.ref fG4 :: rr4))
    (lE : K.lookup fE = some ⟨ocE, odE, .func (PySem.W.fnOf "__init__" "SettledError.__init__" (defArgs (inClass (top 2) 0)) (defBody (inClass (top 2) 0)) (defScope (inClass (top 2) 0)) .none kVE dcE pmE anE cdE ctE), slE⟩)
    (cE : PySem.W.codeIn K cdE "SettledError.__init__" = true)
    (kE : PySem.W.keepIn K (.ref fE) = true)
    (lP : K.lookup fP = some ⟨ocP, odP, .func (PySem.W.fnOf "__init__" "Plan.__init__" (defArgs (inClass (top 33) 0)) (defBody (inClass (top 33) 0)) (defScope (inClass (top 33) 0)) .none kVP dcP pmP anP cdP ctP), slP⟩)
    (cP : PySem.W.codeIn K cdP "Plan.__init__" = true)
    (kP : PySem.W.keepIn K (.ref fP) = true)
    (lG2 : K.lookup fG2 = some ⟨ocG2, odG2, .func (PySem.W.fnOf "parts" "Plan.parts" (defArgs (inClass (top 33) 2)) (defBody (inClass (top 33) 2)) (defScope (inClass (top 33) 2)) .none kVG2 dcG2 pmG2 anG2 cdG2 ctG2), slG2⟩)
    (cG2 : PySem.W.codeIn K cdG2 "Plan.parts" = true)
    (kG2 : PySem.W.keepIn K (.ref fG2) = true)
    (lG3 : K.lookup fG3 = some ⟨ocG3, odG3, .func (PySem.W.fnOf "ways" "Plan.ways" (defArgs (inClass (top 33) 3)) (defBody (inClass (top 33) 3)) (defScope (inClass (top 33) 3)) .none kVG3 dcG3 pmG3 anG3 cdG3 ctG3), slG3⟩)
    (cG3 : PySem.W.codeIn K cdG3 "Plan.ways" = true)
    (kG3 : PySem.W.keepIn K (.ref fG3) = true)
    (lG4 : K.lookup fG4 = some ⟨ocG4, odG4, .func (PySem.W.fnOf "takes" "Plan.takes" (defArgs (inClass (top 33) 4)) (defBody (inClass (top 33) 4)) (defScope (inClass (top 33) 4)) .none kVG4 dcG4 pmG4 anG4 cdG4 ctG4), slG4⟩)
    (cG4 : PySem.W.codeIn K cdG4 "Plan.takes" = true)
    (kG4 : PySem.W.keepIn K (.ref fG4) = true)
    (lR0 : K.lookup fR0 = some ⟨ocR0, odR0, .func (PySem.W.fnOf "__init__" "Road.__init__" (defArgs (inClass (top 16) 0)) (defBody (inClass (top 16) 0)) (defScope (inClass (top 16) 0)) .none kVR0 dcR0 pmR0 anR0 cdR0 ctR0), slR0⟩)
    (cR0 : PySem.W.codeIn K cdR0 "Road.__init__" = true)
    (kR0 : PySem.W.keepIn K (.ref fR0) = true)
    (lR1 : K.lookup fR1 = some ⟨ocR1, odR1, .func (PySem.W.fnOf "reads" "Road.reads" (defArgs (inClass (top 16) 1)) (defBody (inClass (top 16) 1)) (defScope (inClass (top 16) 1)) .none kVR1 dcR1 pmR1 anR1 cdR1 ctR1), slR1⟩)
    (cR1 : PySem.W.codeIn K cdR1 "Road.reads" = true)
    (kR1 : PySem.W.keepIn K (.ref fR1) = true)
    (lR2 : K.lookup fR2 = some ⟨ocR2, odR2, .func (PySem.W.fnOf "opened" "Road.opened" (defArgs (inClass (top 16) 2)) (defBody (inClass (top 16) 2)) (defScope (inClass (top 16) 2)) .none kVR2 dcR2 pmR2 anR2 cdR2 ctR2), slR2⟩)
    (cR2 : PySem.W.codeIn K cdR2 "Road.opened" = true)
    (kR2 : PySem.W.keepIn K (.ref fR2) = true)
    (lR3 : K.lookup fR3 = some ⟨ocR3, odR3, .func (PySem.W.fnOf "begun" "Road.begun" (defArgs (inClass (top 16) 3)) (defBody (inClass (top 16) 3)) (defScope (inClass (top 16) 3)) .none kVR3 dcR3 pmR3 anR3 cdR3 ctR3), slR3⟩)
    (cR3 : PySem.W.codeIn K cdR3 "Road.begun" = true)
    (kR3 : PySem.W.keepIn K (.ref fR3) = true)
    (lR4 : K.lookup fR4 = some ⟨ocR4, odR4, .func (PySem.W.fnOf "taken" "Road.taken" (defArgs (inClass (top 16) 4)) (defBody (inClass (top 16) 4)) (defScope (inClass (top 16) 4)) .none kVR4 dcR4 pmR4 anR4 cdR4 ctR4), slR4⟩)
    (cR4 : PySem.W.codeIn K cdR4 "Road.taken" = true)
    (kR4 : PySem.W.keepIn K (.ref fR4) = true)
    (lR5 : K.lookup fR5 = some ⟨ocR5, odR5, .func (PySem.W.fnOf "renewed" "Road.renewed" (defArgs (inClass (top 16) 5)) (defBody (inClass (top 16) 5)) (defScope (inClass (top 16) 5)) .none kVR5 dcR5 pmR5 anR5 cdR5 ctR5), slR5⟩)
    (cR5 : PySem.W.codeIn K cdR5 "Road.renewed" = true)
    (kR5 : PySem.W.keepIn K (.ref fR5) = true)
    (lR6 : K.lookup fR6 = some ⟨ocR6, odR6, .func (PySem.W.fnOf "held" "Road.held" (defArgs (inClass (top 16) 6)) (defBody (inClass (top 16) 6)) (defScope (inClass (top 16) 6)) .none kVR6 dcR6 pmR6 anR6 cdR6 ctR6), slR6⟩)
    (cR6 : PySem.W.codeIn K cdR6 "Road.held" = true)
    (kR6 : PySem.W.keepIn K (.ref fR6) = true)
    (lW0 : K.lookup fW0 = some ⟨ocW0, odW0, .func (PySem.W.fnOf "__init__" "PlanWalk.__init__" (defArgs (inClass (top 44) 0)) (defBody (inClass (top 44) 0)) (defScope (inClass (top 44) 0)) .none kVW0 dcW0 pmW0 anW0 cdW0 ctW0), slW0⟩)
    (cW0 : PySem.W.codeIn K cdW0 "PlanWalk.__init__" = true)
    (kW0 : PySem.W.keepIn K (.ref fW0) = true)
    (lW1 : K.lookup fW1 = some ⟨ocW1, odW1, .func (PySem.W.fnOf "starts" "PlanWalk.starts" (defArgs (inClass (top 44) 1)) (defBody (inClass (top 44) 1)) (defScope (inClass (top 44) 1)) .none kVW1 dcW1 pmW1 anW1 cdW1 ctW1), slW1⟩)
    (cW1 : PySem.W.codeIn K cdW1 "PlanWalk.starts" = true)
    (kW1 : PySem.W.keepIn K (.ref fW1) = true)
    (lW2 : K.lookup fW2 = some ⟨ocW2, odW2, .func (PySem.W.fnOf "moves" "PlanWalk.moves" (defArgs (inClass (top 44) 2)) (defBody (inClass (top 44) 2)) (defScope (inClass (top 44) 2)) .none kVW2 dcW2 pmW2 anW2 cdW2 ctW2), slW2⟩)
    (cW2 : PySem.W.codeIn K cdW2 "PlanWalk.moves" = true)
    (kW2 : PySem.W.keepIn K (.ref fW2) = true)
    (lW3 : K.lookup fW3 = some ⟨ocW3, odW3, .func (PySem.W.fnOf "reading" "PlanWalk.reading" (defArgs (inClass (top 44) 3)) (defBody (inClass (top 44) 3)) (defScope (inClass (top 44) 3)) .none kVW3 dcW3 pmW3 anW3 cdW3 ctW3), slW3⟩)
    (cW3 : PySem.W.codeIn K cdW3 "PlanWalk.reading" = true)
    (kW3 : PySem.W.keepIn K (.ref fW3) = true)
    (lW4 : K.lookup fW4 = some ⟨ocW4, odW4, .func (PySem.W.fnOf "settled" "PlanWalk.settled" (defArgs (inClass (top 44) 4)) (defBody (inClass (top 44) 4)) (defScope (inClass (top 44) 4)) .none kVW4 dcW4 pmW4 anW4 cdW4 ctW4), slW4⟩)
    (cW4 : PySem.W.codeIn K cdW4 "PlanWalk.settled" = true)
    (kW4 : PySem.W.keepIn K (.ref fW4) = true)
    (pgC : PySem.W.plainGet K C Str.empty = true)
    (hdC : PySem.W.hasDictIn K C = true)
    (poC : PySem.W.plainOver K C = true)
    (saC : PySem.W.findIn K (.ref C) "__setattr__" = some (some (.builtin "object.__setattr__")))
    (mkC : PySem.W.makesIn K C = true)
    (kpC : PySem.W.keepIn K (.ref C) = true)
    (pgCR : PySem.W.plainGet K CR Str.empty = true)
    (hdCR : PySem.W.hasDictIn K CR = true)
    (poCR : PySem.W.plainOver K CR = true)
    (saCR : PySem.W.findIn K (.ref CR) "__setattr__" = some (some (.builtin "object.__setattr__")))
    (mkCR : PySem.W.makesIn K CR = true)
    (kpCR : PySem.W.keepIn K (.ref CR) = true)
    (pgCW : PySem.W.plainGet K CW Str.empty = true)
    (hdCW : PySem.W.hasDictIn K CW = true)
    (poCW : PySem.W.plainOver K CW = true)
    (saCW : PySem.W.findIn K (.ref CW) "__setattr__" = some (some (.builtin "object.__setattr__")))
    (mkCW : PySem.W.makesIn K CW = true)
    (kpCW : PySem.W.keepIn K (.ref CW) = true)
    (zC1 : PySem.W.findIn K (.ref C) "_text" = some none)
    (zC2 : PySem.W.findIn K (.ref C) "_parts" = some none)
    (zC3 : PySem.W.findIn K (.ref C) "_ways" = some none)
    (zC4 : PySem.W.findIn K (.ref C) "_takes" = some none)
    (zCR1 : PySem.W.findIn K (.ref CR) "many" = some none)
    (zCR2 : PySem.W.findIn K (.ref CR) "part_names" = some none)
    (zCR3 : PySem.W.findIn K (.ref CR) "may_take" = some none)
    (zCR4 : PySem.W.findIn K (.ref CR) "part_ways" = some none)
    (zCR5 : PySem.W.findIn K (.ref CR) "keeping" = some none)
    (zCW1 : PySem.W.findIn K (.ref CW) "road" = some none)
    (zCW2 : PySem.W.findIn K (.ref CW) "aim" = some none)
    (zCW3 : PySem.W.findIn K (.ref CW) "doors" = some none)
    (zCW4 : PySem.W.findIn K (.ref CW) "quiet_events" = some none)
    (xsa : PySem.W.findIn K (.ref CB) "__setattr__" = some (some (.builtin "object.__setattr__")))
    (xex : PySem.W.subIn K (.ref CB) (.type "BaseException") = some true)
    (xty : PySem.W.typeIn K (.ref CB) = some (.type "type"))
    (xkp : PySem.W.keepIn K (.ref CB) = true)
    (xnv : PySem.W.findIn K (.ref CB) "value" = some none)
    (gL : PySem.W.nsIn K mainGlobals "LETTERS" = some (some (.str (PySem.Str.ofString "abcdefghijklmnopqrstuvwxyz") tL)))
    (g8 : PySem.W.nsIn K mainGlobals "LONGEST_NAME" = some (some (.int 8 t8)))
    (g4 : PySem.W.nsIn K mainGlobals "MOST_PARTS" = some (some (.int 4 t4)))
    (gN : PySem.W.nsIn K mainGlobals "NONE" = some (some (.int (-1) tN)))
    (gG : PySem.W.nsIn K mainGlobals "GONE" = some (some (.int (-2) tG)))
    (gW : PySem.W.nsIn K mainGlobals "WAYS" = some (some (.ref pW)))
    (gO : PySem.W.nsIn K mainGlobals "OWNING" = some (some (.ref pO)))
    (gQ : PySem.W.nsIn K mainGlobals "QUIET_WORDS" = some (some (.ref pQ)))
    (gM : PySem.W.nsIn K mainGlobals "PLAIN_MANNERS" = some (some (.ref pM)))
    (gA : PySem.W.nsIn K mainGlobals "ALIKE" = some (some (.str (PySem.Str.ofString "alike") tA)))
    (b_int : PySem.W.nsIn K mainGlobals "int" = some none)
    (b_abs : PySem.W.nsIn K mainGlobals "abs" = some none)
    (b_len : PySem.W.nsIn K mainGlobals "len" = some none)
    (b_range : PySem.W.nsIn K mainGlobals "range" = some none)
    (b_all : PySem.W.nsIn K mainGlobals "all" = some none)
    (b_isinstance : PySem.W.nsIn K mainGlobals "isinstance" = some none)
    (b_str : PySem.W.nsIn K mainGlobals "str" = some none)
    (b_enumerate : PySem.W.nsIn K mainGlobals "enumerate" = some none)
    (b_list : PySem.W.nsIn K mainGlobals "list" = some none)
    (b_zip : PySem.W.nsIn K mainGlobals "zip" = some none)
    (b_bool : PySem.W.nsIn K mainGlobals "bool" = some none)
    (b_tuple : PySem.W.nsIn K mainGlobals "tuple" = some none)
    (b_dict : PySem.W.nsIn K mainGlobals "dict" = some none)
    (b_sorted : PySem.W.nsIn K mainGlobals "sorted" = some none)
    (b_max : PySem.W.nsIn K mainGlobals "max" = some none)
    (b_min : PySem.W.nsIn K mainGlobals "min" = some none)
    (b_set : PySem.W.nsIn K mainGlobals "set" = some none)
    (b_any : PySem.W.nsIn K mainGlobals "any" = some none)
    (xcl : ∃ nm q N bs bm sn sub ab col dd k0 k1 k2 k3 k5, K.lookup CB = some (excClassObj nm q CB N bs bm true sn sub ab col dd k0 k1 k2 k3 k5 "ValueError.__new__") ∧ PySem.HandSPX.refsVE bm = true)
    (chC : PySem.W.findIn K (.ref C) "__class__" = some (some (.builtin "object.__class__")))
    (cmC : PySem.W.mroIn K C (.type "object") = some true)
    (kkC : PySem.W.kitOne K (.ref C) (.ref C) = some true)
    (chn : PySem.W.specialIn K (.builtin "object.__class__") "__get__" = some (some (.builtin "getset_descriptor.__get__")))
    (cht : PySem.W.takesIn K (.builtin "object.__class__") = some true)
    (lW : K.lookup pW = some ⟨.type "tuple", odW, .seq #[.str (PySem.Str.ofString "fresh") wW0, .str (PySem.Str.ofString "once") wW1, .str (PySem.Str.ofString "handed") wW2, .str (PySem.Str.ofString "kept") wW3] nW, slW⟩)
    (lO : K.lookup pO = some ⟨.type "tuple", odO, .seq #[.str (PySem.Str.ofString "once") wO0, .str (PySem.Str.ofString "handed") wO1] nO, slO⟩)
    (lQ : K.lookup pQ = some ⟨.type "tuple", odQ, .seq #[.str (PySem.Str.ofString "take") wQ0, .str (PySem.Str.ofString "back") wQ1, .str (PySem.Str.ofString "install") wQ2] nQ, slQ⟩)
    (lM : K.lookup pM = some ⟨.type "tuple", odM, .seq #[.str (PySem.Str.ofString "begun") wM0, .str (PySem.Str.ofString "each") wM1, .str (PySem.Str.ofString "forward") wM2, .str (PySem.Str.ofString "one") wM3] nM, slM⟩)
    : ∃ fd : FuncData, (∀ (s : Shared) (v : Value), BindsTo s fd ⟨[v], []⟩ [("_law_script", v)]) ∧ ∀ base : Heap, K.In base → base.Ns mainGlobals mg → FnG P w K mg base 10 fa fd ["_law_script"] (spLaw K) := by
  have e := hfa.symm.trans (mg_of X G a59)
  cases e
  have sW : SqT K (fun _ => none) pW ([.str "fresh", .str "once", .str "handed", .str "kept"] : List V) := .inr ⟨_, _, _, lW, rfl, rfl, by show 4 ≤ sizeLine; decide, .cons ⟨wW0, rfl⟩ (.cons ⟨wW1, rfl⟩ (.cons ⟨wW2, rfl⟩ (.cons ⟨wW3, rfl⟩ .nil)))⟩
  have sO : SqT K (fun _ => none) pO ([.str "once", .str "handed"] : List V) := .inr ⟨_, _, _, lO, rfl, rfl, by show 2 ≤ sizeLine; decide, .cons ⟨wO0, rfl⟩ (.cons ⟨wO1, rfl⟩ .nil)⟩
  have sQ : SqT K (fun _ => none) pQ ([.str "take", .str "back", .str "install"] : List V) := .inr ⟨_, _, _, lQ, rfl, rfl, by show 3 ≤ sizeLine; decide, .cons ⟨wQ0, rfl⟩ (.cons ⟨wQ1, rfl⟩ (.cons ⟨wQ2, rfl⟩ .nil))⟩
  have sM : SqT K (fun _ => none) pM ([.str "begun", .str "each", .str "forward", .str "one"] : List V) := .inr ⟨_, _, _, lM, rfl, rfl, by show 4 ≤ sizeLine; decide, .cons ⟨wM0, rfl⟩ (.cons ⟨wM1, rfl⟩ (.cons ⟨wM2, rfl⟩ (.cons ⟨wM3, rfl⟩ .nil)))⟩
  have T0 : Txt0 mg := ⟨mg_none_of X G b_int, mg_none_of X G b_abs, mg_none_of X G b_len⟩
  have T1 : Txt1 mg := ⟨T0, mg_none_of X G b_range⟩
  have T2 : Txt2 K mg := ⟨T1, mg_none_of X G b_all, ⟨_, mg_of X G gL⟩, ⟨_, mg_of X G g8⟩, mg_none_of X G b_isinstance, mg_none_of X G b_str⟩
  have T3 : Txt3 K mg := ⟨T2, ⟨_, mg_of X G gW, sW⟩⟩
  have T4 : Txt4 K mg := ⟨T3, mg_none_of X G b_enumerate, ⟨_, mg_of X G g4⟩⟩
  have T5 : Txt5 K mg := ⟨T4, mg_none_of X G b_list, mg_none_of X G b_zip⟩
  have TA : TxtA K mg := ⟨T5, mg_none_of X G b_bool, mg_none_of X G b_tuple, ⟨_, mg_of X G gN⟩, ⟨_, mg_of X G gO, sO⟩⟩
  have TB : TxtB K mg := ⟨TA, mg_none_of X G b_enumerate⟩
  have TC : TxtC K mg := ⟨TB⟩
  have TE : TxtE K mg := ⟨TC, mg_none_of X G b_dict, mg_none_of X G b_sorted⟩
  have TX : TxtX K mg := ⟨TE, mg_none_of X G b_set, ⟨_, mg_of X G gG⟩, ⟨_, mg_of X G gQ, sQ⟩, ⟨_, mg_of X G gM, sM⟩, ⟨_, mg_of X G gA⟩⟩
  have TN : TxtN K mg := ⟨TX, mg_none_of X G b_any, mg_none_of X G b_min⟩
  have TF : TxtF K mg := ⟨TN, mg_none_of X G b_max⟩
  have F59 := fun_mk (st := top 59) l59 c59 k59
  refine ⟨PySem.W.fnOf "law" "law" (defArgs (top 59)) (defBody (top 59)) (defScope (top 59)) .none kV59 dc59 pm59 an59 cd59 ct59, fun s v => .of_eq rfl, fun base _ _ => ?_⟩
  have F9 := fun_mk (st := top 9) l9 c9 k9
  have B9 := F9.binds (ps := ["text"]) fun _ _ _ _ _ _ us hl => match us, hl with | [_], _ => rfl
  have F10 := fun_mk (st := top 10) l10 c10 k10
  have B10 := F10.binds (ps := ["line"]) fun _ _ _ _ _ _ us hl => match us, hl with | [_], _ => rfl
  have F11 := fun_mk (st := top 11) l11 c11 k11
  have B11 := F11.binds (ps := ["word"]) fun _ _ _ _ _ _ us hl => match us, hl with | [_], _ => rfl
  have F17 := fun_mk (st := top 17) l17 c17 k17
  have B17 := F17.binds (ps := ["way", "number", "keeps", "present"]) fun _ _ _ _ _ _ us hl => match us, hl with | [_, _, _, _], _ => rfl
  have F18 := fun_mk (st := top 18) l18 c18 k18
  have B18 := F18.binds (ps := ["way", "asked", "present"]) fun _ _ _ _ _ _ us hl => match us, hl with | [_, _, _], _ => rfl
  have F19 := fun_mk (st := top 19) l19 c19 k19
  have B19 := F19.binds (ps := ["numbers"]) fun _ _ _ _ _ _ us hl => match us, hl with | [_], _ => rfl
  have F20 := fun_mk (st := top 20) l20 c20 k20
  have B20 := F20.binds (ps := ["openings", "places"]) fun _ _ _ _ _ _ us hl => match us, hl with | [_, _], _ => rfl
  have F21 := fun_mk (st := top 21) l21 c21 k21
  have B21 := F21.binds (ps := ["many"]) fun _ _ _ _ _ _ us hl => match us, hl with | [_], _ => rfl
  have F22 := fun_mk (st := top 22) l22 c22 k22
  have B22 := F22.binds (ps := ["many", "size"]) fun _ _ _ _ _ _ us hl => match us, hl with | [_, _], _ => rfl
  have F26 := fun_mk (st := top 26) l26 c26 k26
  have B26 := F26.binds (ps := ["manner"]) fun _ _ _ _ _ _ us hl => match us, hl with | [_], _ => rfl
  have F27 := fun_mk (st := top 27) l27 c27 k27
  have B27 := F27.binds (ps := ["manner", "present"]) fun _ _ _ _ _ _ us hl => match us, hl with | [_, _], _ => rfl
  have F28 := fun_mk (st := top 28) l28 c28 k28
  have B28 := F28.binds (ps := ["manner", "numbers", "tail", "rest"]) fun _ _ _ _ _ _ us hl => match us, hl with | [_, _, _, _], _ => rfl
  have F29 := fun_mk (st := top 29) l29 c29 k29
  have B29 := F29.binds (ps := ["manner", "rest", "numbers", "places"]) fun _ _ _ _ _ _ us hl => match us, hl with | [_, _, _, _], _ => rfl
  have F34 := fun_mk (st := top 34) l34 c34 k34
  have B34 := F34.binds (ps := ["line"]) fun _ _ _ _ _ _ us hl => match us, hl with | [_], _ => rfl
  have F35 := fun_mk (st := top 35) l35 c35 k35
  have B35 := F35.binds (ps := ["lines"]) fun _ _ _ _ _ _ us hl => match us, hl with | [_], _ => rfl
  have F38 := fun_mk (st := top 38) l38 c38 k38
  have B38 := F38.binds (ps := ["found", "standing", "last"]) fun _ _ _ _ _ _ us hl => match us, hl with | [_, _, _], _ => rfl
  have F41 := fun_mk (st := top 41) l41 c41 k41
  have B41 := F41.binds (ps := ["road", "event"]) fun _ _ _ _ _ _ us hl => match us, hl with | [_, _], _ => rfl
  have F42 := fun_mk (st := top 42) l42 c42 k42
  have B42 := F42.binds (ps := ["road", "where", "event", "tail"]) fun _ _ _ _ _ _ us hl => match us, hl with | [_, _, _, _], _ => rfl
  have F43 := fun_mk (st := top 43) l43 c43 k43
  have B43 := F43.binds (ps := ["road", "where", "event", "tail"]) fun _ _ _ _ _ _ us hl => match us, hl with | [_, _, _, _], _ => rfl
  have F46 := fun_mk (st := top 46) l46 c46 k46
  have B46 := F46.binds (ps := ["plan", "other"]) fun _ _ _ _ _ _ us hl => match us, hl with | [_, _], _ => rfl
  have F47 := fun_mk (st := top 47) l47 c47 k47
  have B47 := F47.binds (ps := ["plan", "other"]) fun _ _ _ _ _ _ us hl => match us, hl with | [_, _], _ => rfl
  have F48 := fun_mk (st := top 48) l48 c48 k48
  have B48 := F48.binds (ps := ["walk", "kept_word", "broken_word"]) fun _ _ _ _ _ _ us hl => match us, hl with | [_, _, _], _ => rfl
  have F50 := fun_mk (st := top 50) l50 c50 k50
  have B50 := F50.binds (ps := ["_law_script", "_law_k"]) fun _ _ _ _ _ _ us hl => match us, hl with | [_, _], _ => rfl
  have F51 := fun_mk (st := top 51) l51 c51 k51
  have B51 := F51.binds (ps := ["_law_jar_here", "_law_many"]) fun _ _ _ _ _ _ us hl => match us, hl with | [_, _], _ => rfl
  have F52 := fun_mk (st := top 52) l52 c52 k52
  have B52 := F52.binds (ps := ["_law_jar_here", "_law_some"]) fun _ _ _ _ _ _ us hl => match us, hl with | [_, _], _ => rfl
  have F53 := fun_mk (st := top 53) l53 c53 k53
  have B53 := F53.binds (ps := ["_law_jar_here", "_law_many"]) fun _ _ _ _ _ _ us hl => match us, hl with | [_, _], _ => rfl
  have F54 := fun_mk (st := top 54) l54 c54 k54
  have B54 := F54.binds (ps := ["_law_jar_here", "_law_most"]) fun _ _ _ _ _ _ us hl => match us, hl with | [_, _], _ => rfl
  have F55 := fun_mk (st := top 55) l55 c55 k55
  have B55 := F55.binds (ps := ["_law_plan_here"]) fun _ _ _ _ _ _ us hl => match us, hl with | [_], _ => rfl
  have F56 := fun_mk (st := top 56) l56 c56 k56
  have B56 := F56.binds (ps := ["_law_jar_here", "_law_plan_here"]) fun _ _ _ _ _ _ us hl => match us, hl with | [_, _], _ => rfl
  have F57 := fun_mk (st := top 57) l57 c57 k57
  have B57 := F57.binds (ps := ["_law_one", "_law_other"]) fun _ _ _ _ _ _ us hl => match us, hl with | [_, _], _ => rfl
  have F58 := fun_mk (st := top 58) l58 c58 k58
  have B58 := F58.binds (ps := ["_law_jar_here"]) fun _ _ _ _ _ _ us hl => match us, hl with | [_], _ => rfl
  have F37 : FunD K "search" "search" (defArgs (top 37)) (defBody (top 37)) (defScope (top 37)) [V.non] [] f37 _ := ⟨⟨_, _, _, _, _, _, _, _, _, _, rfl, l37, c37, .inr ⟨by simp, pD, _, [.none], _, rfl, lD, rfl, .cons rfl .nil⟩, .inl rfl⟩, k37⟩
  obtain ⟨ds37, dv37, B37'⟩ := F37.binds1 (ps := ["walk", "starts", "most"]) 2 0 (by simp) rfl fun _ _ _ _ _ _ _ us its h1 h2 => dN_zip us its h1 h2
  have B37 : Binds K _ ["walk", "starts", "most"] [Value.none] := dN_one dv37 ▸ B37'
  have FE := fun_mk (st := inClass (top 2) 0) lE cE kE
  have BE := FE.binds (ps := ["self", "value"]) fun _ _ _ _ _ _ us hl => match us, hl with | [_, _], _ => rfl
  have FP := fun_mk (st := inClass (top 33) 0) lP cP kP
  have BP := FP.binds (ps := ["self", "text"]) fun _ _ _ _ _ _ us hl => match us, hl with | [_, _], _ => rfl
  have FG2 := fun_mk (st := inClass (top 33) 2) lG2 cG2 kG2
  have BG2 := FG2.binds (ps := ["self"]) fun _ _ _ _ _ _ us hl => match us, hl with | [_], _ => rfl
  have FG3 := fun_mk (st := inClass (top 33) 3) lG3 cG3 kG3
  have BG3 := FG3.binds (ps := ["self"]) fun _ _ _ _ _ _ us hl => match us, hl with | [_], _ => rfl
  have FG4 := fun_mk (st := inClass (top 33) 4) lG4 cG4 kG4
  have BG4 := FG4.binds (ps := ["self"]) fun _ _ _ _ _ _ us hl => match us, hl with | [_], _ => rfl
  have FR0 := fun_mk (st := inClass (top 16) 0) lR0 cR0 kR0
  have BR0 := FR0.binds (ps := ["self", "plans"]) fun _ _ _ _ _ _ us hl => match us, hl with | [_, _], _ => rfl
  have FR1 := fun_mk (st := inClass (top 16) 1) lR1 cR1 kR1
  have BR1 := FR1.binds (ps := ["self", "part", "opening", "kept", "present"]) fun _ _ _ _ _ _ us hl => match us, hl with | [_, _, _, _, _], _ => rfl
  have FR2 := fun_mk (st := inClass (top 16) 2) lR2 cR2 kR2
  have BR2 := FR2.binds (ps := ["self", "part", "asked", "present"]) fun _ _ _ _ _ _ us hl => match us, hl with | [_, _, _, _], _ => rfl
  have FR3 := fun_mk (st := inClass (top 16) 3) lR3 cR3 kR3
  have BR3 := FR3.binds (ps := ["self", "part", "present"]) fun _ _ _ _ _ _ us hl => match us, hl with | [_, _, _], _ => rfl
  have FR4 := fun_mk (st := inClass (top 16) 4) lR4 cR4 kR4
  have BR4 := FR4.binds (ps := ["self", "part", "opening", "present"]) fun _ _ _ _ _ _ us hl => match us, hl with | [_, _, _, _], _ => rfl
  have FR5 := fun_mk (st := inClass (top 16) 5) lR5 cR5 kR5
  have BR5 := FR5.binds (ps := ["self", "kept", "part", "present"]) fun _ _ _ _ _ _ us hl => match us, hl with | [_, _, _, _], _ => rfl
  have FR6 := fun_mk (st := inClass (top 16) 6) lR6 cR6 kR6
  have BR6 := FR6.binds (ps := ["self", "openings", "kept", "present"]) fun _ _ _ _ _ _ us hl => match us, hl with | [_, _, _, _], _ => rfl
  have FW0 := fun_mk (st := inClass (top 44) 0) lW0 cW0 kW0
  have BW0 := FW0.binds (ps := ["self", "road", "aim", "doors"]) fun _ _ _ _ _ _ us hl => match us, hl with | [_, _, _, _], _ => rfl
  have FW1 := fun_mk (st := inClass (top 44) 1) lW1 cW1 kW1
  have BW1 := FW1.binds (ps := ["self"]) fun _ _ _ _ _ _ us hl => match us, hl with | [_], _ => rfl
  have FW2 := fun_mk (st := inClass (top 44) 2) lW2 cW2 kW2
  have BW2 := FW2.binds (ps := ["self", "standing"]) fun _ _ _ _ _ _ us hl => match us, hl with | [_, _], _ => rfl
  have FW3 := fun_mk (st := inClass (top 44) 3) lW3 cW3 kW3
  have BW3 := FW3.binds (ps := ["self", "standing"]) fun _ _ _ _ _ _ us hl => match us, hl with | [_, _], _ => rfl
  have FW4 := fun_mk (st := inClass (top 44) 4) lW4 cW4 kW4
  have BW4 := FW4.binds (ps := ["self", "raw"]) fun _ _ _ _ _ _ us hl => match us, hl with | [_, _], _ => rfl
  have TP0 : PlanT K mg C := ⟨⟨pgC, hdC, poC, saC⟩, mg_of X G nC, zC1, zC2, zC3, zC4, mg_none_of X G b_tuple, mg_none_of X G b_isinstance⟩
  have RT : RoadT K mg CR := ⟨⟨pgCR, hdCR, poCR, saCR⟩, mg_of X G nCR, zCR1, zCR2, zCR3, zCR4, zCR5⟩
  have LW : WalkT K mg CW := ⟨⟨pgCW, hdCW, poCW, saCW⟩, mg_of X G nCW, zCW1, zCW2, zCW3, zCW4⟩
  have B : Err P w K mg base CB := ⟨⟨xcl, xsa, xex, xty, xkp⟩, mg_of X G nCB, xnv, _, _, eE, tE, ok_einit FE, BE⟩
  have HW : Has P w K mg base "words_of" 1 ["line"] (spWords) := ⟨_, _, ok_words F10, mg_of X G a10, k10, B10⟩
  have HN : Has P w K mg base "is_name" 1 ["word"] (spName) := ⟨_, _, ok_isName F11 T2, mg_of X G a11, k11, B11⟩
  have HP : Has P w K mg base "part_of" 2 ["line"] (spPart) := ⟨_, _, ok_partOf F34 T3 HW HN, mg_of X G a34, k34, B34⟩
  have HL : HasX P w K mg base "lines_of" 3 ["text"] (spLines K CB) := ⟨_, _, ok_lines F9 T3 B, mg_of X G a9, k9, B9⟩
  have HR : HasX P w K mg base "read_parts" 3 ["lines"] (spRead K CB) := ⟨_, _, ok_read F35 T4 B HP, mg_of X G a35, k35, B35⟩
  have TP : PlanC P w K mg base C CB := ⟨TP0, _, _, ⟨mkC, eP, iP, kpC⟩, ok_pinit FP TP0 HL HR, BP⟩
  have PK : PlanK P w K mg base C := ⟨TP0.cl, ⟨_, _, _, ⟨pa2, pg2, pt2, _, pr2⟩, ok_get FG2 rfl rfl TP0.cl zC2, BG2⟩, ⟨_, _, _, ⟨pa3, pg3, pt3, _, pr3⟩, ok_get FG3 rfl rfl TP0.cl zC3, BG3⟩, ⟨_, _, _, ⟨pa4, pg4, pt4, _, pr4⟩, ok_get FG4 rfl rfl TP0.cl zC4, BG4⟩⟩
  have IC : C8.InsC K C := ⟨TP0.cl, chC, chn, cht, cmC, kkC⟩
  have HRB : Has P w K mg base "read_by" 1 ["way", "number", "keeps", "present"] (spReadBy) := ⟨_, _, ok_readBy F17, mg_of X G a17, k17, B17⟩
  have HOB : Has P w K mg base "opened_by" 1 ["way", "asked", "present"] (spOpenedBy) := ⟨_, _, ok_openedBy F18 TA, mg_of X G a18, k18, B18⟩
  have MR : HasM P w K mg base CR "reads" 2 ["self", "part", "opening", "kept", "present"] (spReads K CR) := ⟨_, _, ⟨eR1, iR1, kR1⟩, ok_reads FR1 TB RT HRB, BR1⟩
  have MO : HasM P w K mg base CR "opened" 2 ["self", "part", "asked", "present"] (spOpened K CR) := ⟨_, _, ⟨eR2, iR2, kR2⟩, ok_opened FR2 TB RT HOB, BR2⟩
  have MB : HasM P w K mg base CR "begun" 3 ["self", "part", "present"] (spBegun K CR) := ⟨_, _, ⟨eR3, iR3, kR3⟩, ok_begun FR3 RT MO, BR3⟩
  have MT : HasM P w K mg base CR "taken" 1 ["self", "part", "opening", "present"] (spTaken K CR) := ⟨_, _, ⟨eR4, iR4, kR4⟩, ok_taken FR4 TB RT, BR4⟩
  have MN : HasM P w K mg base CR "renewed" 1 ["self", "kept", "part", "present"] (spRenewed K CR) := ⟨_, _, ⟨eR5, iR5, kR5⟩, ok_renewed FR5 TB RT, BR5⟩
  have MH : HasM P w K mg base CR "held" 1 ["self", "openings", "kept", "present"] (spHeld K CR) := ⟨_, _, ⟨eR6, iR6, kR6⟩, ok_held FR6 TX RT, BR6⟩
  have HAO : Has P w K mg base "after_own" 3 ["road", "where", "event", "tail"] (spAfterOwn K CR) := ⟨_, _, ok_afterOwn F43 TC RT MT MO MR, mg_of X G a43, k43, B43⟩
  have HAON : Has P w K mg base "after_own" 3 ["road", "where", "event", "tail"] (spAfterOwnN K CR) := ⟨_, _, ok_afterOwnN F43 TC RT MT MO MR, mg_of X G a43, k43, B43⟩
  have HAB : Has P w K mg base "after" 4 ["road", "where", "event", "tail"] (spAfterB K CR) := ⟨_, _, K17.FnOk.or (ok_after F42 TC RT MN HAO) (ok_afterN F42 TC RT MN HAON), mg_of X G a42, k42, B42⟩
  have SP : Has P w K mg base "places_of" 1 ["numbers"] (spPlaces K) := ⟨_, _, ok_places F19 TX, mg_of X G a19, k19, B19⟩
  have SR : Has P w K mg base "renumbered" 1 ["openings", "places"] (spRenumbered K) := ⟨_, _, ok_renumbered F20 TX, mg_of X G a20, k20, B20⟩
  have SA : Has P w K mg base "all_tuples" 1 ["many", "size"] (spAllT K) := ⟨_, _, ok_allT F22 TX, mg_of X G a22, k22, B22⟩
  have SK : Has P w K mg base "kept_beginnings" 2 ["many"] (spKb K) := ⟨_, _, ok_kb F21 TX SA, mg_of X G a21, k21, B21⟩
  have SFT : Has P w K mg base "first_tail" 1 ["manner"] (spFirstTail) := ⟨_, _, ok_firstTail F26 TX, mg_of X G a26, k26, B26⟩
  have SFR : Has P w K mg base "first_rest" 1 ["manner", "present"] (spFirstRest) := ⟨_, _, ok_firstRest F27 TX, mg_of X G a27, k27, B27⟩
  have SJ : Has P w K mg base "judged" 1 ["manner", "numbers", "tail", "rest"] (spJudged K) := ⟨_, _, ok_judged F28 TX, mg_of X G a28, k28, B28⟩
  have SRR : Has P w K mg base "rest_renumbered" 1 ["manner", "rest", "numbers", "places"] (spRestRen K) := ⟨_, _, ok_restRen F29 TX, mg_of X G a29, k29, B29⟩
  have SWy : Has P w K mg base "way_to" 1 ["found", "standing", "last"] (spWay P w K) := ⟨_, _, ok_way F38 TX, mg_of X G a38, k38, B38⟩
  have WS : HasM P w K mg base CW "starts" 4 ["self"] (spStarts K CW CR) := ⟨_, _, ⟨eW1, iW1, kW1⟩, ok_starts FW1 TX LW RT SK MB SFT SFR, BW1⟩
  have WT : HasM P w K mg base CW "settled" 2 ["self", "raw"] (spSettled K CW CR) := ⟨_, _, ⟨eW4, iW4, kW4⟩, ok_settled FW4 TX LW RT MH SP SRR SR, BW4⟩
  have WR : HasM P w K mg base CW "reading" 3 ["self", "standing"] (spReading K CW CR) := ⟨_, _, ⟨eW3, iW3, kW3⟩, ok_reading FW3 TX LW RT MR SJ, BW3⟩
  have WM : HasM P w K mg base CW "moves" 5 ["self", "standing"] (spMoves K CW CR) := ⟨_, _, ⟨eW2, iW2, kW2⟩, ok_moves FW2 TX LW RT HAB SFT WR, BW2⟩
  have SE : Has P w K mg base "told_event" 1 ["road", "event"] (spToldEv CR) := ⟨_, _, ok_toldEv F41 TX RT, mg_of X G a41, k41, B41⟩
  have SS : HasN P w K mg base "search" 6 ["walk", "starts", "most"] (spSearch P w K CW CR) := ⟨_, _, ok_search F37 TX LW WM WT SWy, mg_of X G a37, k37, B37⟩
  have STo : Has P w K mg base "told_search" 7 ["walk", "kept_word", "broken_word"] (spToldS K CW CR) := ⟨_, _, ok_toldS F48 TX LW RT SS WS SE, mg_of X G a48, k48, B48⟩
  have STw : Has P w K mg base "two_walk" 5 ["plan", "other"] (spTwoWalk K C CR CW) := ⟨_, _, ok_twoWalk F47 TX LW RT PK IC (mg_of X G nC) ⟨mkCW, eW0, iW0, kpCW⟩ (ok_winit FW0 TX LW RT) BW0 ⟨mkCR, eR0, iR0, kpCR⟩ (ok_rinit FR0 TB RT PK) BR0, mg_of X G a47, k47, B47⟩
  have SAA : Has P w K mg base "alike_all" 8 ["plan", "other"] (spAlikeAll K C) := ⟨_, _, ok_alikeAll F46 STo STw, mg_of X G a46, k46, B46⟩
  have JT : jarTake P w K mg base := ⟨_, _, ok_take F51 T0, mg_of X G a51, k51, B51⟩
  have JO : jarOf P w K mg base := ⟨_, _, ok_of F52 T0 JT, mg_of X G a52, k52, B52⟩
  have JJ : Has P w K mg base "_law_jar" 1 ["_law_script", "_law_k"] (spJar K) := ⟨_, _, ok_jar F50 T0, mg_of X G a50, k50, B50⟩
  have JN : Has P w K mg base "_law_names" 3 ["_law_jar_here", "_law_many"] (spNames) := ⟨_, _, ok_names F53 T1 JT JO, mg_of X G a53, k53, B53⟩
  have JP : Has P w K mg base "_law_plan" 4 ["_law_jar_here", "_law_most"] (spPlan) := ⟨_, _, ok_plan F54 JN JT JO, mg_of X G a54, k54, B54⟩
  have JL : Has P w K mg base "_law_plan_lines" 1 ["_law_plan_here"] (spPLines) := ⟨_, _, ok_plines F55 T5, mg_of X G a55, k55, B55⟩
  have JPr : Has P w K mg base "_law_pair" 3 ["_law_jar_here", "_law_plan_here"] (spPair) := ⟨_, _, ok_pair F56 TN JO, mg_of X G a56, k56, B56⟩
  have JLs : Has P w K mg base "_law_least" 1 ["_law_one", "_law_other"] (spLeast K) := ⟨_, _, ok_least F57 TN, mg_of X G a57, k57, B57⟩
  have JR : Has P w K mg base "_law_right" 9 ["_law_jar_here"] (spRight) := ⟨_, _, ok_right F58 TN TP JP JO JL JPr JLs SAA, mg_of X G a58, k58, B58⟩
  exact ok_law F59 TF JJ JR
end K17

namespace K17
open L2 PySem PySem.W PyProof.Rows
/-! ### the law called where no repr runs -/
/-- from a heap that tracks the script at most -/
theorem call_from {P : Program} {w : World} {K : PySem.W.Frag} {mg mb : Str → Option Value} {k : Nat} {fa a : Addr} {fd : FuncData} {x : Str} {s₁ : Shared} {vs : List Value} {ns : List Int} {Ht : Hp}
    (inK : K.In s₁.heap) (gl : s₁.heap.Ns mainGlobals mg) (bt : s₁.heap.Ns builtinsNs mb) (bb : ∀ x : Str, x ≠ "__name__" → mb x = bootBuiltins x) (lim : s₁.heap.NoLimit) (gens : s₁.gens = #[])
    (ha : s₁.heap.get? a = some { cls := .type "list", data := .seq vs.toArray }) (room : Room k callerA)
    (F : ∀ base : Heap, K.In base → base.Ns mainGlobals mg → FnG P w K mg base k fa fd [x] (spLaw K)) (bind : ∀ (s : Shared) (u : Value), BindsTo s fd ⟨[u], []⟩ [(x, u)])
    (only : Only Ht) (seq : SqL K Ht a (ns.map V.int)) (few : ns.length ≤ 63) (hok : HOk P w Ht s₁.heap) (justA : ∀ b, Ht b ≠ none → b = a) (notK : Ht a ≠ none → K.lookup a = none) :
    codeAny (model P w) callerA (.call (.ref fa) ⟨[.ref a], []⟩) (fun rr s' => rr = .ok (.ret (.bool true)) ∧ OldK s₁.heap s'.heap ∧ s'.os = s₁.os ∧ AllBare s'.gens) s₁ := by
  have below : ∀ {b : Addr} {o : Obj}, s₁.heap.get? b = some o → Ht b = none → (hidT s₁.heap Ht).get? b = some o := fun {b o} e z => hidT_get e z
  have free : ∀ {b : Addr}, b ≠ a → Ht b = none := fun {b} n => by
    cases q : Ht b with
    | none => rfl
    | some u => exact absurd (justA b (by rw [q]; exact fun z => nomatch z)) n
  have notDict : ∀ {b : Addr} {o : Obj} {es : Array DictEntry} {ep : Nat}, s₁.heap.get? b = some o → o.data = .dict es ep → b ≠ a := fun {b o es ep} e d z => by
    rw [z, ha] at e
    cases e
    cases d
  have spaces : ∀ {b : Addr} {m : Str → Option Value}, s₁.heap.Ns b m → (hidT s₁.heap Ht).Ns b m := fun {b m} z => by
    obtain ⟨o, es, ep, e, d, r⟩ := z
    exact ⟨o, es, ep, below e (free (notDict e d)), d, r⟩
  have inB : K.In (hidT s₁.heap Ht) := fun b o e => below (inK b o e) (by
    cases q : Ht b with
    | none => rfl
    | some u =>
      have z : b = a := justA b (by rw [q]; exact fun y => nomatch y)
      have y := notK (by rw [← z, q]; exact fun y => nomatch y)
      rw [← z, e] at y
      cases y)
  have md : Mod K mg (hidT s₁.heap Ht) := by
    obtain ⟨mc, l1, l2⟩ := lim
    exact ⟨inB, spaces gl, ⟨mb, spaces bt, bb⟩, ⟨mc, spaces l1, l2⟩⟩
  have env : Env0 P w K mg (hidT s₁.heap Ht) callerA [] s₁ Ht := ⟨rfl, md, fun b o e => of_hidT e, Nat.le_of_eq (hidT_size _ _), trivial, fun b hb => (List.not_mem_nil hb).elim, hok, .of_eq gens⟩
  have run := (F _ inB (spaces gl)).run callerA [] s₁ Ht ⟨[.ref a], []⟩ [.ref a] [.ref a] (fun v _ => v = .bl true) (fun _ _ _ => False) rfl room env (bind s₁ (.ref a)) (.cons rfl .nil) ⟨a, ns, rfl, seq, few, fun _ => rfl⟩
  refine codeAny_mono run fun res s' out => ?_
  cases res with
  | error e => exact False.elim out
  | ok fl =>
    cases fl with
    | ret u =>
      obtain ⟨v, H', os, bare, un, hok', rv, ev⟩ := out
      have ev' : v = .bl true := ev
      subst ev'
      obtain rfl : u = Value.bool true := rv
      (refine ⟨rfl, OldK.of_keep fun b o e => ?_, os, bare⟩)
      cases q : Ht b with
      | none => exact un.keep b o e q (fun z => (List.not_mem_nil (show b ∈ ([] : List Addr) from z)).elim) (by simp)
      | some u =>
        rcases only b with z | ⟨ob, ys, z⟩
        · rw [z] at q
          cases q
        · have old := (hok b _ z).1
          have new := (hok' b _ (un.frzs b ob _ z)).1
          rw [e] at old
          cases old
          exact new
    | next => exact False.elim out
    | brk => exact False.elim out
    | cont => exact False.elim out
theorem law_from {P : Program} {w : World} {K : PySem.W.Frag} {mg mb : Str → Option Value} {k : Nat} {fa a : Addr} {fd : FuncData} {x : Str} {s₁ : Shared} {vs : List Value} {ns : List Int}
    (inK : K.In s₁.heap) (gl : s₁.heap.Ns mainGlobals mg) (bt : s₁.heap.Ns builtinsNs mb) (bb : ∀ x : Str, x ≠ "__name__" → mb x = bootBuiltins x) (lim : s₁.heap.NoLimit) (gens : s₁.gens = #[])
    (ha : s₁.heap.get? a = some { cls := .type "list", data := .seq vs.toArray }) (nums : IntsAre vs ns) (few : ns.length ≤ 63) (room : Room k callerA)
    (F : ∀ base : Heap, K.In base → base.Ns mainGlobals mg → FnG P w K mg base k fa fd [x] (spLaw K)) (bind : ∀ (s : Shared) (u : Value), BindsTo s fd ⟨[u], []⟩ [(x, u)]) :
    codeAny (model P w) callerA (.call (.ref fa) ⟨[.ref a], []⟩) (fun rr s' => rr = .ok (.ret (.bool true)) ∧ OldK s₁.heap s'.heap ∧ s'.os = s₁.os ∧ AllBare s'.gens) s₁ := by
  have vals := vals_ints nums
  have long := nums.length
  have big : ns.length ≤ sizeLine := Nat.le_trans few (by decide)
  cases hk : K.lookup a with
  | some o =>
    have e := inK a o hk
    rw [ha] at e
    cases e
    exact call_from (Ht := fun _ => none) inK gl bt bb lim gens ha room F bind (fun _ => .inl rfl) (.inr ⟨_, vs.toArray, _, hk, rfl, rfl, rfl, by rw [List.size_toArray, long]; exact big, by simpa using vals⟩) few
      (fun b u z => by cases (show (none : Option HO) = some u from z)) (fun b z => (z rfl).elim) (fun z => (z rfl).elim)
  | none =>
    have here : ∀ b, b = a → (fun b : Addr => if b = a then (some (.frz { cls := .type "list", data := .seq vs.toArray } (.lst (ns.map V.int))) : Option HO) else none) b = some (.frz { cls := .type "list", data := .seq vs.toArray } (.lst (ns.map V.int))) := fun b z => if_pos z
    have else_ : ∀ b, b ≠ a → (fun b : Addr => if b = a then (some (.frz { cls := .type "list", data := .seq vs.toArray } (.lst (ns.map V.int))) : Option HO) else none) b = none := fun b z => if_neg z
    refine call_from (Ht := fun b : Addr => if b = a then (some (.frz { cls := .type "list", data := .seq vs.toArray } (.lst (ns.map V.int))) : Option HO) else none) inK gl bt bb lim gens ha room F bind (fun b => ?_) (.inl (.inr ⟨_, here a rfl⟩)) few (fun b u z => ?_) (fun b z => ?_) fun _ => hk
    · by_cases q : b = a
      · exact .inr ⟨_, _, here b q⟩
      · exact .inl (else_ b q)
    · by_cases q : b = a
      · have y := (here b q).symm.trans z
        cases y
        subst q
        exact ⟨ha, by rw [List.length_map]; exact big, vs, _, vals, ha⟩
      · cases (else_ b q).symm.trans z
    · by_cases q : b = a
      · exact q
      · exact (z (else_ b q)).elim
theorem walk_g {l : PySem.W.OpenLaw} {q : Program} {loose : List Str} {XP : (Str → Option Value) → Heap → Prop} {YP : World → Heap → Prop} {d : DefRec} {K : Params → PySem.W.Frag} (most : l.most = some 63) (nodef : d.params.defaults = []) (room : Room 10 callerA)
    (hY : ∀ (w : World) (hp : Heap), YP w hp → (K w.params).In hp)
    (F : ∀ (w : World) (mg : Str → Option Value) (fa : Addr) (hp : Heap), (K w.params).In hp → hp.Ns mainGlobals mg → mg d.name = some (.ref fa) →
      ∃ fd : FuncData, (∀ (s : Shared) (v : Value), BindsTo s fd ⟨[v], []⟩ [("_law_script", v)]) ∧ ∀ base : Heap, (K w.params).In base → base.Ns mainGlobals mg → FnG l.prog w (K w.params) mg base 10 fa fd ["_law_script"] (spLaw (K w.params))) :
    PySem.W.WalkO q loose XP YP l.row.toRowW d [] (fun g us => PySem.call g us) := by
  refine Att.attach_call most nodef fun w s₀ s₁ mg mb fa o pm cd doc a vs ns G Y ho hd hcd at_ obj nums few gens => ?_
  obtain ⟨fd, bind, law⟩ := F w mg fa _ (hY w _ Y) G.T.g at_
  exact law_from (hY w _ Y) G.T.g G.T.b G.T.builtins G.T.nolimit gens obj nums few room law bind
end K17

open PyProof.Rows PySem PySem.W in
set_option maxRecDepth 100001 in
set_option maxHeartbeats 0 in
theorem PySem.Challenge.cw_settledreads_k17_plans_alike_by_the_ways_holds : PySem.Challenge.rw_settledreads_k17_plans_alike_by_the_ways.Holds := by
  w_on
  o_law
  k_head
  (case hw => w_witness2)
  k_fill
  refine K17.walk_g (l := PySem.Challenge.rw_settledreads_k17_plans_alike_by_the_ways) rfl rfl ⟨by decide, by decide, by decide⟩ (fun w h Y => PySem.W.kIn_of Y) ?F
  case F =>
    intro w mg fa h KX G hmg
    refine' K17.all_mk KX G hmg ?a9 ?l9 ?c9 ?k9 ?a10 ?l10 ?c10 ?k10 ?a11 ?l11 ?c11 ?k11 ?a17 ?l17 ?c17 ?k17 ?a18 ?l18 ?c18 ?k18 ?a19 ?l19 ?c19 ?k19 ?a20 ?l20 ?c20 ?k20 ?a21 ?l21 ?c21 ?k21 ?a22 ?l22 ?c22 ?k22 ?a26 ?l26 ?c26 ?k26 ?a27 ?l27 ?c27 ?k27 ?a28 ?l28 ?c28 ?k28 ?a29 ?l29 ?c29 ?k29 ?a34 ?l34 ?c34 ?k34 ?a35 ?l35 ?c35 ?k35 ?a37 ?l37 ?c37 ?k37 ?a38 ?l38 ?c38 ?k38 ?a41 ?l41 ?c41 ?k41 ?a42 ?l42 ?c42 ?k42 ?a43 ?l43 ?c43 ?k43 ?a46 ?l46 ?c46 ?k46 ?a47 ?l47 ?c47 ?k47 ?a48 ?l48 ?c48 ?k48 ?a50 ?l50 ?c50 ?k50 ?a51 ?l51 ?c51 ?k51 ?a52 ?l52 ?c52 ?k52 ?a53 ?l53 ?c53 ?k53 ?a54 ?l54 ?c54 ?k54 ?a55 ?l55 ?c55 ?k55 ?a56 ?l56 ?c56 ?k56 ?a57 ?l57 ?c57 ?k57 ?a58 ?l58 ?c58 ?k58 ?a59 ?l59 ?c59 ?k59 ?lD ?nCB ?nC ?nCR ?nCW ?eE ?tE ?eP ?iP ?eR0 ?iR0 ?eW0 ?iW0 ?eR1 ?iR1 ?eR2 ?iR2 ?eR3 ?iR3 ?eR4 ?iR4 ?eR5 ?iR5 ?eR6 ?iR6 ?eW1 ?iW1 ?eW2 ?iW2 ?eW3 ?iW3 ?eW4 ?iW4 ?pa2 ?pg2 ?pt2 ?pr2 ?pa3 ?pg3 ?pt3 ?pr3 ?pa4 ?pg4 ?pt4 ?pr4 ?lE ?cE ?kE ?lP ?cP ?kP ?lG2 ?cG2 ?kG2 ?lG3 ?cG3 ?kG3 ?lG4 ?cG4 ?kG4 ?lR0 ?cR0 ?kR0 ?lR1 ?cR1 ?kR1 ?lR2 ?cR2 ?kR2 ?lR3 ?cR3 ?kR3 ?lR4 ?cR4 ?kR4 ?lR5 ?cR5 ?kR5 ?lR6 ?cR6 ?kR6 ?lW0 ?cW0 ?kW0 ?lW1 ?cW1 ?kW1 ?lW2 ?cW2 ?kW2 ?lW3 ?cW3 ?kW3 ?lW4 ?cW4 ?kW4 ?pgC ?hdC ?poC ?saC ?mkC ?kpC ?pgCR ?hdCR ?poCR ?saCR ?mkCR ?kpCR ?pgCW ?hdCW ?poCW ?saCW ?mkCW ?kpCW ?zC1 ?zC2 ?zC3 ?zC4 ?zCR1 ?zCR2 ?zCR3 ?zCR4 ?zCR5 ?zCW1 ?zCW2 ?zCW3 ?zCW4 ?xsa ?xex ?xty ?xkp ?xnv ?gL ?g8 ?g4 ?gN ?gG ?gW ?gO ?gQ ?gM ?gA ?b_int ?b_abs ?b_len ?b_range ?b_all ?b_isinstance ?b_str ?b_enumerate ?b_list ?b_zip ?b_bool ?b_tuple ?b_dict ?b_sorted ?b_max ?b_min ?b_set ?b_any ?xcl ?chC ?cmC ?kkC ?chn ?cht ?lW ?lO ?lQ ?lM
    (case a9 => k_is)
    (case l9 => k_is)
    (case c9 => k_is)
    (case k9 => k_is)
    (case a10 => k_is)
    (case l10 => k_is)
    (case c10 => k_is)
    (case k10 => k_is)
    (case a11 => k_is)
    (case l11 => k_is)
    (case c11 => k_is)
    (case k11 => k_is)
    (case a17 => k_is)
    (case l17 => k_is)
    (case c17 => k_is)
    (case k17 => k_is)
    (case a18 => k_is)
    (case l18 => k_is)
    (case c18 => k_is)
    (case k18 => k_is)
    (case a19 => k_is)
    (case l19 => k_is)
    (case c19 => k_is)
    (case k19 => k_is)
    (case a20 => k_is)
    (case l20 => k_is)
    (case c20 => k_is)
    (case k20 => k_is)
    (case a21 => k_is)
    (case l21 => k_is)
    (case c21 => k_is)
    (case k21 => k_is)
    (case a22 => k_is)
    (case l22 => k_is)
    (case c22 => k_is)
    (case k22 => k_is)
    (case a26 => k_is)
    (case l26 => k_is)
    (case c26 => k_is)
    (case k26 => k_is)
    (case a27 => k_is)
    (case l27 => k_is)
    (case c27 => k_is)
    (case k27 => k_is)
    (case a28 => k_is)
    (case l28 => k_is)
    (case c28 => k_is)
    (case k28 => k_is)
    (case a29 => k_is)
    (case l29 => k_is)
    (case c29 => k_is)
    (case k29 => k_is)
    (case a34 => k_is)
    (case l34 => k_is)
    (case c34 => k_is)
    (case k34 => k_is)
    (case a35 => k_is)
    (case l35 => k_is)
    (case c35 => k_is)
    (case k35 => k_is)
    (case a37 => k_is)
    (case l37 => k_is)
    (case c37 => k_is)
    (case k37 => k_is)
    (case a38 => k_is)
    (case l38 => k_is)
    (case c38 => k_is)
    (case k38 => k_is)
    (case a41 => k_is)
    (case l41 => k_is)
    (case c41 => k_is)
    (case k41 => k_is)
    (case a42 => k_is)
    (case l42 => k_is)
    (case c42 => k_is)
    (case k42 => k_is)
    (case a43 => k_is)
    (case l43 => k_is)
    (case c43 => k_is)
    (case k43 => k_is)
    (case a46 => k_is)
    (case l46 => k_is)
    (case c46 => k_is)
    (case k46 => k_is)
    (case a47 => k_is)
    (case l47 => k_is)
    (case c47 => k_is)
    (case k47 => k_is)
    (case a48 => k_is)
    (case l48 => k_is)
    (case c48 => k_is)
    (case k48 => k_is)
    (case a50 => k_is)
    (case l50 => k_is)
    (case c50 => k_is)
    (case k50 => k_is)
    (case a51 => k_is)
    (case l51 => k_is)
    (case c51 => k_is)
    (case k51 => k_is)
    (case a52 => k_is)
    (case l52 => k_is)
    (case c52 => k_is)
    (case k52 => k_is)
    (case a53 => k_is)
    (case l53 => k_is)
    (case c53 => k_is)
    (case k53 => k_is)
    (case a54 => k_is)
    (case l54 => k_is)
    (case c54 => k_is)
    (case k54 => k_is)
    (case a55 => k_is)
    (case l55 => k_is)
    (case c55 => k_is)
    (case k55 => k_is)
    (case a56 => k_is)
    (case l56 => k_is)
    (case c56 => k_is)
    (case k56 => k_is)
    (case a57 => k_is)
    (case l57 => k_is)
    (case c57 => k_is)
    (case k57 => k_is)
    (case a58 => k_is)
    (case l58 => k_is)
    (case c58 => k_is)
    (case k58 => k_is)
    (case a59 => k_is)
    (case l59 => k_is)
    (case c59 => k_is)
    (case k59 => k_is)
    (case lD => k_is)
    (case nCB => k_is)
    (case nC => k_is)
    (case nCR => k_is)
    (case nCW => k_is)
    (case eE => k_is)
    (case tE => k_is)
    (case eP => k_is)
    (case iP => k_is)
    (case eR0 => k_is)
    (case iR0 => k_is)
    (case eW0 => k_is)
    (case iW0 => k_is)
    (case eR1 => k_is)
    (case iR1 => k_is)
    (case eR2 => k_is)
    (case iR2 => k_is)
    (case eR3 => k_is)
    (case iR3 => k_is)
    (case eR4 => k_is)
    (case iR4 => k_is)
    (case eR5 => k_is)
    (case iR5 => k_is)
    (case eR6 => k_is)
    (case iR6 => k_is)
    (case eW1 => k_is)
    (case iW1 => k_is)
    (case eW2 => k_is)
    (case iW2 => k_is)
    (case eW3 => k_is)
    (case iW3 => k_is)
    (case eW4 => k_is)
    (case iW4 => k_is)
    (case pa2 => k_is)
    (case pg2 => k_is)
    (case pt2 => k_is)
    (case pr2 => k_is)
    (case pa3 => k_is)
    (case pg3 => k_is)
    (case pt3 => k_is)
    (case pr3 => k_is)
    (case pa4 => k_is)
    (case pg4 => k_is)
    (case pt4 => k_is)
    (case pr4 => k_is)
    (case lE => k_is)
    (case cE => k_is)
    (case kE => k_is)
    (case lP => k_is)
    (case cP => k_is)
    (case kP => k_is)
    (case lG2 => k_is)
    (case cG2 => k_is)
    (case kG2 => k_is)
    (case lG3 => k_is)
    (case cG3 => k_is)
    (case kG3 => k_is)
    (case lG4 => k_is)
    (case cG4 => k_is)
    (case kG4 => k_is)
    (case lR0 => k_is)
    (case cR0 => k_is)
    (case kR0 => k_is)
    (case lR1 => k_is)
    (case cR1 => k_is)
    (case kR1 => k_is)
    (case lR2 => k_is)
    (case cR2 => k_is)
    (case kR2 => k_is)
    (case lR3 => k_is)
    (case cR3 => k_is)
    (case kR3 => k_is)
    (case lR4 => k_is)
    (case cR4 => k_is)
    (case kR4 => k_is)
    (case lR5 => k_is)
    (case cR5 => k_is)
    (case kR5 => k_is)
    (case lR6 => k_is)
    (case cR6 => k_is)
    (case kR6 => k_is)
    (case lW0 => k_is)
    (case cW0 => k_is)
    (case kW0 => k_is)
    (case lW1 => k_is)
    (case cW1 => k_is)
    (case kW1 => k_is)
    (case lW2 => k_is)
    (case cW2 => k_is)
    (case kW2 => k_is)
    (case lW3 => k_is)
    (case cW3 => k_is)
    (case kW3 => k_is)
    (case lW4 => k_is)
    (case cW4 => k_is)
    (case kW4 => k_is)
    (case pgC => k_is)
    (case hdC => k_is)
    (case poC => k_is)
    (case saC => k_is)
    (case mkC => k_is)
    (case kpC => k_is)
    (case pgCR => k_is)
    (case hdCR => k_is)
    (case poCR => k_is)
    (case saCR => k_is)
    (case mkCR => k_is)
    (case kpCR => k_is)
    (case pgCW => k_is)
    (case hdCW => k_is)
    (case poCW => k_is)
    (case saCW => k_is)
    (case mkCW => k_is)
    (case kpCW => k_is)
    (case zC1 => k_is)
    (case zC2 => k_is)
    (case zC3 => k_is)
    (case zC4 => k_is)
    (case zCR1 => k_is)
    (case zCR2 => k_is)
    (case zCR3 => k_is)
    (case zCR4 => k_is)
    (case zCR5 => k_is)
    (case zCW1 => k_is)
    (case zCW2 => k_is)
    (case zCW3 => k_is)
    (case zCW4 => k_is)
    (case xsa => k_is)
    (case xex => k_is)
    (case xty => k_is)
    (case xkp => k_is)
    (case xnv => k_is)
    (case gL => k_is)
    (case g8 => k_is)
    (case g4 => k_is)
    (case gN => k_is)
    (case gG => k_is)
    (case gW => k_is)
    (case gO => k_is)
    (case gQ => k_is)
    (case gM => k_is)
    (case gA => k_is)
    (case b_int => k_is)
    (case b_abs => k_is)
    (case b_len => k_is)
    (case b_range => k_is)
    (case b_all => k_is)
    (case b_isinstance => k_is)
    (case b_str => k_is)
    (case b_enumerate => k_is)
    (case b_list => k_is)
    (case b_zip => k_is)
    (case b_bool => k_is)
    (case b_tuple => k_is)
    (case b_dict => k_is)
    (case b_sorted => k_is)
    (case b_max => k_is)
    (case b_min => k_is)
    (case b_set => k_is)
    (case b_any => k_is)
    (case xcl => exact ⟨_, _, _, _, _, _, _, _, _, _, _, _, _, _, _, by k_is, by decide⟩)
    (case chC => k_is)
    (case cmC => k_is)
    (case kkC => kit_is)
    (case chn => k_is)
    (case cht => k_is)
    (case lW => k_is)
    (case lO => k_is)
    (case lQ => k_is)
    (case lM => k_is)
