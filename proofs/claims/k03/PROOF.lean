import PyProof.Rows.All
import Wide.All
import OpenK.AllK
import Wide.FinOn
import HandS.ForMost
import HandS.Wide
import PySem.Challenge.RW_settledreads_k03_views_part_by_part
import HandS.ForExc
import HandS.ExcInit
import HandS.IsInst
import HandS.ExcValue
import HandS.ExcField
import HandS.ExcIs
import KE.KExcIs
import PyProof.ReprRoads
import KE.IntTextLaws
import HandS.Walk
import HandS.Deep
import HandS.NoneIn
import HandS.Strs
import HandS.Star
import HandS.ReCall
import HandS.Conv
import PyProof.FitsReplace
import HandS.Property
import HandS.OwnEq
import KE.KDictPairs
import HandS.Dict
import HandS.TupAny
import HandS.Style
import HandS.Small
import HandS.SortRule
import KE.KOpsOwn
import PyProof.InstEq
import HandS.Base
import HandS.Call
import HandS.List
import HandS.Words
import HandS.Exc
import HandS.ExcOwn
import HandS.NamedTupSort
import PyProof.ListNew
import KE.KDictZip
import KE.KTurns
import HandS.Iter
import HandS.Keys
import HandS.DictTup
import HandS.Zip0
import HandS.Zip
import KE.GoesMore
import KE.GoesEnum
import KE.GoesZip
import HandS.Lambda
import HandS.Flow
import HandS.ClsMeth
import HandS.TryOnly
import KE.KItemsList
import PyProof.EqKinds
import PyProof.ReprLen
import KE.KTryMore
import HandS.SetFor
import HandS.TupLe
import PyProof.Rows.StrCase
import KE.KBoundM
import HandS.EndTab
import KE.KNestM
set_option Elab.async false
set_option linter.all false
set_option maxRecDepth 100000
set_option maxHeartbeats 4100000
namespace K03
open PySem L2
/-! ### the text by places -/
def top (i : Nat) : Stmt := PySem.Challenge.pw_settledreads_k03_views_part_by_part.main.body.getD i (.Pass ⟨0, 0, 0, 0⟩)
abbrev sJar : Stmt := top 50
abbrev sTake : Stmt := top 51
abbrev sOf : Stmt := top 52
/-! ### heaps -/
/-- a drawing jar stands at j; n bounds how often it was drawn from -/
def Jar (H : Hp) (j : Addr) (n : Nat) : Prop := ∃ a b c : Int, H j = some (.lst [.int a, .int b, .int c]) ∧ 0 ≤ a ∧ a < 2 ^ 1000 ∧ 0 ≤ b ∧ b < 2 ^ 61 ∧ 0 ≤ c ∧ c ≤ n
theorem Jar.mono {H : Hp} {j : Addr} {n m : Nat} (h : Jar H j n) (l : n ≤ m) : Jar H j m := by
  obtain ⟨a, b, c, e, h1, h2, h3, h4, h5, h6⟩ := h
  exact ⟨a, b, c, e, h1, h2, h3, h4, h5, by omega⟩
/-- all but the jar stands as it stood -/
def Keep (j : Addr) (H H' : Hp) : Prop := ∀ x o, x ≠ j → H x = some o → H' x = some o
theorem Keep.refl (j : Addr) (H : Hp) : Keep j H H := fun _ _ _ h => h
theorem Keep.trans {j : Addr} {H H1 H2 : Hp} (a : Keep j H H1) (b : Keep j H1 H2) : Keep j H H2 := fun x o n h => b x o n (a x o n h)
theorem Keep.new {j p : Addr} {H : Hp} {o : HO} (h : H p = none) : Keep j H (upd H p o) := fun x u _ e => by
  rw [upd_ne (ne_of_none e h)]
  exact e
theorem Keep.put {j : Addr} {H : Hp} {o : HO} : Keep j H (upd H j o) := fun x u n e => by
  rw [upd_ne n]
  exact e
theorem Same.keep {j : Addr} {H H' : Hp} (h : Same H H') : Keep j H H' := fun x o _ e => h x o e
theorem same_upd {H : Hp} {p : Addr} {o : HO} (new : H p = none) : Same H (upd H p o) := fun b x e => by
  rw [upd_ne (ne_of_none e new)]
  exact e
structure Txt0 (mg : Str → Option Value) : Prop where
  int : mg "int" = none
  abs : mg "abs" = none
  len : mg "len" = none
section
variable {base : Heap} {P : Program} {w : World} {K : PySem.W.Frag} {mg : Str → Option Value}
/-! ### take -/
theorem log2_small {m : Int} (h : m.natAbs ≤ 10000) : m.natAbs.log2 < 9000 := by
  have h1 : m.natAbs.log2 ≤ m.natAbs := Nat.log2_le_self _
  by_cases z : m.natAbs = 0
  · rw [z]
    decide
  · have h2 := (Nat.log2_lt z (k := 14)).mpr (by omega)
    omega
theorem prime_at {i : Int} (h0 : 0 ≤ i) (h1 : i < 5) : ∃ v : Int, atI ([.int 2147483647, .int 2147483629, .int 2147483587, .int 2147483579, .int 2147483563] : List V) i = some (.int v) ∧ 0 < v ∧ v < 2 ^ 31 := by
  have : i = 0 ∨ i = 1 ∨ i = 2 ∨ i = 3 ∨ i = 4 := by omega
  rcases this with rfl | rfl | rfl | rfl | rfl
  · exact ⟨_, rfl, by decide, by decide⟩
  · exact ⟨_, rfl, by decide, by decide⟩
  · exact ⟨_, rfl, by decide, by decide⟩
  · exact ⟨_, rfl, by decide, by decide⟩
  · exact ⟨_, rfl, by decide, by decide⟩
def spTake : Sp := fun vs H Q _ => ∃ (j : Addr) (m : Int) (n : Nat), vs = [.ref j, .int m] ∧ Jar H j n ∧ n ≤ 10000 ∧ 1 ≤ m ∧ m ≤ 10000 ∧ ∀ (d : Int) (H' : Hp), 0 ≤ d → d < m → Jar H' j (n + 1) → Keep j H H' → Q (.int d) H'
theorem scTake : FnScope ["_law_jar_here", "_law_many", "_law_digit", "_law_prime", "_law_made"] ["_law_jar_here", "_law_many"] (defScope sTake) := ⟨rfl, rfl, rfl, by decide +kernel, rfl, by decide +kernel, by decide +kernel⟩
theorem ok_take {f : Addr} {fd : FuncData} (F : Fun K "_law_take" "_law_take" sTake f fd) (T : Txt0 mg) : FnOk P w K mg base CX0 1 f fd ["_law_jar_here", "_law_many"] spTake := by
  refine F.ok scTake (fun vs H Q E h => ?_) (fun cdv A outer s H vs Q E hr h => ?_)
  · obtain ⟨j, m, n, rfl, _⟩ := h
    rfl
  · obtain ⟨j, m, n, rfl, ⟨a, b, c, hj, ha, ha2, hb, hb2, hc, hc2⟩, hn, hm, hm2, k⟩ := h
    refine ⟨_, pss_cons (ps_if (pt_cmpR op_gt (pe_ix ix_list (pv 0) pe_int (fun _ _ => rfl)) pe_int (nomark _))
        (pss_cons (ps_set (i := 2) scTake.nd rfl (.inl rfl) (pe_op op_mod (pe_callTy call_int1 (by rfl) T.int (by decide +kernel) (pa_cons (pe_ix ix_list (pv 0) pe_int (fun _ _ => rfl)) pa_nil)) (pv 1)))
        (pss_cons (ps_asg (pe_op op_fdivW (pe_ix ix_list (pv 0) pe_int (fun _ _ => rfl)) (pv 1)) (pg_sub (pv 0) pe_int set_list))
        (pss_one (ps_ret (pv 2))))) pss_nil)
      (pss_cons (ps_asg (pe_op op_add (pe_ix ix_list (pv 0) pe_int (fun _ _ => rfl)) pe_int) (pg_sub (pv 0) pe_int set_list))
      (pss_cons (ps_set (i := 3) scTake.nd rfl (.inl rfl) (pe_ix ix_list (pe_lst (pa_cons pe_int (pa_cons pe_int (pa_cons pe_int (pa_cons pe_int (pa_cons pe_int pa_nil))))))
        (pe_op op_mod (pe_callTy call_int1 (by rfl) T.int (by decide +kernel) (pa_cons (pe_ix ix_list (pv 0) pe_int (fun _ _ => rfl)) pa_nil)) pe_int) (fun _ _ => rfl)))
      (pss_cons (ps_set (i := 4) scTake.nd rfl (.inl rfl) (pe_op op_mod (pe_callTy call_int1 (by rfl) T.int (by decide +kernel) (pa_cons
          (pe_op op_pow (pe_op op_add (pe_op op_add (pe_ix ix_list (pv 0) pe_int (fun _ _ => rfl)) (pe_op op_mul (pe_op op_mul pe_int (pe_ix ix_list (pv 0) pe_int (fun _ _ => rfl))) (pe_ix ix_list (pv 0) pe_int (fun _ _ => rfl)))) pe_int) pe_int) pa_nil)) (pv 3)))
      (pss_cons (ps_set (i := 4) scTake.nd rfl (.inl rfl) (pe_op op_mod (pe_callTy call_int1 (by rfl) T.int (by decide +kernel) (pa_cons
          (pe_op op_mul (pv 4) (pe_op op_add (pe_op op_mod (pe_callTy call_int1 (by rfl) T.int (by decide +kernel) (pa_cons (pv 4) pa_nil)) pe_int) (pe_op op_mul pe_int (pe_ix ix_list (pv 0) pe_int (fun _ _ => rfl))))) pa_nil)) pe_int))
      (pss_one (ps_ret (pe_op op_mod (pe_callTy call_int1 (by rfl) T.int (by decide +kernel) (pa_cons (pe_op op_fdiv (pv 4) pe_int) pa_nil)) (pv 1)))))))), ?_⟩
    refine ⟨_, rfl, j, _, _, .int a, rfl, rfl, SqL.of hj, rfl, a, 0, rfl, rfl, _, rfl, ?_⟩
    by_cases h0 : 0 < a
    · refine (show if decide (0 < a) = true then _ else _ from ?_)
      rw [if_pos (decide_eq_true h0)]
      refine ⟨_, rfl, j, _, _, .int a, rfl, rfl, SqL.of hj, rfl, .inl ⟨a, rfl, .int m, rfl, a, m, rfl, rfl, (by omega), ?_⟩⟩
      refine ⟨_, rfl, j, _, _, .int a, rfl, rfl, SqL.of hj, rfl, .int m, rfl, a, m, rfl, rfl, ⟨by omega, ?_⟩, ?_⟩
      · exact log2_small (by omega)
      · refine ⟨.ref j, rfl, j, _, _, _, rfl, rfl, hj, rfl, .int (a % m), rfl, ?_⟩
        have h1 : 0 ≤ a / m := Int.ediv_nonneg ha (by omega)
        have h2 : a / m ≤ a := Int.ediv_le_self _ ha
        exact k _ _ (Int.emod_nonneg _ (by omega)) (Int.emod_lt_of_pos _ (by omega)) ⟨a / m, b, c, upd_same, h1, Int.lt_of_le_of_lt h2 ha2, hb, hb2, hc, by omega⟩ Keep.put
    · refine (show if decide (0 < a) = true then _ else _ from ?_)
      (rw [if_neg (by simpa using h0)])
      refine ⟨_, rfl, j, _, _, .int c, rfl, rfl, SqL.of hj, rfl, c, 1, rfl, rfl, _, rfl, j, _, _, _, rfl, rfl, hj, rfl, ?_⟩
      refine ⟨(by show 5 ≤ sizeLine; decide), fun p hp => ?_⟩
      have npj : p ≠ j := fun e => by
        rw [e, upd_same] at hp
        cases hp
      have hj2 : ∀ o : HO, (upd (upd H j (.lst (([.int a, .int b, .int c] : List V).set 2 (.int (c + 1))))) p o) j = some (.lst [.int a, .int b, .int (c + 1)]) := fun o => by
        rw [upd_ne npj.symm, upd_same]
        rfl
      obtain ⟨v, hv, hv1, hv2⟩ := prime_at (i := (c + 1) % 5) (Int.emod_nonneg _ (by omega)) (Int.emod_lt_of_pos _ (by omega))
      refine ⟨_, rfl, j, _, _, .int (c + 1), rfl, rfl, SqL.of (hj2 _), rfl, .inl ⟨c + 1, rfl, c + 1, 5, rfl, rfl, (show (0 : Int) < 5 by decide), p, _, _, .int v, rfl, rfl, SqL.of upd_same, hv, ?_⟩⟩
      have e1 : (98893 * (c + 1) * (c + 1) : Int) ≤ 98893 * 10001 * 10001 := Int.mul_le_mul (by omega) (by omega) (by omega) (by omega)
      have e0 : (0 : Int) ≤ 98893 * (c + 1) * (c + 1) := Int.mul_nonneg (by omega) (by omega)
      refine ⟨_, rfl, j, _, _, .int b, rfl, rfl, SqL.of (hj2 _), rfl, _, rfl, j, _, _, .int (c + 1), rfl, rfl, SqL.of (hj2 _), rfl, 98893, c + 1, rfl, rfl, .inl ⟨by decide, by decide⟩, _, rfl, j, _, _, .int (c + 1), rfl, rfl, SqL.of (hj2 _), rfl, _, c + 1, rfl, rfl, .inr ⟨by omega, by omega⟩, b, _, rfl, rfl, _, 79, rfl, rfl, _, 3, rfl, rfl, ⟨by decide, by decide, ?_⟩, .inl ⟨_, rfl, _, rfl, _, v, rfl, rfl, (by omega), ?_⟩⟩
      · omega
      have g0 : 0 ≤ (b + 98893 * (c + 1) * (c + 1) + 79) ^ Int.toNat 3 % v := Int.emod_nonneg _ (by omega)
      have g1 : (b + 98893 * (c + 1) * (c + 1) + 79) ^ Int.toNat 3 % v < v := Int.emod_lt_of_pos _ (by omega)
      refine ⟨_, rfl, _, rfl, .inl ⟨_, rfl, _, 10009, rfl, rfl, (show (0 : Int) < 10009 by decide), _, rfl, j, _, _, .int (c + 1), rfl, rfl, SqL.of (hj2 _), rfl, 97, c + 1, rfl, rfl, .inl ⟨by decide, by decide⟩, _, _, rfl, rfl, _, _, rfl, rfl,
        .inl ⟨Int.lt_of_lt_of_le (by decide) g0, Int.lt_trans g1 (Int.lt_trans hv2 (by decide))⟩, .inl ⟨_, rfl, _, 2305843009213693907, rfl, rfl, (show (0 : Int) < 2305843009213693907 by decide), ?_⟩⟩⟩
      refine ⟨_, rfl, _, 89, rfl, rfl, ⟨by decide, by decide⟩, .inl ⟨_, rfl, .int m, rfl, _, m, rfl, rfl, (by omega), ?_⟩⟩
      refine k _ _ (Int.emod_nonneg _ (by omega)) (Int.emod_lt_of_pos _ (by omega)) ⟨a, b, c + 1, hj2 _, ha, ha2, hb, hb2, by omega, by omega⟩ (Keep.put.trans (Keep.new hp))
/-! ### a def as its callers know it -/
def Has (P : Program) (w : World) (K : PySem.W.Frag) (mg : Str → Option Value) (base : Heap) (nm : Str) (k : Nat) (ps : List Str) (sp : Sp) : Prop :=
  ∃ (f : Addr) (fd : FuncData), FnOk P w K mg base CX0 k f fd ps sp ∧ mg nm = some (.ref f) ∧ PySem.W.keepIn K (.ref f) = true ∧ Binds K fd ps []
theorem pe_has {X : Cx} {nm : Str} {k : Nat} {ps : List Str} {sp : Sp} {e : Expr} {es : List Expr} {t : TA} {p pos : Pos} (h : Has X.prog X.w X.K X.mg X.base nm k ps sp) (hr : Room k X.A) (ha : PA X (e :: es) t) (hg : Gl X nm := by rfl)
    (hdb : (nm == ("__debug__" : Str)) = false := by decide) (he : starEach (e :: es) X.env = (false, eval e X.env) :: starEach es X.env := by rfl) (hpl : (backTo pos (starEach es X.env)).any (·.1) = false := by rfl) :
    PE X (.Call (.Name nm p) (e :: es) [] pos) (tCall sp [] E0 t) := by
  obtain ⟨f, fd, F, hm, hk, hb⟩ := h
  exact pe_call F hr hg hm hk hb .nil pass0 ha hdb he hpl
theorem Keep.seq {K : PySem.W.Frag} {j p : Addr} {H H' : Hp} {xs : List V} (h : Keep j H H') (n : p ≠ j) (q : SqL K H p xs) : SqL K H' p xs := by
  rcases q with (q | ⟨o, q⟩) | q
  · exact .inl (.inl (h _ _ n q))
  · exact .inl (.inr ⟨o, h _ _ n q⟩)
  · exact .inr q
theorem atI_in {α : Type} {xs : List α} {i : Int} (h0 : 0 ≤ i) (h1 : i < xs.length) : ∃ v, atI xs i = some v ∧ v ∈ xs := by
  (obtain ⟨n, rfl⟩ := Int.eq_ofNat_of_zero_le h0)
  have hn : n < xs.length := by omega
  exact ⟨xs[n], atI_nat (List.getElem?_eq_getElem hn), List.getElem_mem hn⟩
/-! ### of -/
def spOf (K : PySem.W.Frag) : Sp := fun vs H Q _ => ∃ (j : Addr) (n : Nat) (x : V), vs = [.ref j, x] ∧ Jar H j n ∧ n ≤ 9000 ∧
  ((∃ (p : Addr) (xs : List V), x = .ref p ∧ p ≠ j ∧ SqL K H p xs ∧ 1 ≤ xs.length ∧ xs.length ≤ 1000 ∧ ∀ (y : V) (H' : Hp), y ∈ xs → Jar H' j (n + 1) → Keep j H H' → Q y H') ∨
   (∃ z : Str, x = .str z ∧ 1 ≤ z.length ∧ z.length ≤ 1000 ∧ ∀ (c : Nat) (H' : Hp), c ∈ z.cps.toList → Jar H' j (n + 1) → Keep j H H' → Q (.str ⟨#[c]⟩) H'))
theorem scOf : FnScope ["_law_jar_here", "_law_some"] ["_law_jar_here", "_law_some"] (defScope sOf) := ⟨rfl, rfl, rfl, by decide +kernel, rfl, by decide +kernel, by decide +kernel⟩
theorem ok_of {f : Addr} {fd : FuncData} (F : Fun K "_law_of" "_law_of" sOf f fd) (T : Txt0 mg) (G : Has P w K mg base "_law_take" 1 ["_law_jar_here", "_law_many"] spTake) : FnOk P w K mg base CX0 2 f fd ["_law_jar_here", "_law_some"] (spOf K) := by
  refine F.ok scOf (fun vs H Q E h => ?_) (fun cdv A outer s H vs Q E hr h => ?_)
  · obtain ⟨j, n, x, rfl, _⟩ := h
    rfl
  · obtain ⟨j, n, x, rfl, hj, hn, h⟩ := h
    refine ⟨_, pss_one (ps_ret (pe_ix (IxR.or ix_list ix_str) (pv 1) (pe_has G hr (pa_cons (pv 0) (pa_cons (pe_callB (CallR.or call_len_seq call_len_str) (by rfl) T.len PySem.boot_len (pa_cons (pv 1) pa_nil)) pa_nil))) (fun _ _ => rfl))), ?_⟩
    rcases h with ⟨p, xs, rfl, np, hp, l1, l2, k⟩ | ⟨z, rfl, l1, l2, k⟩
    · refine ⟨_, rfl, _, rfl, _, rfl, .inl ⟨p, xs, rfl, .inl hp, j, _, n, rfl, hj, by omega, by omega, by omega, fun d H' h0 h1 hj' kp => ?_⟩⟩
      obtain ⟨v, hv, hm⟩ := atI_in h0 h1
      exact .inl ⟨p, xs, d, v, rfl, rfl, kp.seq np hp, hv, k v H' hm hj' kp⟩
    · refine ⟨_, rfl, _, rfl, _, rfl, .inr ⟨z, rfl, Nat.le_trans l2 (by decide), j, _, n, rfl, hj, by omega, by omega, by omega, fun d H' h0 h1 hj' kp => ?_⟩⟩
      have hz : z.cps.toList.length = z.length := by
        show z.cps.toList.length = z.cps.size
        simp
      obtain ⟨v, hv, hm⟩ := atI_in (xs := z.cps.toList) h0 (by rw [hz]; exact h1)
      exact .inr ⟨z, d, v, rfl, rfl, Nat.le_trans l2 (by decide), hv, k v H' hm hj' kp⟩
/-! ### jar -/
theorem bit_ok (b : Bool) : -(2 ^ 64) < (if b = true then (1 : Int) else 0) ∧ (if b = true then (1 : Int) else 0) < 2 ^ 64 := by
  cases b <;> decide
theorem mine_ok (x : Int) (b : Bool) : 0 ≤ x % (10 ^ Int.toNat 60) ^ Int.toNat 5 * (if b = true then (1 : Int) else 0) ∧ x % (10 ^ Int.toNat 60) ^ Int.toNat 5 * (if b = true then (1 : Int) else 0) < 2 ^ 1000 := by
  have pp : (0 : Int) < (10 ^ Int.toNat 60) ^ Int.toNat 5 := by decide +kernel
  have p2 : ((10 ^ Int.toNat 60) ^ Int.toNat 5 : Int) < 2 ^ 1000 := by decide +kernel
  have h0 := Int.emod_nonneg x (Int.ne_of_gt pp)
  have h1 := Int.emod_lt_of_pos x pp
  cases b
  · rw [if_neg Bool.false_ne_true, Int.mul_zero]
    exact ⟨Int.le_refl _, by decide +kernel⟩
  · rw [if_pos rfl, Int.mul_one]
    exact ⟨h0, Int.lt_trans h1 p2⟩
def CPowW (i j : Int) : Prop := 0 ≤ j ∧ (Builtin.Int.intBits i : Int) * j ≤ 2 ^ 27
theorem op_powW {X : Cx} : OpR X (binaryOp .Pow) (rI CPowW fun i j => .int (i ^ j.toNat)) := opI fun _ _ _ _ _ _ _ hc q => PyProof.Rows.pow_int hc.1 hc.2 q
def spJar (K : PySem.W.Frag) : Sp := fun vs H Q _ => ∃ (a : Addr) (ns : List Int) (k : Int), vs = [.ref a, .int k] ∧ SqL K H a (ns.map V.int) ∧ 0 ≤ k ∧ k ≤ 100 ∧ ∀ (p : Addr) (H' : Hp), H p = none → Same H H' → Jar H' p 0 → Q (.ref p) H'
theorem scJar : FnScope ["_law_script", "_law_k", "_law_cell", "_law_mine"] ["_law_script", "_law_k"] (defScope sJar) := ⟨rfl, rfl, rfl, by decide +kernel, rfl, by decide +kernel, by decide +kernel⟩
theorem ok_jar {f : Addr} {fd : FuncData} (F : Fun K "_law_jar" "_law_jar" sJar f fd) (T : Txt0 mg) : FnOk P w K mg base CX0 1 f fd ["_law_script", "_law_k"] (spJar K) := by
  refine F.ok scJar (fun vs H Q E h => ?_) (fun cdv A outer s H vs Q E hr h => ?_)
  · (obtain ⟨a, ns, k, rfl, _⟩ := h)
    rfl
  · obtain ⟨a, ns, k, rfl, hS, k0, k2, q⟩ := h
    refine ⟨_, pss_cons (ps_set (i := 2) scJar.nd rfl (.inl rfl) (pe_ifExp (pt_cmpR op_lt (pv 1) (pe_callB call_len_seq (by rfl) T.len PySem.boot_len (pa_cons (pv 0) pa_nil)) (nomark _)) (pe_ix ix_list (pv 0) (pv 1) (fun _ _ => rfl)) (pe_op op_add (pe_op op_mul pe_int (pv 1)) pe_int)))
      (pss_cons (ps_set (i := 3) scJar.nd rfl (.inl rfl) (pe_op op_mul (pe_op op_mod (pe_callTy call_int1 (by rfl) T.int (by decide +kernel) (pa_cons (pe_callB call_abs (by rfl) T.abs (by decide +kernel) (pa_cons (pv 2) pa_nil)) pa_nil)) (pe_op op_powW (pe_op op_pow pe_int pe_int) pe_int))
        (pe_callTy call_int1 (by rfl) T.int (by decide +kernel) (pa_cons (pe_cmpR op_ge (pe_callB call_abs (by rfl) T.abs (by decide +kernel) (pa_cons (pv 2) pa_nil)) (pe_op op_pow pe_int pe_int) (nomark _)) pa_nil))))
      (pss_one (ps_ret (pe_lst (pa_cons (pv 3) (pa_cons (pe_op op_mod (pe_callTy call_int1 (by rfl) T.int (by decide +kernel) (pa_cons (pe_op op_add (pe_op op_add (pe_op op_mul (pe_op op_mod (pe_callTy call_int1 (by rfl) T.int (by decide +kernel) (pa_cons (pv 2) pa_nil)) pe_int) pe_int)
        (pe_op op_mul (pe_op op_mul pe_int (pv 1)) (pv 1))) pe_int) pa_nil)) pe_int) (pa_cons pe_int pa_nil))))))), ?_⟩
    refine ⟨_, rfl, _, rfl, a, _, rfl, .inl hS, k, _, rfl, rfl, _, rfl, ?_⟩
    have pp : (0 : Int) < (10 ^ Int.toNat 60) ^ Int.toNat 5 := by decide +kernel
    have pw : CPowW (10 ^ Int.toNat 60) 5 := ⟨by decide, by decide +kernel⟩
    have p18 : CPow 10 18 := ⟨by decide, by decide, by decide⟩
    have p60 : CPow 10 60 := ⟨by decide, by decide, by decide⟩
    refine ite2 (fun hk => ?_) (fun hk => ?_)
    · have hk := of_decide_eq_true hk
      obtain ⟨v, hv, hm⟩ := atI_in k0 hk
      obtain ⟨c, _, rfl⟩ := List.mem_map.mp hm
      refine ⟨_, rfl, _, rfl, a, _, k, _, rfl, rfl, hS, hv, ?_⟩
      refine ⟨_, rfl, _, rfl, .inl ⟨_, rfl, 10, 60, rfl, rfl, p60, _, 5, rfl, rfl, pw, _, _, rfl, rfl, pp, _, rfl, _, rfl, 10, 18, rfl, rfl, p18, _, _, rfl, rfl, .inr ⟨_, rfl, _, _, rfl, rfl, .inr ?_, ?_⟩⟩⟩
      · exact bit_ok _
      refine ⟨_, rfl, _, rfl, .inl ⟨_, rfl, _, 2305843009213693951, rfl, rfl, (show (0 : Int) < 2305843009213693951 by decide), _, 71993, rfl, rfl, .inr ⟨by decide, by decide⟩, _, rfl, 8237, k, rfl, rfl, .inl ⟨by decide, by decide⟩, _, rfl, _, k, rfl, rfl, .inr ⟨by omega, by omega⟩, _, _, rfl, rfl, _, 61, rfl, rfl,
        .inl ⟨_, rfl, _, 2305843009213693921, rfl, rfl, (show (0 : Int) < 2305843009213693921 by decide), (by show 3 ≤ sizeLine; decide), fun p hp => ?_⟩⟩⟩
      exact q p _ hp (same_upd hp) ⟨_, _, 0, upd_same, (mine_ok _ _).1, (mine_ok _ _).2, Int.emod_nonneg _ (by decide), Int.lt_trans (Int.emod_lt_of_pos _ (by decide)) (by decide), by decide, by decide⟩
    · refine ⟨_, rfl, 41, k, rfl, rfl, .inl ⟨by decide, by decide⟩, _, 23, rfl, rfl, ?_⟩
      refine ⟨_, rfl, _, rfl, .inl ⟨_, rfl, 10, 60, rfl, rfl, p60, _, 5, rfl, rfl, pw, _, _, rfl, rfl, pp, _, rfl, _, rfl, 10, 18, rfl, rfl, p18, _, _, rfl, rfl, .inr ⟨_, rfl, _, _, rfl, rfl, .inr ?_, ?_⟩⟩⟩
      · exact bit_ok _
      refine ⟨_, rfl, _, rfl, .inl ⟨_, rfl, _, 2305843009213693951, rfl, rfl, (show (0 : Int) < 2305843009213693951 by decide), _, 71993, rfl, rfl, .inr ⟨by decide, by decide⟩, _, rfl, 8237, k, rfl, rfl, .inl ⟨by decide, by decide⟩, _, rfl, _, k, rfl, rfl, .inr ⟨by omega, by omega⟩, _, _, rfl, rfl, _, 61, rfl, rfl,
        .inl ⟨_, rfl, _, 2305843009213693921, rfl, rfl, (show (0 : Int) < 2305843009213693921 by decide), (by show 3 ≤ sizeLine; decide), fun p hp => ?_⟩⟩⟩
      exact q p _ hp (same_upd hp) ⟨_, _, 0, upd_same, (mine_ok _ _).1, (mine_ok _ _).2, Int.emod_nonneg _ (by decide), Int.lt_trans (Int.emod_lt_of_pos _ (by decide)) (by decide), by decide, by decide⟩
end
end K03

namespace K03
open PySem L2
abbrev sNames : Stmt := top 53
/-! ### words of drawn names -/
/-- a text's codes -/
abbrev tx (x : Str) : List Nat := x.cps.toList
def Low (c : Nat) : Prop := 97 ≤ c ∧ c ≤ 122
structure IsNm (w : Str) : Prop where
  pos : 1 ≤ w.length
  len : w.length ≤ 8
  low : ∀ c ∈ tx w, Low c
def abc : Str := PySem.Str.ofString "abcdefghijklmnopqrstuvwxyz"
theorem abc_len : abc.length = 26 := by decide +kernel
theorem abc_low : ∀ c ∈ abc.cps.toList, Low c := by
  have h : abc.cps.toList.all (fun c => decide (97 ≤ c) && decide (c ≤ 122)) = true := by decide +kernel
  intro c hc
  have := List.all_eq_true.mp h c hc
  simpa [Low] using this
theorem abc_at {i : Int} (h0 : 0 ≤ i) (h1 : i < 26) : atI abc.cps.toList i = some (97 + i.toNat) := by
  (obtain ⟨n, rfl⟩ := Int.eq_ofNat_of_zero_le h0)
  have hn : n < 26 := by omega
  have h : ∀ n : Nat, n < 26 → atI abc.cps.toList (n : Int) = some (97 + (n : Int).toNat) := by decide +kernel
  exact h n hn
def nmk (st : List Nat) (sp at_ k : Nat) : Str := ⟨(st.take sp ++ [97 + (at_ + 3 * k) % 26] ++ st.drop sp).toArray⟩
theorem nmk_inj {st : List Nat} {sp at_ k k' : Nat} (hs : sp ≤ st.length) (h : k < 4) (h' : k' < 4) (e : nmk st sp at_ k = nmk st sp at_ k') : k = k' := by
  have e1 : st.take sp ++ [97 + (at_ + 3 * k) % 26] ++ st.drop sp = st.take sp ++ [97 + (at_ + 3 * k') % 26] ++ st.drop sp := by
    have := congrArg (fun z : Str => z.cps.toList) e
    simpa [nmk] using this
  rw [List.append_assoc, List.append_assoc] at e1
  have e2 := List.append_cancel_left e1
  have e3 : 97 + (at_ + 3 * k) % 26 = 97 + (at_ + 3 * k') % 26 := (List.cons.inj e2).1
  omega
theorem nmk_len {st : List Nat} {sp at_ k : Nat} (hs : sp ≤ st.length) : (nmk st sp at_ k).length = st.length + 1 := by
  show (List.toArray _).size = _
  simp only [List.size_toArray, List.length_append, List.length_take, List.length_drop, List.length_cons, List.length_nil]
  omega
theorem nmk_is {st : List Nat} {sp at_ k : Nat} (hs : sp ≤ st.length) (hl : st.length ≤ 7) (low : ∀ c ∈ st, Low c) : IsNm (nmk st sp at_ k) := by
  have len : (nmk st sp at_ k).length = st.length + 1 := by
    show (List.toArray _).size = _
    simp only [List.size_toArray, List.length_append, List.length_take, List.length_drop, List.length_cons, List.length_nil]
    omega
  refine ⟨by omega, by omega, fun c hc => ?_⟩
  have hc' : c ∈ st.take sp ++ [97 + (at_ + 3 * k) % 26] ++ st.drop sp := by simpa [nmk, tx] using hc
  rcases List.mem_append.mp hc' with h | h
  · (rcases List.mem_append.mp h with h | h)
    · exact low c (List.mem_of_mem_take h)
    · have := List.mem_singleton.mp h
      subst this
      have := Nat.mod_lt (at_ + 3 * k) (by decide : 0 < 26)
      exact ⟨by omega, by omega⟩
  · exact low c (List.mem_of_mem_drop h)
theorem nm_eq {acc : List Nat} {sp at_ i : Nat} (hs : sp ≤ acc.length) :
    cutS ⟨acc.toArray⟩ none (some (sp : Int)) ++ (⟨#[97 + (((at_ : Int) + 3 * (0 + (i : Int))) % 26).toNat]⟩ : Str) ++ cutS ⟨acc.toArray⟩ (some (sp : Int)) none = nmk acc sp at_ i := by
  refine TL.ext_tl ?_
  rw [TL.tl_append, TL.tl_append]
  have hz : Str.length ⟨acc.toArray⟩ = acc.length := by
    show acc.toArray.size = _
    simp
  have e1 : TL.tl (cutS ⟨acc.toArray⟩ none (some (sp : Int))) = acc.take sp := by
    unfold cutS
    rw [TL.tl_mk, hz, HT.sIx_none, HT.sIx_nat]
    show (acc.drop 0).take (min sp acc.length - 0) = _
    rw [List.drop_zero, Nat.sub_zero, Nat.min_eq_left hs]
  have e2 : TL.tl (cutS ⟨acc.toArray⟩ (some (sp : Int)) none) = acc.drop sp := by
    unfold cutS
    rw [TL.tl_mk, hz, HT.sIx_none, HT.sIx_nat]
    show (acc.drop (min sp acc.length)).take (acc.length - min sp acc.length) = _
    rw [Nat.min_eq_left hs]
    (exact List.take_of_length_le (by rw [List.length_drop]; omega))
  rw [e1, e2]
  have e3 : (((at_ : Int) + 3 * (0 + (i : Int))) % 26).toNat = (at_ + 3 * i) % 26 := by omega
  rw [e3]
  rfl
theorem nmks_nodup {st : List Nat} {sp at_ m : Nat} (hs : sp ≤ st.length) (hm : m ≤ 4) : ((List.range m).map (nmk st sp at_)).Nodup := by
  rw [List.Nodup, List.pairwise_map]
  refine List.Pairwise.imp_of_mem ?_ List.pairwise_lt_range
  intro a b ha hb hlt e
  have h1 := List.mem_range.mp ha
  have h2 := List.mem_range.mp hb
  have := nmk_inj hs (by omega) (by omega) e
  omega
theorem Keep.upd_new {j D : Addr} {H1 H : Hp} {o : HO} (h : Keep j H1 H) (hn : H1 D = none) : Keep j H1 (upd H D o) := fun x u nx e => by
  rw [upd_ne (ne_of_none e hn)]
  exact h x u nx e
theorem Jar.upd {j D : Addr} {H : Hp} {n : Nat} {o : HO} (h : Jar H j n) (hn : D ≠ j) : Jar (upd H D o) j n := by
  obtain ⟨a, b, c, e, r⟩ := h
  exact ⟨a, b, c, by rw [upd_ne (Ne.symm hn)]; exact e, r⟩
theorem Jar.ne {j D : Addr} {H : Hp} {n : Nat} (h : Jar H j n) (hn : H D = none) : D ≠ j := fun e => by
  obtain ⟨a, b, c, q, r⟩ := h
  rw [e, q] at hn
  cases hn
theorem Keep.free {j D : Addr} {H H1 : Hp} (h : Keep j H H1) (hn : H1 D = none) (nj : D ≠ j) : H D = none := by
  cases e : H D with
  | none => rfl
  | some o =>
    rw [h D o nj e] at hn
    cases hn
def chr1 (c : Nat) : Str := ⟨#[c]⟩
theorem join_chars (acc : List Nat) : Txt.join (PySem.Str.ofString "") (acc.map chr1) = ⟨acc.toArray⟩ := by
  have e0 : (PySem.Str.ofString "").cps.toList = [] := by decide +kernel
  have h : (Txt.join (PySem.Str.ofString "") (acc.map chr1)).cps.toList = acc := by
    rw [TL.join_eq]
    show TL.tl _ = acc
    rw [TL.tl_join]
    show TL.joinL (PySem.Str.ofString "").cps.toList _ = acc
    rw [e0]
    induction acc with
    | nil => rfl
    | cons a l ih =>
      cases l with
      | nil => rfl
      | cons b r =>
        show [a] ++ ([] ++ TL.joinL [] (List.map TL.tl (List.map chr1 (b :: r)))) = a :: b :: r
        rw [ih]
        rfl
  cases hj : Txt.join (PySem.Str.ofString "") (acc.map chr1) with
  | mk cps =>
    rw [hj] at h
    have h' : cps.toList = acc := h
    rw [← h']
structure Txt1 (mg : Str → Option Value) : Prop extends Txt0 mg where
  range : mg "range" = none
section
variable {base : Heap} {P : Program} {w : World} {K : PySem.W.Frag} {mg : Str → Option Value}
abbrev jarOf (P : Program) (w : World) (K : PySem.W.Frag) (mg : Str → Option Value) (base : Heap) : Prop := Has P w K mg base "_law_of" 2 ["_law_jar_here", "_law_some"] (spOf K)
abbrev jarTake (P : Program) (w : World) (K : PySem.W.Frag) (mg : Str → Option Value) (base : Heap) : Prop := Has P w K mg base "_law_take" 1 ["_law_jar_here", "_law_many"] spTake
def spNames : Sp := fun vs H Q _ => ∃ (j : Addr) (n m : Nat), vs = [.ref j, .int m] ∧ Jar H j n ∧ n ≤ 8000 ∧ m ≤ 4 ∧
  ∀ (p : Addr) (H' : Hp) (ws : List Str), ws.length = m → ws.Nodup → (∀ x ∈ ws, IsNm x) → (∃ L : Nat, ∀ x ∈ ws, x.length = L) → Jar H' j (n + 10) → Keep j H H' → H p = none → H' p = some (.lst (ws.map V.str)) → Q (.ref p) H'
abbrev nNames : List Str := ["_law_jar_here", "_law_many", "_law_small", "_law_stem", "_law_spot", "_law_at", "_law_turn", "_law_k"]
theorem scNames : FnScope nNames ["_law_jar_here", "_law_many"] (defScope sNames) := ⟨rfl, rfl, rfl, by decide +kernel, rfl, by decide +kernel, by decide +kernel⟩
theorem ok_names {f : Addr} {fd : FuncData} (F : Fun K "_law_names" "_law_names" sNames f fd) (T : Txt1 mg) (G : jarTake P w K mg base) (GO : jarOf P w K mg base) : FnOk P w K mg base CX0 3 f fd ["_law_jar_here", "_law_many"] spNames := by
  refine F.ok scNames (fun vs H Q E h => ?_) (fun cdv A outer s H vs Q E hr h => ?_)
  · obtain ⟨j, n, m, rfl, _⟩ := h
    rfl
  · obtain ⟨j, n, m, rfl, hj, hn, hm, k⟩ := h
    have hr1 : Room 1 _ := (hr.mono (by decide))
    refine ⟨_, pss_cons (ps_set (i := 2) scNames.nd rfl (.inr rfl) pe_str)
      (pss_cons (ps_set (i := 3) scNames.nd rfl (.inr rfl) (pe_join pe_str (pe_lc (own := [("_law_turn", 6)]) (g := gName 6) (tt := tYes) rfl scNames.nd
          (pi_range1 (by rfl) T.range (pa_cons (pe_has GO hr (pa_cons (pv 0) (pa_cons (pe_lst (pa_cons pe_int (pa_cons pe_int (pa_cons pe_int (pa_cons pe_int (pa_cons pe_int pa_nil)))))) pa_nil))) pa_nil))
          (blkOk_by (N := nNames) (sc := defScope sNames) (by decide +kernel)) (fun _ _ _ _ _ => pg_name (i := 6) scNames.nd rfl (Or.inl rfl)) (fun _ _ _ _ _ => pts_nil)
          (fun _ _ _ _ _ => pe_has GO hr (pa_cons (pv 0) (pa_cons (pv 2) pa_nil))))))
      (pss_cons (ps_asg (pe_tup (pa_cons (pe_has G hr1 (pa_cons (pv 0) (pa_cons (pe_op op_add (pe_callB call_len_str (by rfl) T.len PySem.boot_len (pa_cons (pv 3) pa_nil)) pe_int) pa_nil))) (pa_cons (pe_has G hr1 (pa_cons (pv 0) (pa_cons pe_int pa_nil))) pa_nil)))
          (pg_tup rfl (pgs_cons (pg_name (i := 4) scNames.nd rfl (Or.inr rfl)) (pgs_cons (pg_name (i := 5) scNames.nd rfl (Or.inr rfl)) pgs_nil))))
      (pss_one (ps_ret (pe_lc (own := [("_law_k", 7)]) (g := gName 7) (tt := tYes) rfl scNames.nd (pi_range1 (by rfl) T.range (pa_cons (pv 1) pa_nil))
          (blkOk_by (N := nNames) (sc := defScope sNames) (by decide +kernel)) (fun _ _ _ _ _ => pg_name (i := 7) scNames.nd rfl (Or.inl rfl)) (fun _ _ _ _ _ => pts_nil)
          (fun _ _ _ _ _ => pe_op op_add_str (pe_op op_add_str (pe_slice sl_str (pv 3) po_none (po_some (pv 4)))
            (pe_ix ix_str (pv 2) (pe_op op_mod (pe_callTy call_int1 (by rfl) T.int (by decide +kernel) (pa_cons (pe_op op_add (pv 5) (pe_op op_mul pe_int (pv 7))) pa_nil)) pe_int) (fun _ _ => rfl)))
            (pe_slice sl_str (pv 3) (po_some (pv 4)) po_none))))))), ?_⟩
    refine ⟨⟨_, rfl⟩, .ref j, rfl, (by show 5 ≤ sizeLine; decide), fun p0 hp0 => ?_⟩
    have n0 : p0 ≠ j := hj.ne hp0
    refine ⟨j, n, .ref p0, rfl, hj.upd n0, by omega, .inl ⟨p0, _, rfl, n0, SqL.of upd_same, by decide, by decide, fun y H1 hy hj1 kp1 => ?_⟩⟩
    obtain ⟨r, rfl, hr7⟩ : ∃ r : Nat, y = .int (r : Int) ∧ r ≤ 7 := by
      simp only [List.mem_cons, List.not_mem_nil, or_false] at hy
      rcases hy with rfl | rfl | rfl | rfl | rfl
      · exact ⟨0, rfl, by decide⟩
      · exact ⟨0, rfl, by decide⟩
      · exact ⟨1, rfl, by decide⟩
      · exact ⟨3, rfl, by decide⟩
      · exact ⟨7, rfl, by decide⟩
    have kp1' : Keep j H H1 := (Keep.new hp0).trans kp1
    refine ⟨_, rfl, by omega, by omega, fun D nD => ?_⟩
    have nDj : D ≠ j := hj1.ne nD
    have fD : H D = none := kp1'.free nD nDj
    refine lc_range (lo := 0) (n := ((r : Nat) : Int).toNat) (fun i H2 => ∃ acc : List Nat, acc.length = i ∧ (∀ c ∈ acc, Low c) ∧ H2 D = some (.lst ((acc.map chr1).map V.str)) ∧ Jar H2 j (n + 1 + i) ∧ Keep j H H2)
      ⟨[], rfl, (fun c hc => (List.not_mem_nil hc).elim), upd_same, hj1.upd nDj, kp1'.upd_new fD⟩ ?_ ?_
    · rintro i H2 hi ⟨acc, la, lo, hD, hj2, kp2⟩
      refine ⟨rfl, _, rfl, .str abc, rfl, j, _, .str abc, rfl, hj2, by omega, .inr ⟨abc, rfl, (by rw [abc_len]; decide), (by rw [abc_len]; decide), fun c H3 hc hj3 kp3 => ?_⟩⟩
      refine ⟨_, kp3 _ _ nDj hD, ?_, acc ++ [c], by simp [la], fun x hx => ?_, ?_, (hj3.upd nDj).mono (by omega), (kp2.trans kp3).upd_new fD⟩
      · rw [List.length_map, List.length_map, la]
        exact small1000 (by omega)
      · rcases List.mem_append.mp hx with h | h
        · exact lo x h
        · have := List.mem_singleton.mp h
          subst this
          exact abc_low _ hc
      · rw [upd_same, List.map_append, List.map_append]
        rfl
    · rintro H2 ⟨acc, la, lo, hD, hj2, kp2⟩
      have la7 : acc.length ≤ 7 := by omega
      refine ⟨_, D, acc.map chr1, rfl, rfl, .inl (SqL.of hD), ?_, ?_⟩
      · have : ((acc.map chr1).map (·.length)).sum = acc.length := by
          clear la la7 hD lo
          induction acc with
          | nil => rfl
          | cons a l ih =>
            rw [List.map_cons, List.map_cons, List.sum_cons, ih, List.length_cons]
            show 1 + l.length = l.length + 1
            omega
        rw [this, List.length_map]
        show acc.length + acc.length * 0 ≤ 16777216
        omega
      have ej : Txt.join (PySem.Str.ofString "") (acc.map chr1) = ⟨acc.toArray⟩ := join_chars acc
      have ls : (Txt.join (PySem.Str.ofString "") (acc.map chr1)).length = acc.length := by
        rw [ej]
        show acc.toArray.size = _
        simp
      refine ⟨.ref j, rfl, _, rfl, _, rfl, (by rw [ls]; exact Nat.le_trans la7 (by decide)), _, 1, rfl, rfl, j, _, _, rfl, hj2, by omega, by omega, by rw [ls]; omega, fun d H3 d0 d1 hj3 kp3 => ?_⟩
      refine ⟨.ref j, rfl, j, 26, _, rfl, hj3, by omega, by decide, by decide, fun e H4 e0 e1 hj4 kp4 => ?_⟩
      refine ⟨(by show 2 ≤ sizeLine; decide), fun q hq => ?_⟩
      have nqj := hj4.ne hq
      refine ⟨q, _, rfl, SqT.of upd_same, rfl, _, _, rfl, _, _, rfl, rfl, ?_⟩
      have kp4' : Keep j H H4 := (kp2.trans kp3).trans kp4
      have fq : H q = none := kp4'.free hq nqj
      refine ⟨_, rfl, m, rfl, by omega, by omega, fun D2 nD2 => ?_⟩
      have hj5 : Jar (upd H4 q (.tup [.int d, .int e])) j (n + 10) := (hj4.upd nqj).mono (by omega)
      have kp5 : Keep j H (upd H4 q (.tup [.int d, .int e])) := kp4'.upd_new fq
      have nD2j := hj5.ne nD2
      have fD2 := kp5.free nD2 nD2j
      obtain ⟨sp, rfl⟩ := Int.eq_ofNat_of_zero_le d0
      obtain ⟨at_, rfl⟩ := Int.eq_ofNat_of_zero_le e0
      rw [ls] at d1
      refine lc_range (lo := 0) (n := ((m : Nat) : Int).toNat) (fun i H5 => H5 D2 = some (.lst (((List.range i).map (nmk acc sp at_)).map V.str)) ∧ Jar H5 j (n + 10) ∧ Keep j H H5)
        ⟨upd_same, hj5.upd nD2j, kp5.upd_new fD2⟩ ?_ ?_
      · rintro i H5 hi ⟨hD2, hj6, kp6⟩
        have sz : (Txt.join (PySem.Str.ofString "") (acc.map chr1)).length ≤ sizeLine := by
          rw [ls]
          exact Nat.le_trans la7 (by decide)
        refine ⟨rfl, _, rfl, _, rfl, _, rfl, _, rfl, sz, .str abc, rfl, _, rfl, _, rfl, 3, _, rfl, rfl, .inl ⟨by decide, by decide⟩, _, _, rfl, rfl, .inl ⟨_, rfl, _, 26, rfl, rfl, (show (0 : Int) < 26 by decide), abc, _, _, rfl, rfl, (by rw [abc_len]; decide), abc_at (Int.emod_nonneg _ (by decide)) (Int.emod_lt_of_pos _ (by decide)), ?_⟩⟩
        refine ⟨_, _, rfl, rfl, ?_, _, rfl, _, rfl, _, rfl, _, rfl, sz, _, _, rfl, rfl, ?_, _, hD2, ?_, ?_, hj6.upd nD2j, kp6.upd_new fD2⟩
        · have h1 := cutS_length (Txt.join (PySem.Str.ofString "") (acc.map chr1)) none (some (sp : Int))
          rw [ls] at h1
          show _ + 1 ≤ sizeLine
          exact Nat.le_of_lt (small1000 (by omega))
        · have h1 := cutS_length (Txt.join (PySem.Str.ofString "") (acc.map chr1)) none (some (sp : Int))
          have h2 := cutS_length (Txt.join (PySem.Str.ofString "") (acc.map chr1)) (some (sp : Int)) none
          rw [ls] at h1 h2
          rw [Str.length_append]
          show _ + 1 + _ ≤ sizeLine
          exact Nat.le_of_lt (small1000 (by omega))
        · rw [List.length_map, List.length_map, List.length_range]
          exact small1000 (by omega)
        · rw [upd_same, List.range_succ, List.map_append, List.map_append, ej]
          have := nm_eq (acc := acc) (sp := sp) (at_ := at_) (i := i) (by omega)
          rw [this]
          rfl
      · rintro H5 ⟨hD2, hj6, kp6⟩
        refine k D2 H5 _ ?_ (nmks_nodup (st := acc) (sp := sp) (at_ := at_) (m := m) (by omega) (by omega)) ?_ ⟨acc.length + 1, fun x hx => ?_⟩ hj6 kp6 fD2 hD2
        · (rw [List.length_map, List.length_range])
        · intro x hx
          obtain ⟨i, _, rfl⟩ := List.mem_map.mp hx
          exact nmk_is (by omega) la7 lo
        · obtain ⟨i, _, rfl⟩ := List.mem_map.mp hx
          exact nmk_len (by omega)
end
end K03

namespace K03
open L2 PySem PySem.Spec PyProof.Rows
/-! ### an exception that is kept under a name behind its suite -/
/-- at a: an exception object of the class cls, its own dict d -/
def ExV (cls : Value) (d : Option Addr) (a : Addr) : HO := .ext fun h => ∃ (oe : Obj) (vs : Array Value), h.get? a = some oe ∧ Zc cls d oe ∧ oe.data = .fields vs
theorem exV_ok {P : Program} {w : World} {H : Hp} {h : Heap} {a : Addr} {cls : Value} {d : Option Addr} {oe : Obj} {vs : Array Value} (e : h.get? a = some oe) (z : Zc cls d oe) (q : oe.data = .fields vs) : ObjOk P w H h a (ExV cls d a) :=
  ⟨⟨oe, vs, e, z, q⟩, ⟨oe, e⟩, fun _ _ ⟨oe', vs', e', r⟩ k => ⟨oe', vs', k _ e', r⟩⟩
theorem exV_at {P : Program} {w : World} {H : Hp} {h : Heap} {a : Addr} {cls : Value} {d : Option Addr} (hok : HOk P w H h) (e : H a = some (ExV cls d a)) : ∃ (oe : Obj) (vs : Array Value), h.get? a = some oe ∧ Zc cls d oe ∧ oe.data = .fields vs := by
  have x : ObjOk P w H h a (.ext fun h => ∃ (oe : Obj) (vs : Array Value), h.get? a = some oe ∧ Zc cls d oe ∧ oe.data = .fields vs) := hok a _ e
  exact x.1
section
variable {X : Cx} {σ : L2.St} {pins : List (Addr × Obj)} {H : Hp} {s : Shared}
/-- an object that came behind the entry and is not looked after yet: looked after from now on -/
theorem track {a : Addr} {o : HO} (I : Inv X pins σ H s) (hn : H a = none) (nL : a ≠ X.env.locals) (nc : ∀ x c, X.env.cells.lookup x = some c → c ≠ a) (n0 : X.s_0.heap.get? a = none)
    (np : ∀ p ∈ X.pn ++ pins, p.1 ≠ a) (new : ObjOk X.prog X.w (upd H a o) s.heap a o) : Inv X pins σ (upd H a o) s := by
  have far : ∀ b u, X.s_0.heap.get? b = some u → b ≠ a := fun b u e z => by
    rw [z, n0] at e
    cases e
  have old : ∀ {b : Addr} {u : HO}, H b = some u → (upd H a o) b = some u := fun {b u} e => by
    rw [upd_ne (ne_of_none e hn)]
    exact e
  refine ⟨I.ok, I.os, I.bare, ?_, I.loc, I.cell, ?_, ?_, ?_, ?_, I.len⟩
  · exact
      { keep := I.base.keep
        slot := I.base.slot
        free := fun b u e n x => by
          rw [upd_ne (far b u e)]
          exact I.base.free b u e n x
        there := I.base.there
        tups := fun b xs e => old (I.base.tups b xs e)
        frzs := fun b u v e => old (I.base.frzs b u v e)
        tbls := fun b ps e => by
          obtain ⟨m, q⟩ := I.base.tbls b ps e
          exact ⟨m, old q⟩ }
  · rw [upd_ne (Ne.symm nL)]
    exact I.free
  · intro x c e
    rw [upd_ne (nc x c e)]
    exact I.freeC x c e
  · intro p hp
    obtain ⟨h1, h2, h3⟩ := I.pin p hp
    refine ⟨h1, ?_, h3⟩
    rw [upd_ne (np p hp)]
    exact h2
  · exact I.hok.laidN (fun _ _ e => e) hn new
end
/-- what `except x as n` wishes, the error being kept behind the suite -/
def wKeep (K : PySem.W.Frag) (c : Value) (i : Nat) (ts : Addr → Value → Option Addr → TS) (Wout : WX) (D : Ends) : WX := fun cls d σ H =>
  ∃ b, PySem.W.exmOne K cls c = some b ∧ (b = true → ∀ a, H a = none → ts a cls d { nx := fun σ' H' => D.nx (σ'.set i none) (upd H' a (ExV cls d a)), rt := fun _ _ => False } (σ.set i (some (.ref a))) H) ∧ (b = false → Wout cls d σ H)
section
variable {X : Cx} {n x : Str} {c : Value} {i : Nat} {body suite : List Stmt} {b₀ : Stmt} {np pos pos' : Pos} {tb : WX → TS} {ts : Addr → Value → Option Addr → TS} {Wout : WX}
theorem ps_try_keep (hex : X.ex = []) (hs : X.stack = X.env :: X.outer) (hf : X.env.frame = some X.env.locals) (hN : X.N.Nodup) (hi : X.N[i]? = some n) (hln : X.env.kindOf n = some .local) (hc : Names X x c) (tk : L2.Takes X Wout)
    (hb : ∀ (W : WX) (pn : List (Addr × Obj)) (xe : Value → Shared → Prop), L2.Takes (X.tr pn xe) W → PassesOwn (model X.prog X.w) X.A X.env xe → PSs (X.tr pn xe) body (tb W))
    (hsu : ∀ (a : Addr) (oe : Obj) (cls : Value) (d : Option Addr) (pq : List (Addr × Obj)), Zc cls d oe → (∃ vs, oe.data = .fields vs) → PSs (X.suite a ((a, oe) :: pq)) (b₀ :: suite) (ts a cls d)) :
    PS X (.Try body [.ExceptHandler (some (.Name x np)) (some n) (b₀ :: suite) pos'] [] [] pos) (fun D σ H => tb (wKeep X.K c i ts Wout D) D σ H) := by
  refine ⟨fun pins s σ H D I h => wpAny_Try_except ?_⟩
  have okX := I.ok
  have hframes : X.A.frames = some (X.env :: X.outer) := okX.frames.trans (congrArg some hs)
  have hb' := hb (wKeep X.K c i ts Wout D) (X.pn ++ pins) (fun e s₁ => wpAny (model X.prog X.w) X.A (noteFrame e X.env) (fun _ s₂ => wpAny (model X.prog X.w) X.A (setFlight e none)
    (fun _ s₃ => wpAny (model X.prog X.w) X.A (handleBy e X.env [.ExceptHandler (some (.Name x np)) (some n) (b₀ :: suite) pos']) (SP X pins D) X.xe s₃) X.xe s₂) X.xe s₁)
  refine wpAny_mono ((hb' (fun u t xx => ?caught) PassesOwn.looking).run [] s σ H D (I.toTry _) h) (fun f s1 hsp => ?passed) (fun _ _ he => he)
  case passed =>
    cases f
    case next =>
      obtain ⟨σ1, H1, J, q⟩ := hsp
      exact wpAny_execs_nil ⟨σ1, H1, J.ofTry okX, q⟩
    case ret v =>
      obtain ⟨y, σ1, H1, J, r, q⟩ := hsp
      exact ⟨y, σ1, H1, J.ofTry okX, r, q⟩
    all_goals
      obtain ⟨σ1, H1, J, q⟩ := hsp
      exact ⟨σ1, H1, J.ofTry okX, q⟩
  case caught =>
    obtain ⟨a, B, sI, pins1, σ1, H1, cls, d, rfl, JT, nb, up, sky, na, os, ag, b, hb1, hyes, hno⟩ := xx
    have JI : Inv X pins σ1 H1 sI := JT.ofTry okX
    rw [hs] at sky
    show wpAny _ X.A (noteFrame (.ref a) X.env) _ _ _
    refine Sky.land Zc.steady hframes hf sky fun h3 fl3 up3 => ?_
    have J3 : Inv X pins σ1 H1 { t with heap := h3 } := JI.landed nb fl3.1 (up.trans up3) os ag
    (obtain ⟨oe3, vs3, he3, hz3, hd3⟩ := fl3.there)
    have nfr : a ∉ frs (X.env :: X.outer) := fun hm => by
      obtain ⟨_, o', e', hnf⟩ := fl3.2.2.1.mem hm
      rw [he3] at e'
      cases e'
      exact hnf _ hd3
    have nL : a ≠ X.env.locals := fun zz => nfr (List.mem_filterMap.mpr ⟨X.env, List.mem_cons_self, by rw [hf, zz]⟩)
    have nF : ¬ a ∈ X.fs := fun hm => by
      (obtain ⟨e, he, q⟩ := List.mem_filterMap.mp hm)
      (exact nfr (List.mem_filterMap.mpr ⟨e, List.mem_cons_of_mem _ he, q⟩))
    -- the exception came in the body
    have nI : sI.heap.get? a = none := by
      cases e : sI.heap.get? a with
      | none => rfl
      | some o =>
        have z := nb a o e (by rw [hs]; exact nfr)
        have k2 : B.get? a = none := fl3.2.1
        rw [k2] at z
        cases z
    have n0 : X.s_0.heap.get? a = (none : Option Obj) := by
      cases e : (X.s_0.heap.get? a) with
      | none => rfl
      | some o =>
        obtain ⟨o', q⟩ := JI.base.there a o e (by rw [hex]; exact fun z => nomatch z)
        rw [nI] at q
        cases q
    have np' : ∀ p ∈ X.pn ++ pins, p.1 ≠ a := fun p hp z => by
      have q := (JI.pin p hp).1
      rw [z, nI] at q
      cases q
    have nc : ∀ y k, X.env.cells.lookup y = some k → k ≠ a := fun y k e z => by
      obtain ⟨v, o, q, _⟩ := JI.cell y k e
      rw [z, nI] at q
      cases q
    have S3 := (J3.suite he3 hd3 na nL nF)
    (refine wpAny_handleBy_cons (codeAny_handlers_test ?_) (by intro q; cases q))
    have LT : PySem.W.Looks (model X.prog X.w) h3 (typeOf (.ref a)) cls := (fun A Q E s k q => wpAny_typeOf_ref (k _ _ he3) (by rw [hz3.1]; exact q))
    have LM := PySem.W.exm_one (M := model X.prog X.w) J3.kIn LT hb1
    have named : ∀ {Q : Value → Shared → Prop} {E : Value → Shared → Prop}, Q c { t with heap := h3 } → wpAny (model X.prog X.w) (X.A.mark (some (.ref a))) (eval (.Name x np) X.env) Q E { t with heap := h3 } := fun {Q E} q => by
      (obtain ⟨hg, hdbg, hm | ⟨hm, hv, hnn⟩⟩ := hc)
      · (exact ld_glob (X := X.suite a ((a, oe3) :: (X.pn ++ pins))) S3 hg hm q hdbg)
      · (exact ld_blt (X := X.suite a ((a, oe3) :: (X.pn ++ pins))) S3 hg hm hv q hnn hdbg)
    refine named (LM.here ?_)
    cases b with
    | false =>
      (show wpAny _ X.A (handleBy (.ref a) X.env []) _ _ _)
      refine wpAny_handleBy_nil ?_
      obtain ⟨_, _, _, oe, vs, T, oT, ts', he, hz, hd, h1, hr⟩ := id fl3
      unfold PySem.passOn
      (refine wpAny_bind (wpAny_field he hd h1 ?_))
      (rw [if_neg (show ¬ ((Value.ref T == Value.none) = true) from by simp)])
      have out : wpAny (model X.prog X.w) X.A (setFlight (.ref a) X.env.frame) (fun _ s4 => wpAny (model X.prog X.w) X.A (throw (.ref a) : Sem Flow) (SP X pins D) X.xe s4) X.xe { t with heap := h3 } := by
        rw [hf]
        (refine HandSPX.setFlight_upZ fl3 fun h4 hh4 up4 => wpAny_throw (tk _ _ ?_))
        exact ⟨a, B, sI, pins, σ1, H1, cls, d, rfl, JI, nb, (up.trans up3).trans up4, .inr (.inr (by rw [hs]; exact hh4)), na, os, ag, hno rfl⟩
      first
        | exact wpAny_bind out
        | exact wpAny_bind (wpAny_pure (wpAny_bind out))
    | true =>
      refine codeAny_handlers_suite_as (HandSPX.lands_againZ fl3 fun h4 fl4 up4 => ?_)
      have J4 : Inv X pins σ1 H1 { t with heap := h4 } := JI.landed nb fl4.1 ((up.trans up3).trans up4) os ag
      (obtain ⟨oe4, vs4, he4, hz4, hd4⟩ := fl4.there)
      refine store_ok (X := X.suite a ((a, oe4) :: (X.pn ++ pins))) (v := .ref a) (J4.suite he4 hd4 na nL nF) hN hi (.inl hln) rfl (fun s5 S5 => ?_) (.inr hln)
      refine wpAny_mono ((hsu a oe4 cls d (X.pn ++ pins) hz4 ⟨_, hd4⟩).run [] s5 _ H1 _ S5 (hyes rfl a na)) (fun f s6 hsp => ?_) (fun _ _ z => False.elim z)
      cases f
      case next =>
        (obtain ⟨σ6, H6, S6, q6⟩ := hsp)
        obtain ⟨g1, g2, _⟩ := S6.pin (a, oe4) (List.mem_append_left _ List.mem_cons_self)
        have J7 := track (o := ExV cls d a) (S6.unsuite okX) g2 nL nc n0 np' (exV_ok g1 hz4 hd4)
        exact gone_ok J7 hN hi hln fun s7 J8 => ⟨_, _, J8, q6⟩
      case ret v =>
        obtain ⟨_, _, _, _, _, q6⟩ := hsp
        exact False.elim q6
      all_goals
        obtain ⟨_, _, _, q6⟩ := hsp
        exact False.elim q6
end
/-! ### its field, isinstance of it -/
section
variable {X : Cx} {C : Addr}
/-- e.n, e an error that was kept -/
def tXv (C : Addr) (n : Str) (te : TE) : TE := fun σ H Q => te σ H fun x H1 => ∃ (a dd : Addr) (fs : List (Str × V)) (v : V), x = .ref a ∧ H1 a = some (ExV (.ref C) (some dd) a) ∧ H1 dd = some (.xd fs) ∧ fs.lookup n = some v ∧ Q v H1
theorem exv_inst {pins : List (Addr × Obj)} {σ : L2.St} {H : Hp} {s : Shared} {a dd : Addr} {fs : List (Str × V)} (I : Inv X pins σ H s) (e1 : H a = some (ExV (.ref C) (some dd) a)) (e2 : H dd = some (.xd fs)) :
    ∃ (oe od : Obj) (mA : Str → Option Value), PySem.W.InstAt s.heap a oe C (some od) ∧ (∀ f, PySem.W.lookIn f od = some (mA f)) ∧ ∀ f, RelO (fs.lookup f) (mA f) := by
  obtain ⟨oe, vs, ha, hz, hd⟩ := exV_at I.hok e1
  have hx : ObjOk X.prog X.w H s.heap dd (.xd fs) := I.hok dd _ e2
  obtain ⟨mA, hns, hr⟩ := hx
  (obtain ⟨od, ho, hl⟩ := lookIn_ns hns)
  exact ⟨oe, od, mA, ⟨ha, hz.1, by unfold PySem.W.notCls; rw [hd] <;> rfl, by rw [hz.2]; exact ho⟩, hl, hr⟩
theorem pe_exv {e : Expr} {te : TE} {pos : Pos} {n : Str} (T : XfC X.K C) (hno : PySem.W.findIn X.K (.ref C) n = some none) (he : PE X e te) (hb : attributeBase e n X.env (eval e X.env) = eval e X.env := by rfl) : PE X (.Attribute e n pos) (tXv C n te) := by
  refine ⟨fun pins s σ H Q I h => attr_of hb (thn (he.run pins s σ H _ I h) fun u s1 hh => ?_)⟩
  obtain ⟨x, H1, I1, rx, a, dd, fs, v, ex, e1, e2, l, q⟩ := hh
  subst ex
  (obtain rfl : u = Value.ref a := rx)
  obtain ⟨oe, od, mA, J, hl, hr⟩ := exv_inst I1 e1 e2
  (obtain ⟨u, hu, ru⟩ := RelO.some_of (v := v) (o := mA n) (by rw [← l]; exact hr n))
  (exact HandSPX.exc_get I1.kIn J T.ga T.gg T.exC (PySem.W.findObj_own T.hdC hno rfl (by rw [hl, hu])) (handed_of ru) ⟨v, H1, I1.tok _, ru, q⟩)
def rIsV (K : PySem.W.Frag) (D : Addr) : List V → Hp → VK → Prop := fun xs H Q => ∃ (a dd : Addr) (fs : List (Str × V)) (c : V) (cv : Value) (b : Bool), xs = [.ref a, c] ∧ H a = some (ExV (.ref D) (some dd) a) ∧ H dd = some (.xd fs) ∧ (∀ u, RelV c u → u = cv) ∧ PySem.W.kitOne K (.ref D) cv = some b ∧ Q (.bl b) H
theorem call_isV (T : ExcC X.K C) : CallR X (.builtin "isinstance") (rIsV X.K C) := by
  (intro pins s σ H xs us Q I r h)
  obtain ⟨a, dd, fs, c, cv, b, rfl, e1, e2, hcv, e, q⟩ := h
  obtain ⟨oe, od, mA, J, _, _⟩ := exv_inst I e1 e2
  cases r with
  | cons rx rr =>
    cases rr with
    | cons rt rr =>
      cases rr
      cases rx
      have ec := hcv _ rt
      subst ec
      have hcl : (PySem.W.clsIn X.K C).isSome = true := by
        obtain ⟨cd, hc, _⟩ := PySem.W.any_some T.hd
        rw [hc]
        rfl
      exact PySem.W.kia_one (PySem.W.kitx_exc hcl T.hg T.hk T.hs T.ha T.hn T.ht T.hm) I.kIn J e (fun z => nomatch z) fun tk => ⟨.bl b, H, I.kept (t' := tk) fun _ _ z => z, rfl, q⟩
end
end K03

namespace K03
open L2 PySem PySem.Spec PyProof.Rows
/-! ### defs that are called where no repr runs (their bodies show data by repr) -/
structure FnG (P : Program) (w : World) (K : PySem.W.Frag) (mg : Str → Option Value) (base : Heap) (k : Nat) (f : Addr) (fd : FuncData) (ps : List Str) (sp : Sp) : Prop where
  len : ∀ (vs : List V) H Q E, sp vs H Q E → vs.length = ps.length
  run : ∀ (A : Around) (outer : List Env) (s : Shared) (H : Hp) (args : Args) (us : List Value) (vs : List V) (Q : VK) (E : XK), A.guards = some [] → Room k A → Env0 P w K mg base A outer s H →
    BindsTo s fd args (ps.zip us) → Vals vs us → sp vs H Q E → codeAny (model P w) A (.call (.ref f) args) (CR CX0 outer P w H s Q E) s
section
variable {base : Heap} {P : Program} {w : World} {K : PySem.W.Frag} {mg : Str → Option Value}
theorem Fun.okG {x qual : Str} {st : Stmt} {f : Addr} {fd : FuncData} {N ps : List Str} {k : Nat} {sp : Sp} (F : Fun K x qual st f fd) (S : FnScope N ps (defScope st)) (len : ∀ vs H Q E, sp vs H Q E → vs.length = ps.length)
    (hbody : ∀ (cdv : Value) (A : Around) (outer : List Env) (s : Shared) (H : Hp) (vs : List V) (Q : VK) (E : XK), A.guards = some [] → Room k (A.deeper (envOfC qual (defScope st) s.heap.objs.size f cdv)) → sp vs H Q E →
      ∃ t, PSs (cxOf CX0 P w K mg base N qual (defScope st) f cdv A outer s H E).nox (defBody st) t ∧ t { nx := fun _ H' => Q .non H', rt := Q } (L2.start N vs) H) : FnG P w K mg base (k + 1) f fd ps sp := by
  (obtain ⟨oc, od, kV, doc, pm, an, cdv, ct, osl, rfl, lk, hcd⟩ := F.ex)
  refine ⟨len, fun A outer s H args us vs Q E hg hr e0 hb r hsp => ?_⟩
  have nArgs := len _ _ _ _ hsp
  have inK : K.In s.heap := e0.mod.kin.keeps fun b o e => (e0.bs b o e).1
  have noLim : s.heap.NoLimit := e0.mod.nolimit.keeps fun b o e => (e0.bs b o e).1
  have kinds : ∀ y ∈ ps.zip us, (defScope st).names.lookup y.1 = some .local ∨ ((defScope st).names.lookup y.1 = some .cell ∧ ((cellsFrom (s.heap.objs.size + 1) (defScope st).names []).lookup y.1).isSome = true) := fun y hy => by
    rcases S.par y.1 (List.of_mem_zip (a := y.1) (b := y.2) hy).1 with q | q
    · exact Or.inl q
    · exact Or.inr ⟨q, PySem.W.cellsFrom_some _ _ _ (Or.inl q)⟩
  refine codeAny_call_function hr.depth (inK _ _ lk) rfl S.co S.gen rfl (PySem.W.codeRec_of inK hcd) (hb _ _ _ _ (wpAny_newFunctionEnv_cells S.kind kinds fun env he s1 xc => ?_))
  subst he
  obtain ⟨t, ht, hq⟩ := hbody cdv A outer s H vs Q E hg (hr.deeper _) hsp
  have I0 : Inv (cxOf CX0 P w K mg base N qual (defScope st) f cdv A outer s H E) [] (L2.start N vs) H s1 := inv_start S hr.hd e0 nArgs r xc
  have done : ∀ {σ1 : L2.St} {H1 : Hp} {v : V} {u : Value} {t1 : Shared}, Inv (cxOf CX0 P w K mg base N qual (defScope st) f cdv A outer s H E) [] σ1 H1 t1 → RelV v u → Q v H1 → CE outer P w H s Q u t1 :=
    fun {σ1 H1 v u t1} J rv q => ⟨v, H1, J.os, J.bare, J.base, J.hok, rv, q⟩
  refine ⟨noLim.keeps xc.toInCall.keep, codeAny_func (wpAny_mono (ht.nox.run [] s1 (L2.start N vs) H _ I0 hq) (fun fl t1 hs => ?_) fun _ _ hs => hs)⟩
  cases fl
  case ret u =>
    obtain ⟨v, σ1, H1, J, rv, q⟩ := hs
    exact done J rv q
  case next =>
    obtain ⟨σ1, H1, J, q⟩ := hs
    exact done (v := V.non) (u := Value.none) J rfl q
  all_goals
    obtain ⟨_, _, _, q⟩ := hs
    exact False.elim q
end
def HasG (P : Program) (w : World) (K : PySem.W.Frag) (mg : Str → Option Value) (base : Heap) (nm : Str) (k : Nat) (ps : List Str) (sp : Sp) : Prop :=
  ∃ (f : Addr) (fd : FuncData), FnG P w K mg base k f fd ps sp ∧ mg nm = some (.ref f) ∧ PySem.W.keepIn K (.ref f) = true ∧ Binds K fd ps []
theorem pe_hasG {X : Cx} {nm : Str} {k : Nat} {ps : List Str} {sp : Sp} {e : Expr} {es : List Expr} {t : TA} {p pos : Pos} (h : HasG X.prog X.w X.K X.mg X.base nm k ps sp) (hgu : X.A.guards = some []) (hr : Room k X.A) (ha : PA X (e :: es) t) (hg : Gl X nm := by rfl)
    (hdb : (nm == ("__debug__" : Str)) = false := by decide) (he : starEach (e :: es) X.env = (false, eval e X.env) :: starEach es X.env := by rfl) (hpl : (backTo pos (starEach es X.env)).any (·.1) = false := by rfl) :
    PE X (.Call (.Name nm p) (e :: es) [] pos) (tCall sp [] E0 t) := by
  obtain ⟨f, fd, F, hm, hk, hb⟩ := h
  refine ⟨fun pins s σ H Q I h => wpAny_Call_Name_kw (ld_glob I hg hm ?_ hdb)⟩
  (refine PySem.W.callWith_K (h₀ := X.base) I.ok.mod.kin hk (thn (ha.run pos pins s σ H _ I h) fun us s1 ⟨vs, H1, I1, r, q⟩ => ⟨I1.kIn, ?_⟩) he hpl)
  have q' : sp vs H1 Q E0 := by
    have z : sp (vs ++ []) H1 Q E0 := q
    rw [List.append_nil] at z
    exact z
  have hl : (us ++ []).length = ps.length := by
    rw [List.append_nil, ← r.length]
    exact F.len _ _ _ _ q'
  refine wpAny_call (codeAny_mono (F.run X.A X.stack s1 H1 ⟨us, []⟩ (us ++ []) vs Q E0 hgu hr I1.env0 (hb s1 us I1.kIn hl) (by rw [List.append_nil]; exact r) q') fun r s' hq => ?_)
  cases r with
  | error er => exact False.elim hq
  | ok fl =>
    cases fl with
    | ret u => exact I1.after hq
    | next => exact False.elim hq
    | brk => exact False.elim hq
    | cont => exact False.elim hq
/-! ### repr of data -/
def rRepr (K : PySem.W.Frag) : List V → Hp → VK → Prop := fun xs H Q => ∃ (a : Addr) (d : PyData), xs = [.ref a] ∧ Dp K H (.ref a) d ∧ d.showable = true ∧ d.hasDict = false ∧ d.depth ≤ 50 ∧ d.shown.length ≤ sizeLine ∧ Q (.str d.shown) H
theorem call_reprD {X : Cx} (hgu : X.A.guards = some []) (hu : X.A.units + 64 < cLine) : CallR X (.builtin "repr") (rRepr X.K) := by
  (intro pins s σ H xs us Q I r h)
  obtain ⟨a, d, rfl, hd, hs, hdi, hdp, hsz, q⟩ := h
  cases r with
  | cons rx rr =>
    cases rr
    obtain ⟨as, rd⟩ := Dp.reads I d _ _ hd rx
    cases rx
    exact repr_of_reads' rd hs (fun z => by rw [hdi] at z; cases z) hgu (by omega) (fun _ _ e => e) (fun h' u tk hk => ⟨.str d.shown, H, I.kept (t' := tk) hk, ⟨u, rfl⟩, q⟩) hsz
end K03

namespace K03
open PySem L2
abbrev sLines : Stmt := top 14
abbrev sWords : Stmt := top 15
abbrev sIsName : Stmt := top 16
abbrev sNum : Stmt := top 17
/-! ### names, as both look at them -/
def nameB (w : Str) : Bool := (decide (1 ≤ w.length) && decide (w.length ≤ 8)) && (tx w).all fun c => decide (c ∈ tx abc)
theorem nameB_of {w : Str} (h : IsNm w) : nameB w = true := by
  unfold nameB
  rw [decide_eq_true h.pos, decide_eq_true h.len]
  refine List.all_eq_true.mpr fun c hc => decide_eq_true ?_
  obtain ⟨h1, h2⟩ := h.low c hc
  have all : ∀ c, 97 ≤ c → c ≤ 122 → c ∈ tx abc := by
    intro c a b
    have : c = 97 + (c - 97) := by omega
    rw [this]
    have z : ∀ n : Nat, n < 26 → 97 + n ∈ tx abc := by decide +kernel
    exact z _ (by omega)
  exact all c h1 h2
theorem take_one {α : Type} {l : List α} {i : Nat} {x : α} (h : l[i]? = some x) : l.take (i + 1) = l.take i ++ [x] := by
  rw [List.take_add_one, h]
  rfl
theorem same_new {D : Addr} {H H1 : Hp} {o : HO} (h : Same H H1) (hn : H D = none) : Same H (upd H1 D o) := fun x u e => by
  rw [upd_ne (ne_of_none e hn)]
  exact h x u e
def dig : Str := "0123456789"
structure Txt2 (K : PySem.W.Frag) (mg : Str → Option Value) : Prop extends Txt1 mg where
  all : mg "all" = none
  letters : ∃ t, mg "LETTERS" = some (.str abc t)
  longest : ∃ t, mg "LONGEST_NAME" = some (.int 8 t)
  isinst : mg "isinstance" = none
  str : mg "str" = none
  digits : ∃ t, mg "DIGITS" = some (.str dig t)
  mostD : ∃ t, mg "MOST_DIGITS" = some (.int 9 t)
section
variable {base : Heap} {P : Program} {w : World} {K : PySem.W.Frag} {mg : Str → Option Value}
def spName : Sp := fun vs H Q _ => ∃ z : Str, vs = [.str z] ∧ z.length ≤ 1000000 ∧ ∀ H', Same H H' → Q (.bl (nameB z)) H'
abbrev nIsName : List Str := ["word", "letter"]
theorem scIsName : FnScope nIsName ["word"] (defScope sIsName) := ⟨rfl, rfl, rfl, by decide +kernel, rfl, by decide +kernel, by decide +kernel⟩
/-- [.. in an alphabet for .. in word] over the signs -/
theorem signs_in {ab : Str} {z : Str} {σ : L2.St} {H : Hp} {Q : VK} {te : TE} (h0 : σ[0]? = some (some (.str z))) (hz : z.length ≤ 1000000)
    (hw : ∀ c : Nat, wipe ((wipe σ [1]).set 1 (some (.str ⟨#[c]⟩))) [1] = wipe σ [1])
    (he : ∀ (c : Nat) (H1 : Hp) (R : VK), R (.bl (decide (c ∈ tx ab))) H1 → te ((wipe σ [1]).set 1 (some (.str ⟨#[c]⟩))) H1 R)
    (k : ∀ D H', Same H H' → H' D = some (.lst (((tx z).map fun c => decide (c ∈ tx ab)).map V.bl)) → Q (.ref D) H') : tLc (iStr (tVar 0)) (gName 1) tYes te [1] σ H Q := by
  refine ⟨_, h0, z, rfl, fun D hD => ?_⟩
  have e0 : z.cps.size = (tx z).length := by simp [tx]
  refine lc_it (walk_str (z := z)) (fun i H' => Same H H' ∧ H' D = some (.lst ((((tx z).take i).map fun c => decide (c ∈ tx ab)).map V.bl))) ⟨same_upd hD, upd_same⟩ (fun _ _ _ _ => trivial) ?_ ?_
  · rintro i x H1 H2 hi ⟨s1, hd⟩ ⟨rfl, c, hc, rfl⟩
    refine ⟨hw c, ?_⟩
    show te _ H2 _
    refine he c H2 _ ?_
    have hc' : (tx z)[i]? = some c := by
      simpa [tx] using hc
    refine ⟨_, hd, ?_, same_new s1 hD, ?_⟩
    · rw [List.length_map, List.length_map, List.length_take]
      have : z.length = z.cps.size := rfl
      exact Nat.lt_of_le_of_lt (Nat.le_trans (Nat.min_le_left _ _) (Nat.le_trans (Nat.le_of_lt hi) (this ▸ hz))) (by decide)
    · rw [upd_same, take_one hc', List.map_append, List.map_append]
      rfl
  · rintro H1 ⟨s1, hd⟩
    refine k D H1 s1 ?_
    rw [hd, e0, List.take_length]
theorem all_map_id (l : List Nat) (p : Nat → Bool) : (l.map p).all id = l.all p := by
  rw [List.all_map]
  rfl
theorem ok_isName {f : Addr} {fd : FuncData} (F : Fun K "is_name" "is_name" sIsName f fd) (T : Txt2 K mg) : FnOk P w K mg base CX0 1 f fd ["word"] spName := by
  refine F.ok scIsName (fun vs H Q E h => ?_) (fun cdv A outer s H vs Q E hr h => ?_)
  · obtain ⟨z, rfl, _⟩ := h
    rfl
  · obtain ⟨z, rfl, hz, k⟩ := h
    obtain ⟨t1, g1⟩ := T.letters
    obtain ⟨t2, g2⟩ := T.longest
    refine ⟨_, pss_one (ps_ret (pe_and (pe_chain op_le op_le pe_int (pe_callB call_len_str (by rfl) T.len PySem.boot_len (pa_cons (pv 0) pa_nil)) (pe_glob (v := .int 8) (by rfl) g2 ⟨_, rfl⟩))
      (pe_one (pe_callB (cr_all rfl) (by rfl) T.all (by decide +kernel) (pa_cons (pe_lc (own := [("letter", 1)]) (g := gName 1) (tt := tYes) rfl scIsName.nd (pi_str (pv 0))
          (blkOk_by (N := nIsName) (sc := defScope sIsName) (by decide +kernel)) (fun _ _ _ _ _ => pg_name (i := 1) scIsName.nd rfl (Or.inl rfl)) (fun _ _ _ _ _ => pts_nil)
          (fun _ _ _ _ _ => pe_cmpR op_in_sign (pv 1) (pe_glob (v := .str abc) (by rfl) g1 ⟨_, rfl⟩) (by rfl))) pa_nil))))), ?_⟩
    refine ⟨_, rfl, z, rfl, Nat.le_trans hz (by decide), _, _, rfl, rfl, _, rfl, ?_⟩
    refine ite2 (fun h1 => ?_) (fun h1 => ?_)
    · refine ⟨_, _, rfl, rfl, _, rfl, ?_⟩
      refine ite2 (fun h2 => ?_) (fun h2 => ?_)
      · dsimp only [tCB, tCons, List.map]
        refine signs_in (ab := abc) (z := z) ?_ hz ?_ ?_ ?_
        · rfl
        · exact fun _ => rfl
        · exact fun c H1 R q => ⟨_, rfl, c, abc, rfl, rfl, q⟩
        intro D H1 s1 hl
        refine ⟨D, _, rfl, SqL.of hl, ?_⟩
        have e : nameB z = ((tx z).map fun c => decide (c ∈ tx abc)).all id := by
          rw [all_map_id]
          unfold nameB
          rw [decide_eq_true (show 1 ≤ z.length by have := of_decide_eq_true h1; omega), decide_eq_true (show z.length ≤ 8 by have := of_decide_eq_true h2; omega)]
          rfl
        rw [← e]
        exact k H1 s1
      · have e : nameB z = false := by
          unfold nameB
          rw [decide_eq_false (show ¬ z.length ≤ 8 from fun q => h2 (decide_eq_true (by omega)))]
          simp
        have q := k H (Same.refl H)
        rw [e] at q
        exact q
    · have e : nameB z = false := by
        unfold nameB
        rw [decide_eq_false (show ¬ 1 ≤ z.length from fun q => h1 (decide_eq_true (by omega)))]
        simp
      have q := k H (Same.refl H)
      rw [e] at q
      exact ⟨_, rfl, q⟩
end
/-! ### numbers -/
def digB (z : Str) : Bool := (tx z).all fun c => decide (c ∈ tx dig)
/-- what a word tells as a number -/
def numOf (z : Str) : Option Nat := if (1 ≤ z.length ∧ z.length ≤ 9) ∧ digB z = true then (if 1 < z.length ∧ (tx z).head? = some 48 then none else some (NumText.digitsVal (tx z))) else none
theorem dig_mem {c : Nat} : c ∈ tx dig ↔ 48 ≤ c ∧ c ≤ 57 := by
  have e : tx dig = [48, 49, 50, 51, 52, 53, 54, 55, 56, 57] := by decide +kernel
  rw [e]
  simp only [List.mem_cons, List.not_mem_nil, or_false]
  omega
theorem foldl_ge (l : List Nat) (a : Nat) : a ≤ l.foldl (fun acc c => acc * 10 + (c - 48)) a := by
  induction l generalizing a with
  | nil => exact Nat.le_refl _
  | cons c l ih =>
    have := ih (a * 10 + (c - 48))
    rw [List.foldl_cons]
    omega
theorem numOf_small {z : Str} {n : Nat} (h : n < 10) : numOf z = some n ↔ tx z = [48 + n] := by
  have hl : z.length = (tx z).length := by
    show z.cps.size = z.cps.toList.length
    simp
  unfold numOf digB
  rw [hl]
  generalize tx z = l
  cases l with
  | nil => simp
  | cons c r =>
    cases r with
    | nil =>
      constructor
      · intro e
        by_cases q : (1 ≤ [c].length ∧ [c].length ≤ 9) ∧ ([c].all fun c => decide (c ∈ tx dig)) = true
        · rw [if_pos q, if_neg (by simp)] at e
          have hc : decide (c ∈ tx dig) = true := List.all_eq_true.mp q.2 c (by simp)
          have hc := dig_mem.mp (of_decide_eq_true hc)
          have e2 : 0 * 10 + (c - 48) = n := Option.some.inj e
          have : c = 48 + n := by omega
          rw [this]
        · rw [if_neg q] at e
          cases e
      · intro e
        have ec : c = 48 + n := (List.cons.inj e).1
        have hc : c ∈ tx dig := dig_mem.mpr (by omega)
        rw [if_pos ⟨by simp, List.all_eq_true.mpr fun d hd => by rw [List.mem_singleton.mp hd]; exact decide_eq_true hc⟩, if_neg (by simp)]
        show some (0 * 10 + (c - 48)) = some n
        congr 1
        omega
    | cons d r =>
      constructor
      · intro e
        by_cases q : (1 ≤ (c :: d :: r).length ∧ (c :: d :: r).length ≤ 9) ∧ ((c :: d :: r).all fun c => decide (c ∈ tx dig)) = true
        · rw [if_pos q] at e
          have hc : decide (c ∈ tx dig) = true := List.all_eq_true.mp q.2 c (by simp)
          have hc := dig_mem.mp (of_decide_eq_true hc)
          by_cases z0 : 1 < (c :: d :: r).length ∧ (c :: d :: r).head? = some 48
          · rw [if_pos z0] at e
            cases e
          · rw [if_neg z0] at e
            have e2 : (c :: d :: r).foldl (fun acc c => acc * 10 + (c - 48)) 0 = n := Option.some.inj e
            rw [List.foldl_cons, List.foldl_cons] at e2
            have := foldl_ge r ((0 * 10 + (c - 48)) * 10 + (d - 48))
            have c48 : c ≠ 48 := fun q => z0 ⟨by simp, by rw [q]; rfl⟩
            omega
        · rw [if_neg q] at e
          cases e
      · intro e
        exact absurd (List.cons.inj e).2 (by simp)
section
variable {base : Heap} {P : Program} {w : World} {K : PySem.W.Frag} {mg : Str → Option Value}
def resN (o : Option Nat) (Q : VK) (H : Hp) : Prop := match o with
  | none => Q .non H
  | some n => Q (.int (n : Int)) H
def spNum : Sp := fun vs H Q _ => ∃ z : Str, vs = [.str z] ∧ z.length ≤ 1000000 ∧ ∀ H', Same H H' → resN (numOf z) Q H'
abbrev nNum : List Str := ["word", "letter"]
theorem scNum : FnScope nNum ["word"] (defScope sNum) := ⟨rfl, rfl, rfl, by decide +kernel, rfl, by decide +kernel, by decide +kernel⟩
theorem ok_num {f : Addr} {fd : FuncData} (F : Fun K "number_of" "number_of" sNum f fd) (T : Txt2 K mg) : FnOk P w K mg base CX0 1 f fd ["word"] spNum := by
  refine F.ok scNum (fun vs H Q E h => ?_) (fun cdv A outer s H vs Q E hr h => ?_)
  · obtain ⟨z, rfl, _⟩ := h
    rfl
  · obtain ⟨z, rfl, hz, k⟩ := h
    obtain ⟨t1, g1⟩ := T.digits
    obtain ⟨t2, g2⟩ := T.mostD
    refine ⟨_, pss_cons (ps_if (PW.pt (pw_or (pt_not (pt_chain op_le op_le pe_int (pe_callB call_len_str (by rfl) T.len PySem.boot_len (pa_cons (pv 0) pa_nil)) (pe_glob (v := .int 9) (by rfl) g2 ⟨_, rfl⟩)))
        (pw_or1 (pt_not (pt_val (pe_callB (cr_all rfl) (by rfl) T.all (by decide +kernel) (pa_cons (pe_lc (own := [("letter", 1)]) (g := gName 1) (tt := tYes) rfl scNum.nd (pi_str (pv 0))
          (blkOk_by (N := nNum) (sc := defScope sNum) (by decide +kernel)) (fun _ _ _ _ _ => pg_name (i := 1) scNum.nd rfl (Or.inl rfl)) (fun _ _ _ _ _ => pts_nil)
          (fun _ _ _ _ _ => pe_cmpR op_in_sign (pv 1) (pe_glob (v := .str dig) (by rfl) g1 ⟨_, rfl⟩) (by rfl))) pa_nil))))))) (pss_one (ps_ret pe_non)) pss_nil)
      (pss_cons (ps_if (PW.pt (pw_and (pt_cmpR op_gt (pe_callB call_len_str (by rfl) T.len PySem.boot_len (pa_cons (pv 0) pa_nil)) pe_int (nomark _))
        (pw_and1 (pt_cmpR op_eq (pe_ix ix_str (pv 0) pe_int (fun _ _ => rfl)) pe_str (nomark _))))) (pss_one (ps_ret pe_non)) pss_nil)
      (pss_one (ps_ret (pe_callTy call_int_str (by rfl) T.int (by decide +kernel) (pa_cons (pv 0) pa_nil))))), ?_⟩
    have no : numOf z = none → ∀ H1, Same H H1 → Q .non H1 := fun e H1 s1 => by
      have q := k H1 s1
      rw [e] at q
      exact q
    have lz : z.length = (tx z).length := by
      show z.cps.size = z.cps.toList.length
      simp
    refine ⟨_, rfl, z, rfl, Nat.le_trans hz (by decide), _, _, rfl, rfl, _, rfl, ?_⟩
    refine ite2 (fun h1 => ?_) (fun h1 => ?_)
    · refine ⟨_, _, rfl, rfl, _, rfl, ?_⟩
      refine ite2 (fun h2 => ?_) (fun h2 => ?_)
      · refine no (if_neg fun q => ?_) H (Same.refl H)
        have h2' : (!decide ((z.length : Int) ≤ 9)) = true := h2
        rw [decide_eq_true (show (z.length : Int) ≤ 9 by have := q.1.2; omega)] at h2'
        cases h2'
      · have l1 : 1 ≤ z.length := by
          have := of_decide_eq_true h1
          omega
        have l9 : z.length ≤ 9 := by
          have h2' : ¬ (!decide ((z.length : Int) ≤ 9)) = true := h2
          by_cases c : (z.length : Int) ≤ 9
          · omega
          · exact absurd (by rw [decide_eq_false c]; rfl) h2'
        dsimp only [tNot, tB, tCB, tCons, List.map]
        refine signs_in (ab := dig) (z := z) ?_ hz ?_ ?_ ?_
        · rfl
        · exact fun _ => rfl
        · exact fun c H1 R q => ⟨_, rfl, c, dig, rfl, rfl, q⟩
        intro D H1 s1 hl
        refine ⟨D, _, rfl, SqL.of hl, _, rfl, ?_⟩
        have e : ((tx z).map fun c => decide (c ∈ tx dig)).all id = digB z := by
          rw [all_map_id]
          rfl
        rw [e]
        refine ite2 (fun h3 => ?_) (fun h3 => ?_)
        · refine no (if_neg fun q => ?_) H1 s1
          rw [q.2] at h3
          cases h3
        · have d1 : digB z = true := by
            cases c : digB z with
            | true => rfl
            | false =>
              rw [c] at h3
              exact absurd rfl h3
          obtain ⟨c, r, hc⟩ : ∃ c r, tx z = c :: r := by
            cases q : tx z with
            | nil =>
              rw [lz, q] at l1
              exact absurd l1 (by decide)
            | cons c r => exact ⟨c, r, rfl⟩
          have num : numOf z = if 1 < z.length ∧ (tx z).head? = some 48 then none else some (NumText.digitsVal (tx z)) := if_pos ⟨⟨l1, l9⟩, d1⟩
          have fin : ¬ (1 < z.length ∧ (tx z).head? = some 48) → PySem.intText? z = some ((NumText.digitsVal (tx z) : Nat) : Int) ∧ resN (numOf z) Q H1 := fun q => by
            refine ⟨PySem.intText_digits (fun c hc => ?_) (by rw [show z.cps.toList = tx z from rfl, hc]; exact fun q => nomatch q) (by omega), k H1 s1⟩
            exact dig_mem.mp (of_decide_eq_true (List.all_eq_true.mp d1 c hc))
          have ret : ¬ (1 < z.length ∧ (tx z).head? = some 48) → ∃ (a : Str) (n : Int), ([V.str z] : List V) = [.str a] ∧ PySem.intText? a = some n ∧ a.length ≤ 640 ∧ Q (.int n) H1 := fun q => by
            obtain ⟨f1, f2⟩ := fin q
            refine ⟨z, _, rfl, f1, by omega, ?_⟩
            rw [num, if_neg q] at f2
            exact f2
          refine ⟨_, rfl, z, rfl, Nat.le_trans hz (by decide), _, _, rfl, rfl, _, rfl, ?_⟩
          refine ite2 (fun h4 => ?_) (fun h4 => ?_)
          · refine ⟨_, rfl, z, 0, c, rfl, rfl, Nat.le_trans hz (by decide), atI_nat (j := 0) (by rw [show z.cps.toList = tx z from rfl, hc]; rfl), rfl, _, rfl, ?_⟩
            have l2 : 1 < z.length := by
              have := of_decide_eq_true h4
              omega
            refine ite2 (fun h5 => ?_) (fun h5 => ?_)
            · refine no ?_ H1 s1
              rw [num, if_pos]
              refine ⟨l2, ?_⟩
              have := V.str.inj (of_decide_eq_true h5)
              rw [hc]
              have e2 : tx (⟨#[c]⟩ : Str) = tx "0" := congrArg tx this
              have e3 : [c] = [48] := e2.trans (by decide +kernel)
              rw [(List.cons.inj e3).1]
              rfl
            · refine ⟨_, rfl, ret fun q => h5 ?_⟩
              have q2 := q.2
              rw [hc] at q2
              have e2 : c = 48 := Option.some.inj q2
              rw [e2]
              exact decide_eq_true (congrArg V.str (TL.ext_tl (by decide +kernel)))
          · refine ⟨_, rfl, ret fun q => h4 (decide_eq_true ?_)⟩
            have := q.1
            omega
    · refine ⟨_, rfl, ?_⟩
      refine ite2 (fun _ => ?_) (fun q => absurd rfl q)
      refine no (if_neg fun q => h1 (decide_eq_true ?_)) H (Same.refl H)
      have := q.1.1
      omega
end
end K03

namespace K03
open PySem L2
abbrev sKeyOf : Stmt := top 46
abbrev sReadKeys : Stmt := top 47
theorem get_new {H : Hp} {p q : Addr} {o u : HO} (h : H q = some u) (hn : H p = none) : upd H p o q = some u := by
  rw [upd_ne (ne_of_none h hn)]
  exact h
/-! ### texts of plain signs -/
def Asc (z : Str) : Prop := ∀ c ∈ tx z, c < 128
theorem asc_ok {z : Str} (h : Asc z) : PyData.canLay0 (.str z) = true := by
  have e : PyData.canLay0 (.str z) = z.cps.all (· < 0x110000) := by
    simp only [PyData.canLay0]
    rfl
  rw [e, ← Array.all_toList]
  exact List.all_eq_true.mpr fun c hc => decide_eq_true (Nat.lt_trans (h c hc) (by decide))
theorem texts_lay : ∀ {l : List Str}, (∀ z ∈ l, Asc z) → PyData.canLayAll0 (l.map PyData.str) = true
  | [], _ => rfl
  | a :: l, h => by
    show (PyData.canLay0 (.str a) && PyData.canLayAll0 (l.map PyData.str)) = true
    rw [texts_lay (l := l) fun z hz => h z (List.mem_cons_of_mem _ hz)]
    rw [asc_ok (h a List.mem_cons_self)]
    rfl
theorem texts_depth : ∀ l : List Str, PyData.depthAll (l.map PyData.str) = 0
  | [] => rfl
  | a :: l => by
    show max (PyData.depth (.str a)) (PyData.depthAll (l.map PyData.str)) = 0
    rw [texts_depth l]
    simp [PyData.depth]
theorem texts_shaped {l : List Str} (h : ∀ z ∈ l, Asc z) : SeqAt.shaped (.list (l.map PyData.str)) = true := by
  unfold SeqAt.shaped
  have h1 : PyData.canLay0 (.list (l.map PyData.str)) = true := by
    simpa [PyData.canLay0] using texts_lay h
  have h2 : PyData.depth (.list (l.map PyData.str)) = 1 := by
    simp [PyData.depth, texts_depth]
  rw [h1, h2]
  rfl
theorem texts_dp {K : PySem.W.Frag} {H : Hp} : ∀ l : List Str, DpAll K H (l.map V.str) (l.map PyData.str)
  | [] => .nil
  | a :: l => .cons (.str a) (texts_dp l)
abbrev sWordsN : List Str := ["line"]
theorem scWords : FnScope sWordsN ["line"] (defScope sWords) := ⟨rfl, rfl, rfl, by decide +kernel, rfl, by decide +kernel, by decide +kernel⟩
section
variable {base : Heap} {P : Program} {w : World} {K : PySem.W.Frag} {mg : Str → Option Value}
def blank : Str := " "
def wordsOf (z : Str) : List Str := Txt.split z blank
def spWords : Sp := fun vs H Q _ => ∃ z : Str, vs = [.str z] ∧ z.length ≤ 1000000 ∧ ∀ p H', H p = none → Same H H' → H' p = some (.lst ((wordsOf z).map V.str)) → Q (.ref p) H'
theorem ok_words {f : Addr} {fd : FuncData} (F : Fun K "words_of" "words_of" sWords f fd) : FnOk P w K mg base CX0 1 f fd ["line"] spWords := by
  refine F.ok scWords (fun vs H Q E h => ?_) (fun cdv A outer s H vs Q E hr h => ?_)
  · obtain ⟨z, rfl, _⟩ := h
    rfl
  · obtain ⟨z, rfl, hz, k⟩ := h
    refine ⟨_, pss_one (ps_ret (pe_split (pv 0) pe_str)), ?_⟩
    refine ⟨_, rfl, ⟨_, rfl⟩, _, _, rfl, rfl, by decide +kernel, Nat.le_trans (Nat.add_le_add_right hz 2) (by decide), fun p hp => ?_⟩
    exact k p _ hp (same_upd hp) upd_same
theorem sqT_any {K : PySem.W.Frag} {H : Hp} {p : Addr} {xs : List V} (h : SqT K (fun _ => none) p xs) : SqT K H p xs := by
  (rcases h with (h | ⟨o, h⟩) | h)
  · cases h
  · cases h
  · exact .inr h
theorem cut_from (xs : List V) (n : Nat) : cutV xs (some (n : Int)) none = xs.drop n := by
  unfold cutV
  rw [HT.sIx_nat, HT.sIx_none]
  by_cases h : n ≤ xs.length
  · rw [Nat.min_eq_left h]
    (exact List.take_of_length_le (by rw [List.length_drop]; omega))
  · have h1 : min n xs.length = xs.length := Nat.min_eq_right (by omega)
    rw [h1, List.drop_length, List.drop_of_length_le (by omega)]
    simp
theorem units65 {k : Nat} {A : Around} (hr : Room k A) : A.units + 65 < cLine := by
  have := hr.un
  omega
theorem mem_joinL {S : List Nat} {c : Nat} : ∀ {ps : List (List Nat)} {p : List Nat}, p ∈ ps → c ∈ p → c ∈ TL.joinL S ps
  | [q], p, h, hc => by
    rw [List.mem_singleton.mp h] at hc
    exact hc
  | q :: r :: l, p, h, hc => by
    show c ∈ q ++ (S ++ TL.joinL S (r :: l))
    (rcases List.mem_cons.mp h with e | h)
    · rw [e] at hc
      exact List.mem_append_left _ hc
    · exact List.mem_append_right _ (List.mem_append_right _ (mem_joinL h hc))
theorem len_joinL {S : List Nat} : ∀ {ps : List (List Nat)} {p : List Nat}, p ∈ ps → p.length ≤ (TL.joinL S ps).length
  | [q], p, h => by
    rw [List.mem_singleton.mp h]
    exact Nat.le_refl _
  | q :: r :: l, p, h => by
    show _ ≤ (q ++ (S ++ TL.joinL S (r :: l))).length
    rw [List.length_append, List.length_append]
    (rcases List.mem_cons.mp h with e | h)
    · rw [e]
      omega
    · have := len_joinL (S := S) h
      omega
theorem split_mem {z y p : Str} (h : p ∈ Txt.split z y) : (∀ c ∈ tx p, c ∈ tx z) ∧ p.length ≤ z.length := by
  have e : TL.tl (Str.join y (Txt.split z y)) = TL.tl z := by rw [StrLaws.join_split]
  rw [TL.tl_join] at e
  have hm : TL.tl p ∈ (Txt.split z y).map TL.tl := List.mem_map_of_mem h
  refine ⟨fun c hc => ?_, ?_⟩
  · have := mem_joinL (S := TL.tl y) hm hc
    rw [e] at this
    exact this
  · have := len_joinL (S := TL.tl y) hm
    rw [e] at this
    rw [TL.len_tl, TL.len_tl]
    exact this
theorem words_asc {z : Str} (h : Asc z) : ∀ p ∈ wordsOf z, Asc p := fun p hp c hc => h c ((split_mem hp).1 c hc)
theorem words_len {z : Str} {n : Nat} (h : z.length ≤ n) : ∀ p ∈ wordsOf z, p.length ≤ n := fun p hp => Nat.le_trans (split_mem hp).2 h
/-! ### a tuple of which it is known that no dict hangs on it -/
def TupD (H : Hp) (p : Addr) (xs : List V) : Prop := ∃ o : Obj, H p = some (.frz o (.tup xs)) ∧ o.dict = none
theorem TupD.sq {K : PySem.W.Frag} {H : Hp} {p : Addr} {xs : List V} (h : TupD H p xs) : SqT K H p xs := by
  obtain ⟨o, e, _⟩ := h
  exact .inl (.inr ⟨o, e⟩)
theorem TupD.same {H H' : Hp} {p : Addr} {xs : List V} (h : TupD H p xs) (s : Same H H') : TupD H' p xs := by
  obtain ⟨o, e, d⟩ := h
  exact ⟨o, s _ _ e, d⟩
def tyTupD (x : V) (H : Hp) : Prop := ∃ p xs, x = .ref p ∧ TupD H p xs
theorem ty_tupD {X : Cx} : TyOk X "tuple" tyTupD := by
  intro pins σ H s x v I r ty
  obtain ⟨p, xs, rfl, o, e, d⟩ := ty
  cases r
  have ho := (I.hok p _ e).1
  obtain ⟨its, _, ⟨o2, h2, c2, _⟩, _⟩ := I.tuple (X := X) (show SqT X.K H p xs from .inl (.inr ⟨o, e⟩))
  refine ⟨⟨o2, h2, c2⟩, fun a ea => ?_⟩
  cases ea
  exact ⟨o, ho, d⟩
/-- tuple(a list), no dict hanging on it -/
theorem call_tupD {X : Cx} : CallR X (.type "tuple") (fun xs H Q => ∃ p ys, xs = [.ref p] ∧ SqL X.K H p ys ∧ ∀ (l : Addr) (o : Obj), H l = none → o.dict = none → Q (.ref l) (upd H l (.frz o (.tup ys)))) := by
  intro pins s σ H xs us Q I r h
  obtain ⟨p, ys, rfl, hq, q⟩ := h
  cases r with
  | cons rx rr =>
    cases rr
    cases rx
    obtain ⟨its, r', pl, hz⟩ := I.list hq
    have hlen := r'.length
    refine PySem.call_tuple_list pl.isList (fun h' kp => ?_) (by simp only [List.size_toArray] <;> omega)
    have I1 : Inv X pins σ H { s with heap := h' } := I.kept (t' := s.toks) kp
    have I2 : Inv X pins σ (upd H h'.objs.size (.frz { cls := .type "tuple", data := .seq its.toArray } (.tup ys))) { s with heap := h'.push { cls := .type "tuple", data := .seq its.toArray } } :=
      I1.laid (t' := s.toks) (fun b o e => Heap.get?_push_of_some _ e) (Nat.le_refl _) (show ObjOk X.prog X.w _ _ _ (.frz _ (.tup ys)) from ⟨Heap.get?_push_size _ rfl, hz, its, r', PyProof.Rows.IsTup.new _ _⟩)
    exact ⟨.ref h'.objs.size, _, I2, rfl, q _ _ (I1.hok.fresh (Nat.le_refl _)) rfl⟩
/-! ### key_of -/
def wKey : Str := "key"
/-- what the words of a line of a key tell -/
def keyOf : List Str → Option (Str × Nat)
  | [a, b, c] => if a = wKey ∧ nameB b = true ∧ (numOf c = some 2 ∨ numOf c = some 3) then some (b, if numOf c = some 2 then 2 else 3) else none
  | _ => none
def resK (o : Option (Str × Nat)) (Q : VK) (H : Hp) : Prop := match o with
  | none => Q .non H
  | some (b, n) => ∀ p, H p = some (.tup [.str b, .int (n : Int)]) → Q (.ref p) H
def spKey : Sp := fun vs H Q _ => ∃ z : Str, vs = [.str z] ∧ z.length ≤ 1000000 ∧ ∀ H', Same H H' → resK (keyOf (wordsOf z)) Q H'
structure Txt3 (K : PySem.W.Frag) (mg : Str → Option Value) : Prop extends Txt2 K mg where
  sizes : ∃ p, mg "SIZES" = some (.ref p) ∧ SqT K (fun _ => none) p ([.int 2, .int 3] : List V)
  most : ∃ t, mg "MOST_KEYS" = some (.int 3 t)
  tuple : mg "tuple" = none
abbrev nKeyOf : List Str := ["line", "words", "size"]
theorem scKeyOf : FnScope nKeyOf ["line"] (defScope sKeyOf) := ⟨rfl, rfl, rfl, by decide +kernel, rfl, by decide +kernel, by decide +kernel⟩
theorem resN_at {o : Option Nat} {Q : VK} {H : Hp} (h0 : o = none → Q .non H) (h1 : ∀ n, o = some n → Q (.int (n : Int)) H) : resN o Q H := by
  cases o with
  | none => exact h0 rfl
  | some n => exact h1 n rfl
theorem ok_keyOf {f : Addr} {fd : FuncData} (F : Fun K "key_of" "key_of" sKeyOf f fd) (T : Txt3 K mg) (GW : Has P w K mg base "words_of" 1 ["line"] spWords) (GN : Has P w K mg base "is_name" 1 ["word"] spName) (GM : Has P w K mg base "number_of" 1 ["word"] spNum) :
    FnOk P w K mg base CX0 2 f fd ["line"] spKey := by
  refine F.ok scKeyOf (fun vs H Q E h => ?_) (fun cdv A outer s H vs Q E hr h => ?_)
  · obtain ⟨z, rfl, _⟩ := h
    rfl
  · obtain ⟨z, rfl, hz, k⟩ := h
    obtain ⟨wp, gw, hwp⟩ := T.sizes
    refine ⟨_, pss_cons (ps_set (i := 1) scKeyOf.nd rfl (.inl rfl) (pe_has GW hr (pa_cons (pv 0) pa_nil)))
      (pss_cons (ps_if (PW.pt (pw_or (pt_cmpR op_ne (pe_callB call_len_seq (by rfl) T.len PySem.boot_len (pa_cons (pv 1) pa_nil)) pe_int (nomark _))
          (pw_or (pt_cmpR op_ne (pe_ix ix_list (pv 1) pe_int (fun _ _ => rfl)) pe_str (nomark _))
          (pw_or1 (pt_not (pt_val (pe_has GN hr (pa_cons (pe_ix ix_list (pv 1) pe_int (fun _ _ => rfl)) pa_nil)))))))) (pss_one (ps_ret pe_non)) pss_nil)
      (pss_cons (ps_set (i := 2) scKeyOf.nd rfl (.inl rfl) (pe_has GM hr (pa_cons (pe_ix ix_list (pv 1) pe_int (fun _ _ => rfl)) pa_nil)))
      (pss_cons (ps_if (pt_cmpR op_notIn_seq (pv 2) (pe_glob (v := .ref wp) (by rfl) gw rfl) (by rfl)) (pss_one (ps_ret pe_non)) pss_nil)
      (pss_one (ps_ret (pe_tup (pa_cons (pe_ix ix_list (pv 1) pe_int (fun _ _ => rfl)) (pa_cons (pv 2) pa_nil)))))))), ?_⟩
    refine ⟨_, rfl, z, rfl, hz, fun p H1 np s1 hp => ?_⟩
    have wl := words_len hz
    generalize hws : wordsOf z = ws at hp wl k
    have none_of : keyOf ws = none → ∀ H2, Same H H2 → Q .non H2 := fun e H2 s2 => by
      have q := k H2 s2
      rw [e] at q
      exact q
    refine ⟨_, rfl, p, _, rfl, .inl (SqL.of hp), rfl, _, rfl, ?_⟩
    refine ite2 (fun h3 => ?_) (fun h3 => ?_)
    · refine none_of ?_ H1 s1
      match ws, h3 with
      | [], _ => rfl
      | [_], _ => rfl
      | [_, _], _ => rfl
      | [_, _, _], h => exact absurd (show (!decide (V.int 3 = V.int 3)) = true from h) (by decide)
      | _ :: _ :: _ :: _ :: _, _ => rfl
    · obtain ⟨a, b, c, rfl⟩ : ∃ a b c, ws = [a, b, c] := by
        match ws, h3 with
        | [], h => exact absurd (show (!decide (V.int 0 = V.int 3)) = true by decide) h
        | [_], h => exact absurd (show (!decide (V.int 1 = V.int 3)) = true by decide) h
        | [_, _], h => exact absurd (show (!decide (V.int 2 = V.int 3)) = true by decide) h
        | [a, b, c], _ => exact ⟨a, b, c, rfl⟩
        | a :: b :: c :: d :: r, h =>
          exfalso
          refine h ?_
          show (!decide (V.int (((a :: b :: c :: d :: r).map V.str).length : Int) = V.int 3)) = true
          rw [decide_eq_false (fun e => by
            have := V.int.inj e
            simp only [List.length_map, List.length_cons] at this
            omega)]
          rfl
      refine ⟨_, rfl, p, _, 0, .str a, rfl, rfl, SqL.of hp, atI_nat (j := 0) rfl, rfl, _, rfl, ?_⟩
      refine ite2 (fun ha => ?_) (fun ha => ?_)
      · refine none_of (if_neg fun q => ?_) H1 s1
        have ha' : (!decide (V.str a = V.str wKey)) = true := ha
        rw [q.1, decide_eq_true rfl] at ha'
        cases ha'
      have ea : a = wKey := by
        by_cases e : a = wKey
        · exact e
        · exfalso
          refine ha ?_
          show (!decide (V.str a = V.str wKey)) = true
          rw [decide_eq_false (fun q => e (V.str.inj q))]
          rfl
      refine ⟨_, rfl, p, _, 1, .str b, rfl, rfl, SqL.of hp, atI_nat (j := 1) rfl, b, rfl, wl b (by simp), fun H2 s2 => ⟨_, rfl, ?_⟩⟩
      have hp2 := s2 _ _ hp
      have s02 := s1.trans s2
      refine ite2 (fun hb => ?_) (fun hb => ?_)
      · refine none_of (if_neg fun q => ?_) H2 s02
        rw [q.2.1] at hb
        cases hb
      have eb : nameB b = true := by
        cases e : nameB b with
        | true => rfl
        | false =>
          rw [e] at hb
          exact absurd rfl hb
      refine ⟨_, rfl, p, _, 2, .str c, rfl, rfl, SqL.of hp2, atI_nat (j := 2) rfl, c, rfl, wl c (by simp), fun H3 s3 => ?_⟩
      have s03 := s02.trans s3
      have hp3 := s3 _ _ hp2
      refine resN_at (fun e => ?_) (fun n e => ?_)
      · refine ⟨_, rfl, wp, _, rfl, .inr (sqT_any hwp), rfl, rfl, _, rfl, ?_⟩
        refine none_of (if_neg fun q => ?_) H3 s03
        rw [e] at q
        rcases q.2.2 with q | q <;> cases q
      · refine ⟨_, rfl, wp, _, rfl, .inr (sqT_any hwp), rfl, rfl, _, rfl, ?_⟩
        refine ite2 (fun hc => ?_) (fun hc => ?_)
        · refine none_of (if_neg fun q => ?_) H3 s03
          have hc' : (!(((2 : Int) == (n : Int)) || ((3 : Int) == (n : Int) || false))) = true := hc
          rw [e] at q
          rcases q.2.2 with q | q
          · rw [Option.some.inj q] at hc'
            exact absurd hc' (by decide)
          · rw [Option.some.inj q] at hc'
            exact absurd hc' (by decide)
        · have e23 : n = 2 ∨ n = 3 := by
            by_cases c2 : n = 2
            · exact .inl c2
            by_cases c3 : n = 3
            · exact .inr c3
            exfalso
            refine hc ?_
            show (!(((2 : Int) == (n : Int)) || ((3 : Int) == (n : Int) || false))) = true
            rw [beq_eq_false_iff_ne.mpr (show (2 : Int) ≠ (n : Int) by omega), beq_eq_false_iff_ne.mpr (show (3 : Int) ≠ (n : Int) by omega)]
            rfl
          have ek : keyOf [a, b, c] = some (b, n) := by
            show (if _ then _ else _) = _
            rw [if_pos ⟨ea, eb, by rcases e23 with q | q <;> rw [e, q] <;> simp⟩, e]
            rcases e23 with q | q
            · rw [q, if_pos rfl]
            · rw [q, if_neg (by simp)]
          refine ⟨_, rfl, p, _, 1, .str b, rfl, rfl, SqL.of hp3, atI_nat (j := 1) rfl, _, rfl, (by show 2 ≤ sizeLine; decide), fun q nq => ?_⟩
          have r := k _ (s03.trans (same_upd (o := .tup [.str b, .int (n : Int)]) nq))
          rw [ek] at r
          exact r q upd_same
/-! ### read_keys -/
abbrev Key := Str × Nat
def keysOf (acc : List Key) : List Str → List Key
  | [] => acc
  | l :: r => match keyOf (wordsOf l) with
    | none => acc
    | some p => if p.1 ∈ acc.map (·.1) then acc else keysOf (acc ++ [p]) r
def namesV (ks : List Key) : List V := ks.map fun k => V.str k.1
def sizesV (ks : List Key) : List V := ks.map fun k => V.int (k.2 : Int)
theorem flats_names (ks : List Key) : (namesV ks).all flatV = true := by
  induction ks with
  | nil => rfl
  | cons r l ih =>
    show (flatV (.str r.1) && (namesV l).all flatV) = true
    rw [ih]
    rfl
theorem inV_names (b : Str) (ks : List Key) : inV (.str b) (namesV ks) = decide (b ∈ ks.map (·.1)) := by
  induction ks with
  | nil => rfl
  | cons r l ih =>
    show (eqV (.str r.1) (.str b) || inV (.str b) (namesV l)) = _
    rw [ih]
    show ((r.1 == b) || decide (b ∈ l.map (·.1))) = decide (b ∈ r.1 :: l.map (·.1))
    by_cases h : r.1 = b
    · rw [h, beq_self_eq_true, Bool.true_or]
      exact (decide_eq_true List.mem_cons_self).symm
    · rw [beq_eq_false_iff_ne.mpr h, Bool.false_or]
      exact decide_eq_decide.mpr ⟨fun z => List.mem_cons_of_mem _ z, fun z => (List.mem_cons.mp z).resolve_left fun e => h e.symm⟩
theorem cut_to (xs : List V) (n : Nat) : cutV xs none (some (n : Int)) = xs.take n := by
  unfold cutV
  rw [HT.sIx_nat, HT.sIx_none]
  show (xs.drop 0).take (min n xs.length - 0) = _
  rw [List.drop_zero, Nat.sub_zero]
  by_cases h : n ≤ xs.length
  · rw [Nat.min_eq_left h]
  · rw [Nat.min_eq_right (by omega), List.take_of_length_le (Nat.le_refl _), List.take_of_length_le (by omega)]
def spRKeys (K : PySem.W.Frag) : Sp := fun vs H Q _ => ∃ (a : Addr) (ls : List Str), vs = [.ref a] ∧ SqL K H a (ls.map V.str) ∧ (∀ l ∈ ls, l.length ≤ 1000000) ∧
  ∀ H' p q1 q2, Same H H' → H' p = some (.tup [.ref q1, .ref q2]) → TupD H' q1 (namesV (keysOf [] (ls.take 3))) → H' q2 = some (.tup (sizesV (keysOf [] (ls.take 3)))) → Q (.ref p) H'
abbrev nRKeys : List Str := ["lines", "names", "sizes", "line", "key"]
theorem scRKeys : FnScope nRKeys ["lines"] (defScope sReadKeys) := ⟨rfl, rfl, rfl, by decide +kernel, rfl, by decide +kernel, by decide +kernel⟩
theorem ok_readKeys {f : Addr} {fd : FuncData} (F : Fun K "read_keys" "read_keys" sReadKeys f fd) (T : Txt3 K mg) (GK : Has P w K mg base "key_of" 2 ["line"] spKey) : FnOk P w K mg base CX0 3 f fd ["lines"] (spRKeys K) := by
  refine F.ok scRKeys (fun vs H Q E h => ?_) (fun cdv A outer s H vs Q E hr h => ?_)
  · obtain ⟨a, ls, rfl, _⟩ := h
    rfl
  · obtain ⟨a, ls, rfl, hS, hl, k⟩ := h
    obtain ⟨t3, g3⟩ := T.most
    refine ⟨_, pss_cons (ps_set (i := 1) scRKeys.nd rfl (.inl rfl) (pe_lst pa_nil))
      (pss_cons (ps_set (i := 2) scRKeys.nd rfl (.inl rfl) (pe_lst pa_nil))
      (pss_cons (ps_for PassesOwn.never rfl (pi_list (pe_slice sl_list (pv 0) po_none (po_some (pe_glob (v := .int 3) (by rfl) g3 ⟨_, rfl⟩)))) (pg_name (i := 3) scRKeys.nd rfl (.inl rfl))
        (pss_cons (ps_set (i := 4) scRKeys.nd rfl (.inl rfl) (pe_has GK hr (pa_cons (pv 3) pa_nil)))
        (pss_cons (ps_if (PW.pt (pw_or (pt_cmpR op_isN (pv 4) pe_non (nomark _)) (pw_or1 (pt_cmpR op_in_seq (pe_ix ix_tup (pv 4) pe_int (fun _ _ => rfl)) (pv 1) (by rfl))))) (pss_one ps_break) pss_nil)
        (pss_cons (ps_expr (pe_bm PySem.F.plainAttrs_list PySem.F.slot_list_append PySem.F.type_list_append mt_append (pv 1) (pa_cons (pe_ix ix_tup (pv 4) pe_int (fun _ _ => rfl)) pa_nil)))
        (pss_one (ps_expr (pe_bm PySem.F.plainAttrs_list PySem.F.slot_list_append PySem.F.type_list_append mt_append (pv 2) (pa_cons (pe_ix ix_tup (pv 4) pe_int (fun _ _ => rfl)) pa_nil))))))))
      (pss_one (ps_ret (pe_tup (pa_cons (pe_callTy call_tupD (by rfl) T.tuple (by decide +kernel) (pa_cons (pv 1) pa_nil)) (pa_cons (pe_callTy call_tuple_of (by rfl) T.tuple (by decide +kernel) (pa_cons (pv 2) pa_nil)) pa_nil))))))), ?_⟩
    refine ⟨Nat.zero_le _, fun R1 nR1 => ⟨Nat.zero_le _, fun R2 nR2 => ?_⟩⟩
    have n12 : R1 ≠ R2 := fun e => by
      rw [← e, upd_same] at nR2
      cases nR2
    have sR : Same H (upd (upd H R1 (.lst [])) R2 (.lst [])) := (same_upd nR1).trans (same_upd nR2)
    -- behind the loop
    have fin : ∀ (acc : List Key) (v3 v4 : Option V) (H1 : Hp), keysOf [] (ls.take 3) = acc → Same H H1 → H1 R1 = some (.lst (namesV acc)) → H1 R2 = some (.lst (sizesV acc)) →
        (tRet (tTup (tCons (tCB (fun xs H Q => ∃ p ys, xs = [.ref p] ∧ SqL K H p ys ∧ ∀ (l : Addr) (o : Obj), H l = none → o.dict = none → Q (.ref l) (upd H l (.frz o (.tup ys)))) (tCons (tVar 1) tNil)) (tCons (tCB (fun xs H Q => ∃ p ys, xs = [.ref p] ∧ ((SqL K H p ys ∧ ∀ l, H l = none → Q (.ref l) (upd H l (.tup ys))) ∨ (SqT K H p ys ∧ Q (.ref p) H))) (tCons (tVar 2) tNil)) tNil))))
          { nx := fun _ H' => Q .non H', rt := Q } [some (.ref a), some (.ref R1), some (.ref R2), v3, v4] H1 := fun acc v3 v4 H1 e s1 h1 h2 => by
      refine ⟨_, rfl, R1, _, rfl, SqL.of h1, fun q1 o1 n1 d1 => ?_⟩
      refine ⟨_, rfl, R2, _, rfl, .inl ⟨SqL.of (get_new h2 n1), fun q2 n2 => ?_⟩⟩
      refine ⟨(by show 2 ≤ sizeLine; decide), fun p np => ?_⟩
      refine k _ p q1 q2 (((s1.trans (same_upd n1)).trans (same_upd n2)).trans (same_upd np)) upd_same ?_ ?_
      · rw [e]
        exact ⟨o1, get_new (get_new upd_same n2) np, d1⟩
      · rw [e]
        exact get_new upd_same np
    refine ⟨_, rfl, 3, rfl, a, _, rfl, sR.seq hS, fun L nL => ?_⟩
    have hcut : cutV (ls.map V.str) none (some 3) = (ls.take 3).map V.str := by
      have := cut_to (ls.map V.str) 3
      rw [List.map_take]
      exact this
    rw [hcut]
    have nL1 : L ≠ R1 := fun e => by
      rw [e, upd_ne n12, upd_same] at nL
      cases nL
    have nL2 : L ≠ R2 := fun e => by
      rw [e, upd_same] at nL
      cases nL
    refine ⟨L, rfl, ⟨_, SqL.of upd_same⟩, for_list (K := K) (a := L) (xs := (ls.take 3).map V.str) (fun i σ H1 => ∃ (acc : List Key) (v3 v4 : Option V), σ = [some (.ref a), some (.ref R1), some (.ref R2), v3, v4] ∧ Same H H1 ∧ H1 R1 = some (.lst (namesV acc)) ∧ H1 R2 = some (.lst (sizesV acc)) ∧
        H1 L = some (.lst ((ls.take 3).map V.str)) ∧ acc.length = i ∧ keysOf [] (ls.take 3) = keysOf acc ((ls.take 3).drop i))
      ⟨[], none, none, rfl, sR.trans (same_upd nL), by rw [upd_ne nL1.symm, upd_ne n12, upd_same]; rfl, by rw [upd_ne nL2.symm, upd_same]; rfl, upd_same, rfl, rfl⟩ (fun i σ H1 _ ⟨_, _, _, _, _, _, _, q, _⟩ => SqL.of q) ?_ ?_⟩
    · rintro i x σ H1 hx ⟨acc, v3, v4, rfl, s1, h1, h2, hL, ha, hk⟩
      rw [List.getElem?_map] at hx
      obtain ⟨l, hl1, rfl⟩ := Option.map_eq_some_iff.mp hx
      have i3 : i < 3 := by
        have := (List.getElem?_eq_some_iff.mp hl1).1
        rw [List.length_take] at this
        omega
      have lm1 := hl l (List.mem_of_mem_take (List.mem_of_getElem? hl1))
      have ed : (ls.take 3).drop i = l :: (ls.take 3).drop (i + 1) := by
        obtain ⟨hlt, hv⟩ := List.getElem?_eq_some_iff.mp hl1
        rw [List.drop_eq_getElem_cons hlt, hv]
      rw [ed] at hk
      refine ⟨_, rfl, l, rfl, lm1, fun H2 s2 => ?_⟩
      have s02 := s1.trans s2
      cases hp : keyOf (wordsOf l) with
      | none =>
        refine ⟨_, rfl, rfl, _, rfl, ?_⟩
        refine ite2 (fun _ => ?_) (fun q => absurd (decide_eq_true rfl) q)
        refine fin acc _ _ H2 ?_ s02 (s2 _ _ h1) (s2 _ _ h2)
        rw [hk]
        show (match keyOf (wordsOf l) with | none => acc | some p => _) = _
        rw [hp]
      | some row =>
        obtain ⟨b, n⟩ := row
        have hstep : keysOf [] (ls.take 3) = if b ∈ acc.map (·.1) then acc else keysOf (acc ++ [(b, n)]) ((ls.take 3).drop (i + 1)) := by
          rw [hk]
          show (match keyOf (wordsOf l) with | none => acc | some p => _) = _
          rw [hp]
        intro p hp2
        refine ⟨_, rfl, rfl, _, rfl, ?_⟩
        refine ite2 (fun z => by cases of_decide_eq_true z) (fun _ => ?_)
        refine ⟨_, rfl, p, _, 0, .str b, rfl, rfl, SqT.of hp2, atI_nat (j := 0) rfl, _, rfl, R1, _, rfl, .inl (SqL.of (s2 _ _ h1)), rfl, flats_names acc, _, rfl, ?_⟩
        have ein := inV_names b acc
        refine ite2 (fun c => ?_) (fun c => ?_)
        · have c' : inV (.str b) (namesV acc) = true := c
          rw [ein] at c'
          refine fin acc _ _ H2 ?_ s02 (s2 _ _ h1) (s2 _ _ h2)
          rw [hstep, if_pos (of_decide_eq_true c')]
        have nb : ¬ b ∈ acc.map (·.1) := fun e => c (by
          show inV (.str b) (namesV acc) = true
          rw [ein]
          exact decide_eq_true e)
        have h1' := s2 _ _ h1
        have np1 : p ≠ R1 := fun e => by
          rw [e, h1'] at hp2
          cases hp2
        have np2 : p ≠ R2 := fun e => by
          rw [e, s2 _ _ h2] at hp2
          cases hp2
        refine ⟨_, rfl, .inl ⟨rfl, _, SqL.of h1'⟩, _, rfl, p, _, 0, .str b, rfl, rfl, SqT.of hp2, atI_nat (j := 0) rfl, R1, _, _, rfl, rfl, h1', ?_, ?_⟩
        · show (acc.map _).length < sizeLine
          rw [List.length_map]
          exact small1000 (by omega)
        have h2' : (upd H2 R1 (.lst (namesV acc ++ [V.str b]))) R2 = some (.lst (sizesV acc)) := by
          rw [upd_ne n12.symm]
          exact s2 _ _ h2
        refine ⟨_, rfl, .inl ⟨rfl, _, SqL.of h2'⟩, _, rfl, p, _, 1, .int (n : Int), rfl, rfl, SqT.of (by rw [upd_ne np1]; exact hp2), atI_nat (j := 1) rfl, R2, _, _, rfl, rfl, h2', ?_, ?_⟩
        · show (acc.map _).length < sizeLine
          rw [List.length_map]
          exact small1000 (by omega)
        have nf : ∀ x, H x = none → ∀ o', Same H H2 → Same H (upd H2 x o') := fun x hx o' q => same_new q hx
        refine ⟨acc ++ [(b, n)], _, _, rfl, ?_, ?_, ?_, ?_, by rw [List.length_append, ha]; rfl, ?_⟩
        · refine same_new (same_new s02 nR1) ?_
          exact (same_upd nR1).free nR2
        · rw [upd_ne n12, upd_same]
          unfold namesV
          rw [List.map_append]
          rfl
        · rw [upd_same]
          unfold sizesV
          rw [List.map_append]
          rfl
        · rw [upd_ne nL2, upd_ne nL1]
          exact s2 _ _ hL
        · rw [hstep, if_neg nb]
    · rintro σ H1 ⟨acc, v3, v4, rfl, s1, h1, h2, hL, ha, hk⟩
      refine fin acc _ _ H1 ?_ s1 h1 h2
      rw [hk, List.length_map, List.drop_length]
      rfl
end
end K03

namespace K03
open PySem L2
abbrev sLitOf : Stmt := top 22
abbrev sLitsOf : Stmt := top 23
abbrev sIsSo : Stmt := top 24
abbrev sTruth : Stmt := top 25
/-! ### lits -/
abbrev Lit := Nat × Bool × Nat
def wEq : Str := "="
def wNe : Str := "!="
def wRule : Str := "rule"
def wOr : Str := "or"
def litV (l : Lit) : List V := [.int (l.1 : Int), .bl l.2.1, .int (l.2.2 : Int)]
def idxS (a : Str) : List Key → Nat
  | [] => 0
  | k :: r => if k.1 = a then 0 else idxS a r + 1
theorem idxS_at {a : Str} : ∀ {ks : List Key}, a ∈ ks.map (·.1) → ∃ n, ks[idxS a ks]? = some (a, n)
  | [], h => nomatch h
  | k :: r, h => by
    by_cases e : k.1 = a
    · refine ⟨k.2, ?_⟩
      unfold idxS
      rw [if_pos e, ← e]
      rfl
    · obtain ⟨n, q⟩ := idxS_at (ks := r) ((List.mem_cons.mp h).resolve_left fun z => e z.symm)
      refine ⟨n, ?_⟩
      unfold idxS
      rw [if_neg e]
      exact q
theorem idxS_first {a : Str} : ∀ {ks : List Key} {m : Nat}, m < idxS a ks → ∀ k, ks[m]? = some k → k.1 ≠ a
  | [], m, h, k, _ => absurd h (Nat.not_lt_zero _)
  | k0 :: r, m, h, k, hk => by
    unfold idxS at h
    by_cases e : k0.1 = a
    · rw [if_pos e] at h
      exact absurd h (Nat.not_lt_zero _)
    · rw [if_neg e] at h
      cases m with
      | zero =>
        cases hk
        exact e
      | succ m => exact idxS_first (ks := r) (m := m) (by omega) k hk
/-- what three words tell -/
def litOf (ks : List Key) (a b c : Str) : Option Lit :=
  if a ∈ ks.map (·.1) ∧ (b = wEq ∨ b = wNe) then
    match numOf c with
    | none => none
    | some n => if n < (ks.getD (idxS a ks) (a, 0)).2 then some (idxS a ks, decide (b = wEq), n) else none
  else none
def resL (o : Option Lit) (Q : VK) (H : Hp) : Prop := match o with
  | none => Q .non H
  | some l => ∀ p, H p = some (.tup (litV l)) → Q (.ref p) H
def spLit (K : PySem.W.Frag) : Sp := fun vs H Q _ => ∃ (wp np sp : Addr) (a b c : Str) (ks : List Key), vs = [.ref wp, .ref np, .ref sp] ∧ SqL K H wp ([a, b, c].map V.str) ∧ TupD H np (namesV ks) ∧ SqT K H sp (sizesV ks) ∧ c.length ≤ 1000000 ∧
  ∀ H', Same H H' → resL (litOf ks a b c) Q H'
theorem sqT_same {K : PySem.W.Frag} {H H' : Hp} {p : Addr} {xs : List V} (s : Same H H') (h : SqT K H p xs) : SqT K H' p xs := by
  rcases h with (h | ⟨o, h⟩) | h
  · exact .inl (.inl (s _ _ h))
  · exact .inl (.inr ⟨o, s _ _ h⟩)
  · exact .inr h
abbrev nLitOf : List Str := ["words", "names", "sizes", "name", "sign", "word", "worth", "place"]
theorem scLitOf : FnScope nLitOf ["words", "names", "sizes"] (defScope sLitOf) := ⟨rfl, rfl, rfl, by decide +kernel, rfl, by decide +kernel, by decide +kernel⟩
section
variable {base : Heap} {P : Program} {w : World} {K : PySem.W.Frag} {mg : Str → Option Value}
theorem ok_litOf {f : Addr} {fd : FuncData} (F : Fun K "lit_of" "lit_of" sLitOf f fd) (GM : Has P w K mg base "number_of" 1 ["word"] spNum) : FnOk P w K mg base CX0 2 f fd ["words", "names", "sizes"] (spLit K) := by
  refine F.ok scLitOf (fun vs H Q E h => ?_) (fun cdv A outer s H vs Q E hr h => ?_)
  · obtain ⟨wp, np, sp, a, b, c, ks, rfl, _⟩ := h
    rfl
  · obtain ⟨wp, np, sp, a, b, c, ks, rfl, hw, hn, hs, hc, k⟩ := h
    refine ⟨_, pss_cons (ps_asg (pv 0) (pg_unl rfl (pgs_cons (pg_name (i := 3) scLitOf.nd rfl (.inl rfl)) (pgs_cons (pg_name (i := 4) scLitOf.nd rfl (.inl rfl)) (pgs_cons (pg_name (i := 5) scLitOf.nd rfl (.inl rfl)) pgs_nil)))))
      (pss_cons (ps_set (i := 6) scLitOf.nd rfl (.inl rfl) (pe_has GM hr (pa_cons (pv 5) pa_nil)))
      (pss_cons (ps_if (PW.pt (pw_or (pt_cmpR op_notIn_seq (pv 3) (pv 1) (by rfl)) (pw_or (pt_cmpR op_notIn_seq (pv 4) (pe_tup (pa_cons pe_str (pa_cons pe_str pa_nil))) (by rfl)) (pw_or1 (pt_cmpR op_isN (pv 6) pe_non (nomark _)))))) (pss_one (ps_ret pe_non)) pss_nil)
      (pss_cons (ps_set (i := 7) scLitOf.nd rfl (.inl rfl) (pe_mG ty_tupD PySem.F.plainAttrs_tuple PySem.F.slot_tuple_index PySem.F.type_tuple_index mt_tup_index (pv 1) (pa_cons (pv 3) pa_nil)))
      (pss_cons (ps_if (pt_cmpR op_ge (pv 6) (pe_ix ix_tup (pv 2) (pv 7) (fun _ _ => rfl)) (nomark _)) (pss_one (ps_ret pe_non)) pss_nil)
      (pss_one (ps_ret (pe_tup (pa_cons (pv 7) (pa_cons (pe_cmpR op_eq (pv 4) pe_str (nomark _)) (pa_cons (pv 6) pa_nil)))))))))), ?_⟩
    have none_of : litOf ks a b c = none → ∀ H2, Same H H2 → Q .non H2 := fun e H2 s2 => by
      have q := k H2 s2
      rw [e] at q
      exact q
    refine ⟨_, rfl, ?_⟩
    refine ⟨wp, _, rfl, hw, rfl, .str a, _, rfl, .str b, _, rfl, .str c, _, rfl, rfl, ?_⟩
    refine ⟨_, rfl, c, rfl, hc, fun H1 s1 => ?_⟩
    have ein := inV_names a ks
    refine resN_at (fun e => ?_) (fun n e => ?_)
    · have e0 : litOf ks a b c = none := by
        unfold litOf
        rw [e]
        split <;> rfl
      refine ⟨_, rfl, _, rfl, np, _, rfl, .inr (hn.same s1).sq, rfl, flats_names ks, _, rfl, ?_⟩
      refine ite2 (fun _ => none_of e0 H1 s1) (fun _ => ?_)
      refine ⟨_, rfl, (by show 2 ≤ sizeLine; decide), fun t nt => ?_⟩
      refine ⟨t, _, rfl, .inr (SqT.of upd_same), rfl, rfl, _, rfl, ?_⟩
      have s2 := s1.trans (same_upd (o := .tup [V.str "=", V.str "!="]) nt)
      refine ite2 (fun _ => none_of e0 _ s2) (fun _ => ?_)
      refine ⟨_, rfl, rfl, _, rfl, ?_⟩
      refine ite2 (fun _ => none_of e0 _ s2) (fun q => absurd (decide_eq_true rfl) q)
    · refine ⟨_, rfl, _, rfl, np, _, rfl, .inr (hn.same s1).sq, rfl, flats_names ks, _, rfl, ?_⟩
      refine ite2 (fun h1 => ?_) (fun h1 => ?_)
      · refine none_of (if_neg fun q => ?_) H1 s1
        have h1' : (!inV (.str a) (namesV ks)) = true := h1
        rw [ein, decide_eq_true q.1] at h1'
        cases h1'
      have ha : a ∈ ks.map (·.1) := by
        by_cases q : a ∈ ks.map (·.1)
        · exact q
        · exfalso
          refine h1 ?_
          show (!inV (.str a) (namesV ks)) = true
          rw [ein, decide_eq_false q]
          rfl
      refine ⟨_, rfl, (by show 2 ≤ sizeLine; decide), fun t nt => ?_⟩
      refine ⟨t, _, rfl, .inr (SqT.of upd_same), rfl, rfl, _, rfl, ?_⟩
      have s2 := s1.trans (same_upd (o := .tup [V.str "=", V.str "!="]) nt)
      have eb : inV (.str b) [.str "=", .str "!="] = decide (b = wEq ∨ b = wNe) := by
        show ((wEq == b) || ((wNe == b) || false)) = _
        by_cases q : b = wEq
        · rw [q]
          simp
        · by_cases q2 : b = wNe
          · rw [q2]
            simp
          · rw [beq_eq_false_iff_ne.mpr fun z => q z.symm, beq_eq_false_iff_ne.mpr fun z => q2 z.symm, decide_eq_false fun z => z.elim q q2]
            rfl
      refine ite2 (fun h2 => ?_) (fun h2 => ?_)
      · refine none_of (if_neg fun q => ?_) _ s2
        have h2' : (!inV (.str b) [.str "=", .str "!="]) = true := h2
        rw [eb, decide_eq_true q.2] at h2'
        cases h2'
      have hb : b = wEq ∨ b = wNe := by
        by_cases q : b = wEq ∨ b = wNe
        · exact q
        · exfalso
          refine h2 ?_
          show (!inV (.str b) [.str "=", .str "!="]) = true
          rw [eb, decide_eq_false q]
          rfl
      refine ⟨_, rfl, rfl, _, rfl, ?_⟩
      refine ite2 (fun z => by cases of_decide_eq_true z) (fun _ => ?_)
      obtain ⟨sz, hat⟩ := idxS_at ha
      have hat2 : (ks.map (·.1))[idxS a ks]? = some a := by
        rw [List.getElem?_map, hat]
        rfl
      have hn2 : SqT K (upd H1 t (.tup [V.str "=", V.str "!="])) np ((ks.map (·.1)).map V.str) := by
        have e : (ks.map (·.1)).map V.str = namesV ks := by
          unfold namesV
          rw [List.map_map]
          rfl
        rw [e]
        exact (hn.same s2).sq
      refine ⟨_, rfl, ⟨np, _, rfl, hn.same s2⟩, _, rfl, np, ks.map (fun k : Key => k.1), a, idxS a ks, rfl, rfl, hn2, hat2, fun m hm q => ?_, ?_⟩
      · rw [List.getElem?_map] at q
        obtain ⟨k0, q1, q2⟩ := Option.map_eq_some_iff.mp q
        exact idxS_first hm k0 q1 q2
      have hsz : atI (sizesV ks) ((idxS a ks : Nat) : Int) = some (.int (sz : Int)) := atI_nat (by
        unfold sizesV
        rw [List.getElem?_map, hat]
        rfl)
      have hgd : ks.getD (idxS a ks) (a, 0) = (a, sz) := by
        rw [List.getD_eq_getElem?_getD, hat]
        rfl
      have el : litOf ks a b c = if n < sz then some (idxS a ks, decide (b = wEq), n) else none := by
        unfold litOf
        rw [if_pos ⟨ha, hb⟩, e, hgd]
      refine ⟨_, rfl, _, rfl, _, rfl, sp, _, _, _, rfl, rfl, sqT_same s2 hs, hsz, _, _, rfl, rfl, _, rfl, ?_⟩
      refine ite2 (fun h3 => ?_) (fun h3 => ?_)
      · refine none_of ?_ _ s2
        have h3' := of_decide_eq_true h3
        rw [el, if_neg (by omega)]
      have hlt : n < sz := by
        by_cases q : n < sz
        · exact q
        · exact absurd (decide_eq_true (by omega)) h3
      refine ⟨_, rfl, _, rfl, rfl, _, rfl, (by show 3 ≤ sizeLine; decide), fun p np2 => ?_⟩
      have q := k _ (s2.trans (same_upd (o := .tup [V.int ((idxS a ks : Nat) : Int), V.bl (decide (V.str b = V.str "=")), V.int (n : Int)]) np2))
      rw [el, if_pos hlt] at q
      refine q p ?_
      rw [upd_same]
      have ed : decide (V.str b = V.str "=") = decide (b = wEq) := decide_eq_decide.mpr ⟨V.str.inj, congrArg V.str⟩
      rw [ed]
      rfl
end
end K03

namespace K03
open L2 PySem PySem.Spec PyProof.Rows
/-! ### slices with a step -/
def pickI {α : Type} (xs : List α) (ix : List Nat) : List α := ix.filterMap fun i => xs[i]?
def pickV (xs : List V) (lo hi st : Option Int) : List V := pickI xs (sliceRange (sliceBounds lo hi st xs.length).1 (sliceBounds lo hi st xs.length).2.1 (sliceBounds lo hi st xs.length).2.2)
theorem vals_at : ∀ {xs : List V} {us : List Value} (i : Nat), Vals xs us → (∃ x u, xs[i]? = some x ∧ us[i]? = some u ∧ RelV x u) ∨ (xs[i]? = none ∧ us[i]? = none)
  | _, _, _, .nil => .inr ⟨by simp, by simp⟩
  | _, _, 0, .cons r _ => .inl ⟨_, _, rfl, rfl, r⟩
  | _, _, i + 1, .cons _ rs => by
    rcases vals_at i rs with ⟨x, u, a, b, c⟩ | ⟨a, b⟩
    · exact .inl ⟨x, u, a, b, c⟩
    · exact .inr ⟨a, b⟩
theorem vals_pick {xs : List V} {us : List Value} (r : Vals xs us) : ∀ ix : List Nat, Vals (pickI xs ix) (pickI us ix)
  | [] => .nil
  | i :: ix => by
    unfold pickI
    rcases vals_at i r with ⟨x, u, a, b, c⟩ | ⟨a, b⟩
    · rw [List.filterMap_cons, List.filterMap_cons, a, b]
      exact .cons c (vals_pick r ix)
    · rw [List.filterMap_cons, List.filterMap_cons, a, b]
      exact vals_pick r ix
section
variable {X : Cx}
def tSlSt (K : PySem.W.Frag) (te : TE) (tl ts : L2.St → Hp → (Option Int → Hp → Prop) → Prop) : TE := fun σ H Q => te σ H fun x H1 => tl σ H1 fun lo H2 => ts σ H2 fun st H3 => ∃ a xs, x = .ref a ∧ SqL K H3 a xs ∧ st ≠ some 0 ∧ (pickV xs lo none st).length ≤ sizeLine ∧
  ∀ p, H3 p = none → Q (.ref p) (upd H3 p (.lst (pickV xs lo none st)))
theorem pe_slSt {e : Expr} {te : TE} {lo : Option Expr} {st : Expr} {tl ts : L2.St → Hp → (Option Int → Hp → Prop) → Prop} {p3 pos : Pos} (he : PE X e te) (hl : PO X lo tl) (hs : PO X (some st) ts) : PE X (.Subscript e (.Slice lo none (some st) p3) pos) (tSlSt X.K te tl ts) := by
  refine ⟨fun pins s σ H Q I h => ?_⟩
  refine Subscript_ (thn (he.run pins s σ H _ I h) fun v s1 ⟨x, H1, I1, r1, q1⟩ => ?_)
  refine wpAny_Slice (thn (hl.run pins s1 σ H1 _ I1 q1) fun vl s2 ⟨l, H2, I2, pl, q2⟩ => ?_)
  refine thn (po_none.run pins s2 σ H2 (fun o H3 => o = none ∧ H3 = H2) I2 ⟨rfl, rfl⟩) fun vu s3 ⟨u, H3, I3, pu, eu, e3⟩ => ?_
  subst eu e3
  refine thn (hs.run pins s3 σ _ _ I3 q2) fun vs s4 ⟨o, H4, I4, ps, a, xs, ex, hx, n0, hz2, q⟩ => ?_
  subst ex
  cases r1
  have I5 : Inv X pins σ H4 { s4 with heap := s4.heap.push { cls := .type "slice", data := .fields #[vl, vu, vs] } } := I4.kept (t' := s4.toks) fun b ob q => Heap.get?_push_of_some _ q
  obtain ⟨its, r, ht, hz⟩ := I5.list hx
  have hlen := r.length
  show wpAny (model X.prog X.w) X.A (subscriptTail e (.Slice lo none (some st) p3) (.ref a) (.ref s4.heap.objs.size)) (EP X pins σ Q) X.xe { s4 with heap := s4.heap.push { cls := .type "slice", data := .fields #[vl, vu, vs] } }
  refine tail_any (ops := [.ref a, .ref s4.heap.objs.size]) ht.isList.typeIs (PySem.slot_list_getitem.lookup) ?_ (by with_unfolding_all rfl)
  refine wpAny_getItem_list_slice ht.isList (Heap.IsSliceOf.new _ vl vu vs) pl pu ps n0 ?_ (by rw [List.size_toArray]; omega)
  have ep : slicePick its.toArray l none o = (pickI its (sliceRange (sliceBounds l none o xs.length).1 (sliceBounds l none o xs.length).2.1 (sliceBounds l none o xs.length).2.2)).toArray := by
    unfold slicePick pickI
    rw [List.size_toArray, ← hlen]
    congr 1
    congr 1
    funext i
    simp
  rw [ep]
  refine ⟨.ref _, _, I5.laid (t' := s4.toks) (o := .lst (pickV xs l none o)) (fun b ob q => Heap.get?_push_of_some _ q) (Nat.le_refl _) ?_, rfl, q _ (I5.hok.fresh (Nat.le_refl _))⟩
  exact ⟨hz2, _, 0, vals_pick r _, Heap.get?_push_size _ rfl⟩
end
end K03

namespace K03
open PySem L2
/-! ### the lits of a line -/
def tripL (ks : List Key) (ws : List Str) (i : Nat) : Option Lit := litOf ks (ws.getD (4 * i + 1) Str.empty) (ws.getD (4 * i + 2) Str.empty) (ws.getD (4 * i + 3) Str.empty)
def ors (ws : List Str) : List Str := (List.range (ws.length / 4 - 1)).map fun i => ws.getD (4 * i + 4) Str.empty
def orsB (ws : List Str) : Bool := (ors ws).all fun y => decide (y = wOr)
def formB (ws : List Str) : Bool := decide (ws.head? = some wRule) && (decide (ws.length = 4 ∨ ws.length = 8 ∨ ws.length = 12) && orsB ws)
def litsOs (ks : List Key) (ws : List Str) : List (Option Lit) := (List.range (ws.length / 4)).map (tripL ks ws)
def litsOf (ks : List Key) (ws : List Str) : Option (List Lit) := if formB ws = true then (if none ∈ litsOs ks ws then none else some ((litsOs ks ws).filterMap id)) else none
def LitsAt (H : Hp) (p : Addr) (ls : List Lit) : Prop := ∃ ts : List Addr, H p = some (.tup (ts.map V.ref)) ∧ Paired (fun (t : Addr) (l : Lit) => H t = some (.tup (litV l))) ts ls
theorem LitsAt.same {H H' : Hp} {p : Addr} {ls : List Lit} (h : LitsAt H p ls) (s : Same H H') : LitsAt H' p ls := by
  obtain ⟨ts, e, q⟩ := h
  exact ⟨ts, s _ _ e, Paired.mapP q fun t l e => s _ _ e⟩
theorem split_ne (z y : Str) : Txt.split z y ≠ [] := fun e => by
  have h := congrArg List.length e
  unfold Txt.split at h
  split at h
  · simp at h
  · split at h
    · simp at h
    · rw [length_partsBetween] at h
      simp at h
theorem get_str {ws : List Str} {i : Nat} (h : i < ws.length) : ws[i]? = some (ws.getD i Str.empty) := by
  rw [List.getD_eq_getElem?_getD, List.getElem?_eq_getElem h]
  rfl
theorem pick_ors {ws : List Str} (h : ws.length = 4 ∨ ws.length = 8 ∨ ws.length = 12) : pickV (ws.map V.str) (some 4) none (some 4) = (ors ws).map V.str := by
  have gs : ∀ i, i < ws.length → (ws.map V.str)[i]? = some (V.str (ws.getD i Str.empty)) := fun i hi => by
    rw [List.getElem?_map, get_str hi]
    rfl
  unfold pickV ors
  rw [List.length_map]
  rcases h with h | h | h
  · rw [h]
    have e : sliceRange (sliceBounds (some 4) none (some 4) 4).1 (sliceBounds (some 4) none (some 4) 4).2.1 (sliceBounds (some 4) none (some 4) 4).2.2 = [] := by decide +kernel
    rw [e]
    rfl
  · have g4 := gs 4 (by omega)
    rw [h]
    have e : sliceRange (sliceBounds (some 4) none (some 4) 8).1 (sliceBounds (some 4) none (some 4) 8).2.1 (sliceBounds (some 4) none (some 4) 8).2.2 = [4] := by decide +kernel
    rw [e]
    unfold pickI
    rw [List.filterMap_cons, g4]
    rfl
  · have g4 := gs 4 (by omega)
    have g8 := gs 8 (by omega)
    rw [h]
    have e : sliceRange (sliceBounds (some 4) none (some 4) 12).1 (sliceBounds (some 4) none (some 4) 12).2.1 (sliceBounds (some 4) none (some 4) 12).2.2 = [4, 8] := by decide +kernel
    rw [e]
    unfold pickI
    rw [List.filterMap_cons, g4, List.filterMap_cons, g8]
    rfl
theorem cut_mid (xs : List V) (a b : Nat) (hb : b ≤ xs.length) : cutV xs (some (a : Int)) (some (b : Int)) = (xs.drop (min a xs.length)).take (b - min a xs.length) := by
  unfold cutV
  rw [HT.sIx_nat, HT.sIx_nat, Nat.min_eq_left hb]
theorem cut_trip {ws : List Str} {i : Nat} (h : 4 * i + 4 ≤ ws.length) : cutV (ws.map V.str) (some (1 + (i : Int) * 4)) (some (1 + (i : Int) * 4 + 3)) = [ws.getD (4 * i + 1) Str.empty, ws.getD (4 * i + 2) Str.empty, ws.getD (4 * i + 3) Str.empty].map V.str := by
  have e1 : (1 + (i : Int) * 4) = ((4 * i + 1 : Nat) : Int) := by omega
  have e2 : (1 + (i : Int) * 4 + 3) = ((4 * i + 4 : Nat) : Int) := by omega
  rw [e2, e1, cut_mid _ _ _ (by rw [List.length_map]; exact h), List.length_map, Nat.min_eq_left (by omega), ← List.map_drop, ← List.map_take]
  congr 1
  have d : ∀ j, j < ws.length → ws.drop j = ws.getD j Str.empty :: ws.drop (j + 1) := fun j hj => by
    rw [List.drop_eq_getElem_cons hj]
    congr 1
    have := get_str hj
    rw [List.getElem?_eq_getElem hj] at this
    exact Option.some.inj this
  rw [d (4 * i + 1) (by omega), d (4 * i + 1 + 1) (by omega), d (4 * i + 1 + 1 + 1) (by omega)]
  have e3 : 4 * i + 4 - (4 * i + 1) = 3 := by omega
  rw [e3]
  rfl
/-! ### none among lits -/
def litD (o : Option Lit) : PyData := match o with
  | none => .none
  | some l => .tuple [.int (l.1 : Int), .bool l.2.1, .int (l.2.2 : Int)]
def LitO (H : Hp) (v : V) (o : Option Lit) : Prop := match o with
  | none => v = .non
  | some l => ∃ t, v = .ref t ∧ H t = some (.tup (litV l))
theorem litO_same {H H' : Hp} {v : V} {o : Option Lit} (s : Same H H') (h : LitO H v o) : LitO H' v o := by
  cases o with
  | none => exact h
  | some l =>
    obtain ⟨t, e, q⟩ := h
    exact ⟨t, e, s _ _ q⟩
theorem lits_dp {K : PySem.W.Frag} {H : Hp} : ∀ {vs : List V} {os : List (Option Lit)}, Paired (LitO H) vs os → DpAll K H vs (os.map litD)
  | _, _, .nil => .nil
  | v :: vs, o :: os, .cons h k => by
    refine .cons ?_ (lits_dp k)
    cases o with
    | none =>
      cases h
      exact .non
    | some l =>
      obtain ⟨t, rfl, e⟩ := h
      exact .tup (SqT.of e) (.cons (.int _) (.cons (.bl _) (.cons (.int _) .nil)))
theorem lits_lay : ∀ os : List (Option Lit), PyData.canLayAll0 (os.map litD) = true ∧ PyData.depthAll (os.map litD) ≤ 1
  | [] => ⟨rfl, Nat.zero_le _⟩
  | o :: os => by
    obtain ⟨a, b⟩ := lits_lay os
    have c : (litD o).canLay0 = true ∧ (litD o).depth ≤ 1 := by
      cases o with
      | none => exact ⟨rfl, by simp [litD, PyData.depth]⟩
      | some l => exact ⟨by simp [litD, PyData.canLay0, PyData.canLayAll0], by simp [litD, PyData.depth, PyData.depthAll]⟩
    constructor
    · show ((litD o).canLay0 && PyData.canLayAll0 (os.map litD)) = true
      rw [c.1, a]
      rfl
    · show max (litD o).depth (PyData.depthAll (os.map litD)) ≤ 1
      have := c.2
      omega
theorem lits_shaped (os : List (Option Lit)) : SeqAt.shaped (.list (os.map litD)) = true := by
  obtain ⟨a, b⟩ := lits_lay os
  unfold SeqAt.shaped
  have h1 : PyData.canLay0 (.list (os.map litD)) = true := by
    simpa [PyData.canLay0] using a
  have h2 : PyData.depth (.list (os.map litD)) ≤ 64 := by
    simp only [PyData.depth]
    omega
  rw [h1, decide_eq_true h2]
  rfl
theorem lits_none (os : List (Option Lit)) : ((os.map litD).any fun z => PyData.eqv z .none) = decide (none ∈ os) := by
  induction os with
  | nil => rfl
  | cons o os ih =>
    rw [List.map_cons, List.any_cons, ih]
    cases o with
    | none =>
      have e : PyData.eqv (litD none) .none = true := by simp [litD, PyData.eqv]
      rw [e, Bool.true_or]
      exact (decide_eq_true List.mem_cons_self).symm
    | some l =>
      have e : PyData.eqv (litD (some l)) .none = false := by simp [litD, PyData.eqv]
      rw [e, Bool.false_or]
      exact decide_eq_decide.mpr ⟨fun z => List.mem_cons_of_mem _ z, fun z => (List.mem_cons.mp z).resolve_left fun q => nomatch q⟩
theorem lits_all {H : Hp} : ∀ {vs : List V} {os : List (Option Lit)}, Paired (LitO H) vs os → none ∉ os → ∃ ts : List Addr, vs = ts.map V.ref ∧ Paired (fun (t : Addr) (l : Lit) => H t = some (.tup (litV l))) ts (os.filterMap id)
  | _, _, .nil, _ => ⟨[], rfl, .nil⟩
  | v :: vs, o :: os, .cons h k, n => by
    obtain ⟨ts, e, q⟩ := lits_all k fun z => n (List.mem_cons_of_mem _ z)
    cases o with
    | none => exact absurd List.mem_cons_self n
    | some l =>
      obtain ⟨t, e2, q2⟩ := h
      refine ⟨t :: ts, by rw [e2, e]; rfl, ?_⟩
      show Paired _ (t :: ts) (l :: os.filterMap id)
      exact .cons q2 q
theorem litO_snoc {H : Hp} {v : V} {o : Option Lit} : ∀ {vs : List V} {os : List (Option Lit)}, Paired (LitO H) vs os → LitO H v o → Paired (LitO H) (vs ++ [v]) (os ++ [o])
  | _, _, .nil, last => .cons last .nil
  | _, _, .cons h k, e => .cons h (litO_snoc k e)
/-- [word == .. for word in a list of texts] -/
theorem eqs_lc {K : PySem.W.Frag} {σ : L2.St} {H : Hp} {Q : VK} {te ti : TE} {ys : List Str} {y : Str} {i : Nat} (hti : ∀ R : V → Hp → Prop, (∀ q H1, Same H H1 → H1 q = some (.lst (ys.map V.str)) → R (.ref q) H1) → ti σ H R) (hl : ys.length ≤ 100) (hw : ∀ x : V, wipe ((wipe σ [i]).set i (some x)) [i] = wipe σ [i])
    (he : ∀ (x : Str) (H1 : Hp) (R : VK), R (.bl (decide (x = y))) H1 → te ((wipe σ [i]).set i (some (.str x))) H1 R)
    (k : ∀ D H', Same H H' → H' D = some (.lst ((ys.map fun x => decide (x = y)).map V.bl)) → Q (.ref D) H') : tLc (iList K ti) (gName i) tYes te [i] σ H Q := by
  refine hti _ fun q H1 s1 hq => ⟨q, rfl, ⟨_, SqL.of hq⟩, fun D nD => ?_⟩
  refine lc_list (xs := ys.map V.str) (fun j H' => Same H1 H' ∧ H' D = some (.lst (((ys.take j).map fun x => decide (x = y)).map V.bl))) ⟨same_upd nD, upd_same⟩ (fun i H' _ z => SqL.of (z.1 _ _ hq)) ?_ ?_
  · rintro j x H' hx ⟨s2, hD⟩
    rw [List.getElem?_map] at hx
    obtain ⟨x1, hx1, rfl⟩ := Option.map_eq_some_iff.mp hx
    have ilt : j < ys.length := (List.getElem?_eq_some_iff.mp hx1).1
    refine ⟨hw _, ?_⟩
    show te _ H' _
    refine he x1 H' _ ⟨_, hD, ?_, same_new s2 nD, ?_⟩
    · rw [List.length_map, List.length_map, List.length_take]
      exact small1000 (by omega)
    · rw [upd_same, take_one hx1, List.map_append, List.map_append]
      rfl
  · rintro H' ⟨s2, hD⟩
    rw [List.length_map, List.take_length] at hD
    exact k D H' (s1.trans s2) hD
end K03

namespace K03
open PySem L2
structure Txt4 (K : PySem.W.Frag) (mg : Str → Option Value) : Prop extends Txt3 K mg where
  lens : ∃ p, mg "RULE_LENGTHS" = some (.ref p) ∧ SqT K (fun _ => none) p ([.int 4, .int 8, .int 12] : List V)
  step : ∃ t, mg "LIT_STEP" = some (.int 4 t)
theorem rgc4 {n m : Nat} (h : n = 4 ∧ m = 1 ∨ n = 8 ∧ m = 2 ∨ n = 12 ∧ m = 3) : RgC 1 (n : Int) 4 m := by
  rcases h with ⟨rfl, rfl⟩ | ⟨rfl, rfl⟩ | ⟨rfl, rfl⟩ <;> exact ⟨by decide, by decide, by decide +kernel, by decide +kernel⟩
theorem litO_upd {H : Hp} {L : Addr} {xs ys : List V} {v : V} {o : Option Lit} (hL : H L = some (.lst xs)) (h : LitO H v o) : LitO (upd H L (.lst ys)) v o := by
  cases o with
  | none => exact h
  | some l =>
    obtain ⟨t, e, q⟩ := h
    refine ⟨t, e, ?_⟩
    rw [upd_ne (ne_of q hL (by simp))]
    exact q
theorem all_bl {α : Type} (l : List α) (p : α → Bool) : (l.map p).all id = l.all p := by
  rw [List.all_map]
  rfl
section
variable {base : Heap} {P : Program} {w : World} {K : PySem.W.Frag} {mg : Str → Option Value}
def spLits (K : PySem.W.Frag) : Sp := fun vs H Q _ => ∃ (np sp : Addr) (z : Str) (ks : List Key), vs = [.str z, .ref np, .ref sp] ∧ TupD H np (namesV ks) ∧ SqT K H sp (sizesV ks) ∧ z.length ≤ 1000000 ∧
  ∀ H' p, Same H H' → LitsAt H' p ((litsOf ks (wordsOf z)).getD []) → Q (.ref p) H'
abbrev nLits : List Str := ["line", "names", "sizes", "words", "lits", "word", "at"]
theorem scLits : FnScope nLits ["line", "names", "sizes"] (defScope sLitsOf) := ⟨rfl, rfl, rfl, by decide +kernel, rfl, by decide +kernel, by decide +kernel⟩
theorem ok_lits {f : Addr} {fd : FuncData} (F : Fun K "lits_of" "lits_of" sLitsOf f fd) (T : Txt4 K mg) (GW : Has P w K mg base "words_of" 1 ["line"] spWords) (GL : Has P w K mg base "lit_of" 2 ["words", "names", "sizes"] (spLit K)) : FnOk P w K mg base CX0 3 f fd ["line", "names", "sizes"] (spLits K) := by
  refine F.ok scLits (fun vs H Q E h => ?_) (fun cdv A outer s H vs Q E hr h => ?_)
  · obtain ⟨np, sp, z, ks, rfl, _⟩ := h
    rfl
  · obtain ⟨np, sp, z, ks, rfl, hn, hs, hz, k⟩ := h
    obtain ⟨rp, gr, hrp⟩ := T.lens
    obtain ⟨t4, g4⟩ := T.step
    have r1 : Room 1 _ := hr.mono (by decide)
    refine ⟨_, pss_cons (ps_set (i := 3) scLits.nd rfl (.inr rfl) (pe_has GW r1 (pa_cons (pv 0) pa_nil)))
      (pss_cons (ps_if (PW.pt (pw_or (pt_cmpR op_ne (pe_ix ix_list (pv 3) pe_int (fun _ _ => rfl)) pe_str (nomark _))
          (pw_or1 (pt_cmpR op_notIn_seq (pe_callB call_len_seq (by rfl) T.len PySem.boot_len (pa_cons (pv 3) pa_nil)) (pe_glob (v := .ref rp) (by rfl) gr rfl) (by rfl))))) (pss_one (ps_ret (pe_tup pa_nil))) pss_nil)
      (pss_cons (ps_if (pt_not (pt_val (pe_callB (cr_all rfl) (by rfl) T.all (by decide +kernel) (pa_cons (pe_lc (own := [("word", 5)]) (g := gName 5) (tt := tYes) rfl scLits.nd
            (pi_list (pe_slSt (pv 3) (po_some (pe_glob (v := .int 4) (by rfl) g4 ⟨_, rfl⟩)) (po_some (pe_glob (v := .int 4) (by rfl) g4 ⟨_, rfl⟩))))
            (blkOk_by (N := nLits) (sc := defScope sLitsOf) (by decide +kernel)) (fun _ _ _ _ _ => pg_name (i := 5) scLits.nd rfl (Or.inl rfl)) (fun _ _ _ _ _ => pts_nil)
            (fun _ _ _ _ _ => pe_cmpR op_eq (pv 5) pe_str (nomark _))) pa_nil)))) (pss_one (ps_ret (pe_tup pa_nil))) pss_nil)
      (pss_cons (ps_setLc (i := 4) (own := [("at", 6)]) (g := gName 6) (tt := tYes) rfl scLits.nd rfl rfl rfl (pi_range3 (by rfl) T.range (pa_cons pe_int (pa_cons (pe_callB call_len_seq (by rfl) T.len PySem.boot_len (pa_cons (pv 3) pa_nil)) (pa_cons (pe_glob (v := .int 4) (by rfl) g4 ⟨_, rfl⟩) pa_nil))))
            (blkOk_by (N := nLits) (sc := defScope sLitsOf) (by decide +kernel)) (fun _ _ _ _ _ => pg_name (i := 6) scLits.nd rfl (Or.inl rfl)) (fun _ _ _ _ _ => pts_nil)
            (fun _ _ _ _ _ => pe_has GL hr (pa_cons (pe_slice (r := rSlL K) sl_list (pv 3) (po_some (pv 6)) (po_some (pe_op op_add (pv 6) pe_int))) (pa_cons (pv 1) (pa_cons (pv 2) pa_nil)))))
      (pss_cons (ps_if (pt_cmpR (op_inD (units65 hr)) pe_non (pv 4) (by rfl)) (pss_one (ps_ret (pe_tup pa_nil))) pss_nil)
      (pss_one (ps_ret (pe_callTy call_tuple_of (by rfl) T.tuple (by decide +kernel) (pa_cons (pv 4) pa_nil)))))))), ?_⟩
    refine ⟨_, rfl, z, rfl, hz, fun p H1 np1 s1 hp => ?_⟩
    have wl := words_len hz
    have wn : wordsOf z ≠ [] := split_ne z blank
    generalize hws : wordsOf z = ws at hp wl wn k
    have none_of : litsOf ks ws = none → ∀ H2, Same H H2 → (0 ≤ sizeLine ∧ ∀ q, H2 q = none → Q (.ref q) (upd H2 q (.tup []))) := fun e H2 s2 => by
      refine ⟨Nat.zero_le _, fun q nq => k _ q (s2.trans (same_upd nq)) ?_⟩
      rw [e]
      exact ⟨[], upd_same, .nil⟩
    obtain ⟨a, r, rfl⟩ : ∃ a r, ws = a :: r := by
      cases ws with
      | nil => exact absurd rfl wn
      | cons a r => exact ⟨a, r, rfl⟩
    refine ⟨_, rfl, p, _, 0, .str a, rfl, rfl, SqL.of hp, atI_nat (j := 0) rfl, rfl, _, rfl, ?_⟩
    refine ite2 (fun ha => ?_) (fun ha => ?_)
    · refine none_of (if_neg fun q => ?_) H1 s1
      have q1 : decide ((a :: r).head? = some wRule) = true := by
        unfold formB at q
        rw [Bool.and_eq_true] at q
        exact q.1
      have ea : a = wRule := Option.some.inj (of_decide_eq_true q1)
      have ha' : (!decide (V.str a = V.str wRule)) = true := ha
      rw [ea, decide_eq_true rfl] at ha'
      cases ha'
    have ea : a = wRule := by
      by_cases e : a = wRule
      · exact e
      · exfalso
        refine ha ?_
        show (!decide (V.str a = V.str wRule)) = true
        rw [decide_eq_false (fun q => e (V.str.inj q))]
        rfl
    generalize hW : a :: r = ws at hp wl k none_of
    have hh : ws.head? = some wRule := by rw [← hW, ← ea]; rfl
    refine ⟨_, rfl, p, _, rfl, .inl (SqL.of hp), rp, _, rfl, .inr (sqT_any hrp), rfl, rfl, _, rfl, ?_⟩
    have elen : inV (.int ((ws.map V.str).length : Int)) [.int 4, .int 8, .int 12] = decide (ws.length = 4 ∨ ws.length = 8 ∨ ws.length = 12) := by
      rw [List.length_map]
      show (((4 : Int) == (ws.length : Int)) || (((8 : Int) == (ws.length : Int)) || (((12 : Int) == (ws.length : Int)) || false))) = _
      rw [Bool.eq_iff_iff]
      simp only [Bool.or_eq_true, beq_iff_eq, decide_eq_true_eq, Bool.false_eq_true, or_false]
      omega
    refine ite2 (fun hl => ?_) (fun hl => ?_)
    · refine none_of (if_neg fun q => ?_) H1 s1
      have hl' : (!inV (.int ((ws.map V.str).length : Int)) [.int 4, .int 8, .int 12]) = true := hl
      unfold formB at q
      rw [Bool.and_eq_true, Bool.and_eq_true] at q
      rw [elen, q.2.1] at hl'
      cases hl'
    have len : ws.length = 4 ∨ ws.length = 8 ∨ ws.length = 12 := by
      by_cases q : ws.length = 4 ∨ ws.length = 8 ∨ ws.length = 12
      · exact q
      · exfalso
        refine hl ?_
        show (!inV (.int ((ws.map V.str).length : Int)) [.int 4, .int 8, .int 12]) = true
        rw [elen, decide_eq_false q]
        rfl
    have orl : (ors ws).length ≤ 2 := by
      unfold ors
      rw [List.length_map, List.length_range]
      omega
    dsimp only [tNext, tSeq, tIfS, tNot, tB, tCB, tCons, List.map]
    refine eqs_lc (ys := ors ws) (y := wOr) ?_ (by omega) ?_ ?_ ?_
    · intro R hR
      refine ⟨_, rfl, 4, rfl, 4, rfl, p, ws.map V.str, rfl, SqL.of hp, by simp, ?_, fun q nq => ?_⟩
      · rw [pick_ors len, List.length_map]
        exact Nat.le_trans orl (by decide)
      · refine hR q _ (same_upd nq) ?_
        rw [upd_same, pick_ors len]
    · exact fun _ => rfl
    · intro x H2 R q
      refine ⟨_, rfl, rfl, ?_⟩
      have e : decide (V.str x = V.str "or") = decide (x = wOr) := decide_eq_decide.mpr ⟨V.str.inj, congrArg V.str⟩
      rw [e]
      exact q
    intro D H2 s2 hD
    refine ⟨D, _, rfl, SqL.of hD, _, rfl, ?_⟩
    rw [all_bl]
    have s02 := s1.trans s2
    refine ite2 (fun ho => ?_) (fun ho => ?_)
    · refine none_of (if_neg fun q => ?_) H2 s02
      unfold formB at q
      rw [Bool.and_eq_true, Bool.and_eq_true] at q
      have q2 : ((ors ws).all fun x => decide (x = wOr)) = true := q.2.2
      rw [q2] at ho
      cases ho
    have hor : orsB ws = true := by
      unfold orsB
      cases c : (ors ws).all fun x => decide (x = wOr) with
      | true => rfl
      | false =>
        rw [c] at ho
        exact absurd rfl ho
    have form : formB ws = true := by
      unfold formB
      rw [decide_eq_true hh, decide_eq_true len, hor]
      rfl
    have eL : litsOf ks ws = if none ∈ litsOs ks ws then none else some ((litsOs ks ws).filterMap id) := if_pos form
    obtain ⟨m, hm, hm3⟩ : ∃ m, ws.length = 4 * m ∧ m ≤ 3 := by
      rcases len with q | q | q
      · exact ⟨1, by omega, by decide⟩
      · exact ⟨2, by omega, by decide⟩
      · exact ⟨3, by omega, by decide⟩
    have hm4 : ws.length / 4 = m := by omega
    have eos : litsOs ks ws = (List.range m).map (tripL ks ws) := by
      unfold litsOs
      rw [hm4]
    have hp2 := s2 _ _ hp
    dsimp only [tNext, tSeq, tAsg, tLc, iRng3, List.map]
    refine ⟨_, rfl, p, _, rfl, .inl (SqL.of hp2), 1, _, 4, m, rfl, ?_, fun L nL => ?_⟩
    · rw [List.length_map]
      exact rgc4 (by omega)
    refine lc_it (walk_rangeC (lo := 1) (c := 4) (n := m)) (fun i H' => ∃ vs : List V, Paired (LitO H') vs ((List.range i).map (tripL ks ws)) ∧ H' L = some (.lst vs) ∧ Same H2 H' ∧ vs.length = i) ⟨[], .nil, upd_same, same_upd nL, rfl⟩ (fun _ _ _ _ => trivial) ?_ ?_
    · rintro i x H3 H4 hi ⟨vs, pr, hL, s3, lv⟩ ⟨rfl, rfl⟩
      have hp4 := s3 _ _ hp2
      refine ⟨rfl, _, rfl, _, rfl, _, rfl, _, rfl, _, _, rfl, rfl, _, rfl, p, _, rfl, SqL.of hp4, fun q nq => ?_⟩
      have s04 := (s02.trans s3).trans (same_upd (o := .lst (cutV (ws.map V.str) (some (1 + (i : Int) * 4)) (some (1 + (i : Int) * 4 + 3)))) nq)
      refine ⟨_, rfl, _, rfl, q, np, sp, _, _, _, ks, rfl, SqL.of (by rw [upd_same, cut_trip (by omega)]), hn.same s04, sqT_same s04 hs, ?_, fun H5 s5 => ?_⟩
      · refine wl _ (List.mem_of_getElem? (get_str (by omega)))
      have s35 := (same_upd (o := .lst (cutV (ws.map V.str) (some (1 + (i : Int) * 4)) (some (1 + (i : Int) * 4 + 3)))) nq).trans s5
      have hL5 := s35 _ _ hL
      have fin : ∀ v : V, LitO H5 v (tripL ks ws i) → ∃ acc, H5 L = some (.lst acc) ∧ acc.length < sizeLine ∧ ∃ vs : List V, Paired (LitO (upd H5 L (.lst (acc ++ [v])))) vs ((List.range (i + 1)).map (tripL ks ws)) ∧ (upd H5 L (.lst (acc ++ [v]))) L = some (.lst vs) ∧ Same H2 (upd H5 L (.lst (acc ++ [v]))) ∧ vs.length = i + 1 := fun v hv => by
        refine ⟨vs, hL5, small1000 (by omega), vs ++ [v], ?_, upd_same, same_new (s3.trans s35) nL, by rw [List.length_append, lv]; rfl⟩
        rw [List.range_succ, List.map_append]
        exact litO_snoc (Paired.mapP pr fun v o z => litO_upd hL5 (litO_same s35 z)) (litO_upd hL5 hv)
      show resL (tripL ks ws i) _ H5
      cases ho : tripL ks ws i with
      | none => exact fin .non (by rw [ho]; exact rfl)
      | some l => exact fun t ht => fin (.ref t) (by rw [ho]; exact ⟨t, rfl, ht⟩)
    · rintro H3 ⟨vs, pr, hL, s3, lv⟩
      rw [← eos] at pr
      have s03 := s02.trans s3
      refine ⟨_, rfl, .none, (litsOs ks ws).map litD, .non, .lst (SqL.of hL) (lits_dp pr), rfl, lits_shaped _, _, rfl, ?_⟩
      rw [lits_none]
      refine ite2 (fun hc => ?_) (fun hc => ?_)
      · refine none_of ?_ H3 s03
        rw [eL, if_pos (of_decide_eq_true hc)]
      have hc' : none ∉ litsOs ks ws := fun q => hc (decide_eq_true q)
      obtain ⟨ts, rfl, pr2⟩ := lits_all pr hc'
      refine ⟨_, rfl, L, _, rfl, .inl ⟨SqL.of hL, fun l nl => ?_⟩⟩
      refine k _ l (s03.trans (same_upd nl)) ?_
      rw [eL, if_neg hc']
      exact ⟨ts, upd_same, Paired.mapP pr2 fun t l e => get_new e nl⟩
end
end K03

namespace K03
open PySem L2
abbrev sWorths : Stmt := top 26
/-! ### whether lits are so -/
def rowV (r : List Nat) : List V := r.map fun (n : Nat) => V.int (n : Int)
def soB (r : List Nat) (l : Lit) : Bool := decide (r.getD l.1 0 = l.2.2) == l.2.1
theorem row_at {r : List Nat} {i : Nat} (h : i < r.length) : (rowV r)[i]? = some (V.int ((r.getD i 0 : Nat) : Int)) := by
  unfold rowV
  rw [List.getElem?_map, List.getD_eq_getElem?_getD, List.getElem?_eq_getElem h]
  rfl
section
variable {base : Heap} {P : Program} {w : World} {K : PySem.W.Frag} {mg : Str → Option Value}
def spSo (K : PySem.W.Frag) : Sp := fun vs H Q _ => ∃ (t q : Addr) (l : Lit) (r : List Nat), vs = [.ref t, .ref q] ∧ H t = some (.tup (litV l)) ∧ SqT K H q (rowV r) ∧ l.1 < r.length ∧ Q (.bl (soB r l)) H
abbrev nSo : List Str := ["lit", "worths", "place", "is_same", "worth"]
theorem scSo : FnScope nSo ["lit", "worths"] (defScope sIsSo) := ⟨rfl, rfl, rfl, by decide +kernel, rfl, by decide +kernel, by decide +kernel⟩
theorem ok_so {f : Addr} {fd : FuncData} (F : Fun K "is_so" "is_so" sIsSo f fd) : FnOk P w K mg base CX0 1 f fd ["lit", "worths"] (spSo K) := by
  refine F.ok scSo (fun vs H Q E h => ?_) (fun cdv A outer s H vs Q E hr h => ?_)
  · obtain ⟨t, q, l, r, rfl, _⟩ := h
    rfl
  · obtain ⟨t, q, l, r, rfl, ht, hq, hl, k⟩ := h
    refine ⟨_, pss_cons (ps_asg (pv 0) (pg_tup rfl (pgs_cons (pg_name (i := 2) scSo.nd rfl (.inl rfl)) (pgs_cons (pg_name (i := 3) scSo.nd rfl (.inl rfl)) (pgs_cons (pg_name (i := 4) scSo.nd rfl (.inl rfl)) pgs_nil)))))
      (pss_cons (ps_if (pt_cmpR op_isN (pe_ix ix_tup (pv 1) (pv 2) (fun _ _ => rfl)) pe_non (nomark _)) (pss_one (ps_ret pe_non)) pss_nil)
      (pss_one (ps_ret (pe_cmpR op_eq (pe_cmpR op_eq (pe_ix ix_tup (pv 1) (pv 2) (fun _ _ => rfl)) (pv 4) (nomark _)) (pv 3) (nomark _))))), ?_⟩
    have at1 : atI (rowV r) ((l.1 : Nat) : Int) = some (V.int ((r.getD l.1 0 : Nat) : Int)) := atI_nat (row_at hl)
    refine ⟨_, rfl, t, _, rfl, SqT.of ht, rfl, .int (l.1 : Int), _, rfl, .bl l.2.1, _, rfl, .int (l.2.2 : Int), _, rfl, rfl, ?_⟩
    refine ⟨_, rfl, _, rfl, q, _, _, _, rfl, rfl, hq, at1, rfl, _, rfl, ?_⟩
    refine ite2 (fun z => by cases of_decide_eq_true z) (fun _ => ?_)
    refine ⟨_, rfl, _, rfl, q, _, _, _, rfl, rfl, hq, at1, _, rfl, rfl, _, rfl, rfl, ?_⟩
    have e : decide (V.bl (decide (V.int ((r.getD l.1 0 : Nat) : Int) = V.int (l.2.2 : Int))) = V.bl l.2.1) = soB r l := by
      have e1 : decide (V.int ((r.getD l.1 0 : Nat) : Int) = V.int (l.2.2 : Int)) = decide (r.getD l.1 0 = l.2.2) := decide_eq_decide.mpr ⟨fun z => by have := V.int.inj z; omega, fun z => by rw [z]⟩
      unfold soB
      rw [e1, Bool.eq_iff_iff]
      simp
    rw [e]
    exact k
/-! ### truth -/
def spTruth (K : PySem.W.Frag) : Sp := fun vs H Q _ => ∃ (p q : Addr) (ls : List Lit) (r : List Nat), vs = [.ref p, .ref q] ∧ LitsAt H p ls ∧ SqT K H q (rowV r) ∧ (∀ l ∈ ls, l.1 < r.length) ∧ ls.length ≤ 100 ∧ ∀ H', Same H H' → Q (.bl (ls.any (soB r))) H'
abbrev nTruth : List Str := ["lits", "worths", "told", "lit"]
theorem scTruth : FnScope nTruth ["lits", "worths"] (defScope sTruth) := ⟨rfl, rfl, rfl, by decide +kernel, rfl, by decide +kernel, by decide +kernel⟩
theorem flats_bl (l : List Bool) : (l.map V.bl).all flatV = true := by
  induction l with
  | nil => rfl
  | cons r l ih =>
    show (flatV (.bl r) && (l.map V.bl).all flatV) = true
    rw [ih]
    rfl
theorem inV_true (l : List Bool) : inV (.bl true) (l.map V.bl) = l.any id := by
  induction l with
  | nil => rfl
  | cons r l ih =>
    show (eqV (.bl r) (.bl true) || inV (.bl true) (l.map V.bl)) = (r || l.any id)
    rw [ih]
    show ((r == true) || _) = _
    cases r <;> rfl
theorem inV_non (l : List Bool) : inV .non (l.map V.bl) = false := by
  induction l with
  | nil => rfl
  | cons r l ih =>
    show (eqV (.bl r) .non || inV .non (l.map V.bl)) = false
    rw [ih]
    rfl
theorem paired_get {α β : Type} {R : α → β → Prop} : ∀ {xs : List α} {ys : List β}, Paired R xs ys → ∀ {i : Nat} {x : α}, xs[i]? = some x → ∃ y, ys[i]? = some y ∧ R x y
  | _, _, .cons h _, 0, x, e => by
    cases e
    exact ⟨_, rfl, h⟩
  | _, _, .cons _ k, i + 1, x, e => by
    obtain ⟨y, e1, e2⟩ := paired_get k (i := i) (x := x) e
    exact ⟨y, e1, e2⟩
theorem ok_truth {f : Addr} {fd : FuncData} (F : Fun K "truth" "truth" sTruth f fd) (GS : Has P w K mg base "is_so" 1 ["lit", "worths"] (spSo K)) : FnOk P w K mg base CX0 2 f fd ["lits", "worths"] (spTruth K) := by
  refine F.ok scTruth (fun vs H Q E h => ?_) (fun cdv A outer s H vs Q E hr h => ?_)
  · obtain ⟨p, q, ls, r, rfl, _⟩ := h
    rfl
  · obtain ⟨p, q, ls, r, rfl, ⟨ts, hp, pr⟩, hq, hl, hn, k⟩ := h
    refine ⟨_, pss_cons (ps_setLc (i := 2) (own := [("lit", 3)]) (g := gName 3) (tt := tYes) rfl scTruth.nd rfl rfl rfl (pi_tup (pv 0))
          (blkOk_by (N := nTruth) (sc := defScope sTruth) (by decide +kernel)) (fun _ _ _ _ _ => pg_name (i := 3) scTruth.nd rfl (Or.inl rfl)) (fun _ _ _ _ _ => pts_nil)
          (fun _ _ _ _ _ => pe_has GS hr (pa_cons (pv 3) (pa_cons (pv 1) pa_nil))))
      (pss_cons (ps_if (pt_cmpR op_in_seq pe_bl (pv 2) (by rfl)) (pss_one (ps_ret pe_bl)) pss_nil)
      (pss_cons (ps_if (pt_cmpR op_in_seq pe_non (pv 2) (by rfl)) (pss_one (ps_ret pe_non)) pss_nil)
      (pss_one (ps_ret pe_bl)))), ?_⟩
    have lt : ts.length = ls.length := Paired.length pr
    refine ⟨_, rfl, p, rfl, ⟨_, SqT.of hp⟩, fun D nD => ?_⟩
    refine lc_tup (K := K) (xs := ts.map V.ref) (fun i H' => Same H H' ∧ H' D = some (.lst (((ls.take i).map (soB r)).map V.bl))) ⟨same_upd nD, upd_same⟩ (fun i H' _ z => sqT_same z.1 (SqT.of hp)) ?_ ?_
    · rintro i x H' hx ⟨s1, hD⟩
      rw [List.getElem?_map] at hx
      obtain ⟨t, ht, rfl⟩ := Option.map_eq_some_iff.mp hx
      obtain ⟨l, hl1, hl2⟩ := paired_get pr ht
      refine ⟨rfl, _, rfl, _, rfl, t, q, l, r, rfl, s1 _ _ hl2, sqT_same s1 hq, hl l (List.mem_of_getElem? hl1), _, hD, ?_, same_new s1 nD, ?_⟩
      · rw [List.length_map, List.length_map, List.length_take]
        exact small1000 (by omega)
      · rw [upd_same, take_one hl1, List.map_append, List.map_append]
        rfl
    · rintro H' ⟨s1, hD⟩
      rw [List.length_map, lt, List.take_length] at hD
      refine ⟨_, rfl, D, _, rfl, .inl (SqL.of hD), rfl, flats_bl _, _, rfl, ?_⟩
      have ea : ((ls.map (soB r)).any id) = ls.any (soB r) := by
        rw [List.any_map]
        rfl
      have q1 := k H' s1
      refine ite2 (fun h1 => ?_) (fun h1 => ?_)
      · have h1' : inV (.bl true) ((ls.map (soB r)).map V.bl) = true := h1
        rw [inV_true, ea] at h1'
        rw [h1'] at q1
        exact q1
      · have h1' : ¬ inV (.bl true) ((ls.map (soB r)).map V.bl) = true := h1
        rw [inV_true, ea] at h1'
        rw [Bool.not_eq_true] at h1'
        rw [h1'] at q1
        refine ⟨_, rfl, D, _, rfl, .inl (SqL.of hD), rfl, flats_bl _, _, rfl, ?_⟩
        refine ite2 (fun h2 => ?_) (fun _ => q1)
        have h2' : inV .non ((ls.map (soB r)).map V.bl) = true := h2
        rw [inV_non] at h2'
        cases h2'
/-! ### all worths -/
def ext (s : Nat) (r : List Nat) : List (List Nat) := (List.range s).map fun w => r ++ [w]
def stepR (rows : List (List Nat)) (s : Nat) : List (List Nat) := rows.flatMap (ext s)
def worthsOf (ss : List Nat) : List (List Nat) := ss.foldl stepR [[]]
def RowsAt (K : PySem.W.Frag) (H : Hp) (p : Addr) (rows : List (List Nat)) : Prop := ∃ ts : List Addr, H p = some (.lst (ts.map V.ref)) ∧ Paired (fun (t : Addr) (r : List Nat) => SqT K H t (rowV r)) ts rows
theorem RowsAt.same {H H' : Hp} {p : Addr} {rows : List (List Nat)} (h : RowsAt K H p rows) (s : Same H H') : RowsAt K H' p rows := by
  obtain ⟨ts, e, q⟩ := h
  exact ⟨ts, s _ _ e, Paired.mapP q fun t l e => sqT_same s e⟩
theorem stepR_len {rows : List (List Nat)} {s : Nat} : (stepR rows s).length = rows.length * s := by
  unfold stepR
  induction rows with
  | nil => simp
  | cons r l ih =>
    rw [List.flatMap_cons, List.length_append, ih]
    unfold ext
    rw [List.length_map, List.length_range, List.length_cons, Nat.add_mul]
    omega
theorem paired_snoc {α β : Type} {R : α → β → Prop} {x : α} {y : β} : ∀ {xs : List α} {ys : List β}, Paired R xs ys → R x y → Paired R (xs ++ [x]) (ys ++ [y])
  | _, _, .nil, last => .cons last .nil
  | _, _, .cons h k, e => .cons h (paired_snoc k e)
theorem sqT_upd {K : PySem.W.Frag} {H : Hp} {L t : Addr} {xs ys zs : List V} (hL : H L = some (.lst xs)) (h : SqT K H t zs) : SqT K (upd H L (.lst ys)) t zs := by
  rcases h with (h | ⟨o, h⟩) | h
  · exact .inl (.inl (by rw [upd_ne (ne_of h hL (by simp))]; exact h))
  · exact .inl (.inr ⟨o, by rw [upd_ne (ne_of h hL (by simp))]; exact h⟩)
  · exact .inr h
/-- [.. for r in a list for w in range(n)] -/
theorem lc2_lr {K : PySem.W.Frag} {a : Addr} {xs : List V} {n k : Nat} {g g1 : TG} {te : TE} {vs vs1 : List Nat} {σ : L2.St} {H1 : Hp} {D : Addr} {Qd : Hp → Prop} (Po : Nat → Hp → Prop) (Pi : Nat → Nat → Hp → Prop) (h0 : Po 0 (upd H1 D (.lst []))) (hl : ∀ i H, Po i H → SqL K H a xs) (hsm : (n : Int) < 2 ^ 62)
    (hs : ∀ i x H, xs[i]? = some x → Po i H → g x (wipe σ vs) H fun σ2 H2 => wipe σ2 vs = wipe σ vs ∧ σ2[k]? = some (some (.int (n : Int))) ∧ Pi i 0 H2 ∧ ∀ j H, j < n → Pi i j H → g1 (.int (0 + (j : Int))) (wipe σ2 vs1) H fun σ3 H5 => wipe σ3 vs1 = wipe σ2 vs1 ∧ te σ3 H5 fun y H7 => ∃ acc, H7 D = some (.lst acc) ∧ acc.length < sizeLine ∧ Pi i (j + 1) (upd H7 D (.lst (acc ++ [y]))))
    (hmono : ∀ x σ H (R R' : L2.St → Hp → Prop), (∀ σ' H', R σ' H' → R' σ' H') → g x σ H R → g x σ H R') (hmono1 : ∀ x σ H (R R' : L2.St → Hp → Prop), (∀ σ' H', R σ' H' → R' σ' H') → g1 x σ H R → g1 x σ H R')
    (hn : ∀ i H, i < xs.length → Pi i n H → Po (i + 1) H) (hd : ∀ H, Po xs.length H → Qd H) :
    ∃ W : Nat → Nat → Hp → Prop, (∃ m, W 0 m (upd H1 D (.lst []))) ∧ ∀ i m H, W i m H →
      ((Itl K a).stop i H ∧ Qd H) ∨ ((Itl K a).go i H ∧ ∃ Nx : Hp → Prop, (∀ H', Nx H' → ∃ m', m' < m ∧ W (i + 1) m' H') ∧ ∀ x H', (Itl K a).yld i H x H' → g x (wipe σ vs) H' fun σ2 H2 => wipe σ2 vs = wipe σ vs ∧ tYes σ2 H2 fun b H3 =>
        if b = true then iRng1 (tCons (tVar k) tNil) σ2 H3 fun J1 H4 => ∃ W1 : Nat → Nat → Hp → Prop, (∃ m, W1 0 m H4) ∧ ∀ j k H, W1 j k H →
          (J1.stop j H ∧ Nx H) ∨ (J1.go j H ∧ ∃ Nx1 : Hp → Prop, (∀ H', Nx1 H' → ∃ k', k' < k ∧ W1 (j + 1) k' H') ∧ ∀ x H', J1.yld j H x H' → g1 x (wipe σ2 vs1) H' fun σ3 H5 => wipe σ3 vs1 = wipe σ2 vs1 ∧ tYes σ3 H5 fun b H6 =>
            if b = true then te σ3 H6 fun y H7 => ∃ acc, H7 D = some (.lst acc) ∧ acc.length < sizeLine ∧ Nx1 (upd H7 D (.lst (acc ++ [y]))) else Nx1 H6)
        else Nx H3) := by
  refine ⟨fun i m H => m = xs.length - i ∧ i ≤ xs.length ∧ Po i H, ⟨xs.length, by simp, Nat.zero_le _, h0⟩, ?_⟩
  rintro i m H ⟨rfl, hi, p⟩
  have q := hl i H p
  by_cases hlt : i < xs.length
  · refine .inr ⟨⟨xs, xs[i], q, by simp [hlt]⟩, Po (i + 1), fun H' p' => ⟨xs.length - (i + 1), by omega, rfl, hlt, p'⟩, fun x H' y => ?_⟩
    obtain ⟨e, y⟩ := y
    subst e
    refine hmono _ _ _ _ _ (fun σ2 H2 z => ?_) (hs i x _ (y xs q) p)
    obtain ⟨z1, z2, z3, z4⟩ := z
    refine ⟨z1, ?_⟩
    refine ⟨.int (n : Int), z2, (n : Int), rfl, by omega, hsm, ?_⟩
    refine ⟨fun j m H => m = n - j ∧ j ≤ n ∧ Pi i j H, ⟨n, by simp, Nat.zero_le _, z3⟩, ?_⟩
    rintro j m H3 ⟨rfl, hj, pj⟩
    by_cases hjl : j < n
    · refine .inr ⟨(show j < (n : Int).toNat by omega), Pi i (j + 1), fun H' p' => ⟨n - (j + 1), by omega, rfl, hjl, p'⟩, fun x1 H4 y1 => ?_⟩
      obtain ⟨e1, e2⟩ := y1
      subst e1 e2
      refine hmono1 _ _ _ _ _ (fun σ3 H5 z => ?_) (z4 j _ hjl pj)
      exact ⟨z.1, z.2⟩
    · have ej : j = n := by omega
      subst ej
      exact .inl ⟨(show (j : Int).toNat ≤ j by omega), hn i H3 hlt pj⟩
  · have e : i = xs.length := by omega
    subst e
    exact .inl ⟨⟨xs, q, Nat.le_refl _⟩, hd H p⟩
end
end K03

namespace K03
open PySem L2
theorem gName_mono {i : Nat} : ∀ (x : V) (σ : L2.St) (H : Hp) (R R' : L2.St → Hp → Prop), (∀ σ' H', R σ' H' → R' σ' H') → gName i x σ H R → gName i x σ H R' := fun _ _ _ _ _ h z => h _ _ z
theorem ext_at {s j : Nat} {r : List Nat} (h : j < s) : (ext s r).take (j + 1) = (ext s r).take j ++ [r ++ [j]] := by
  refine take_one ?_
  unfold ext
  rw [List.getElem?_map, List.getElem?_range h]
  rfl
theorem stepR_take {rows : List (List Nat)} {s i : Nat} {r : List Nat} (h : rows[i]? = some r) : stepR (rows.take (i + 1)) s = stepR (rows.take i) s ++ ext s r := by
  rw [take_one h]
  unfold stepR
  rw [List.flatMap_append]
  simp
theorem ext_len {s : Nat} {r : List Nat} : (ext s r).length = s := by
  unfold ext
  rw [List.length_map, List.length_range]
theorem worths_row : ∀ {ss : List Nat} {r : List Nat}, r ∈ worthsOf ss → r.length = ss.length := by
  have key : ∀ (ss : List Nat) (acc : List (List Nat)) (n : Nat), (∀ r ∈ acc, r.length = n) → ∀ r ∈ ss.foldl stepR acc, r.length = n + ss.length := by
    intro ss
    induction ss with
    | nil => exact fun acc n h r hr => h r hr
    | cons s l ih =>
      intro acc n h r hr
      rw [List.foldl_cons] at hr
      rw [ih (stepR acc s) (n + 1) (fun x hx => ?_) r hr, List.length_cons]
      · omega
      · unfold stepR at hx
        obtain ⟨a, ha, hx⟩ := List.mem_flatMap.mp hx
        unfold ext at hx
        obtain ⟨w, _, rfl⟩ := List.mem_map.mp hx
        rw [List.length_append, h a ha]
        rfl
  intro ss r h
  have := key ss [[]] 0 (fun r hr => by rw [List.mem_singleton.mp hr]; rfl) r h
  omega
/-- (*row, x) -/
theorem pe_tupStar {K : PySem.W.Frag} {X : Cx} {e f : Expr} {te tf : TE} {x1 : Nat} {p pos : Pos} (he : PE X e te) (hf : PE X f tf) (hK : X.K = K := by rfl)
    (hs : starEach [.Starred e p, f] X.env = (true, eval e X.env) :: starEach [f] X.env := by rfl) (hs2 : starEach [f] X.env = (false, eval f X.env) :: starEach [] X.env := by rfl) :
    PE X (.Tuple [.Starred e p, f] x1 pos) (tTup (StX.tStar K te (tCons tf tNil))) := by
  subst hK
  exact pe_tup (StX.pa_star he (pa_cons hf pa_nil hs2) hs)
section
variable {base : Heap} {P : Program} {w : World} {K : PySem.W.Frag} {mg : Str → Option Value}
def spWorths (K : PySem.W.Frag) : Sp := fun vs H Q _ => ∃ (p : Addr) (ss : List Nat), vs = [.ref p] ∧ SqT K H p (rowV ss) ∧ ss.length ≤ 3 ∧ (∀ s ∈ ss, s ≤ 3) ∧ ∀ H' q, Same H H' → H q = none → RowsAt K H' q (worthsOf ss) → Q (.ref q) H'
abbrev nWorths : List Str := ["sizes", "rows", "size", "row", "worth"]
theorem scWorths : FnScope nWorths ["sizes"] (defScope sWorths) := ⟨rfl, rfl, rfl, by decide +kernel, rfl, by decide +kernel, by decide +kernel⟩
theorem worths_take {ss : List Nat} {i s : Nat} (h : ss[i]? = some s) : worthsOf (ss.take (i + 1)) = stepR (worthsOf (ss.take i)) s := by
  rw [take_one h]
  unfold worthsOf
  rw [List.foldl_append]
  rfl
theorem worths_len : ∀ (ss : List Nat), (∀ s ∈ ss, s ≤ 3) → (worthsOf ss).length ≤ 3 ^ ss.length := by
  intro ss
  have key : ∀ (ss : List Nat) (acc : List (List Nat)), (∀ s ∈ ss, s ≤ 3) → (ss.foldl stepR acc).length ≤ acc.length * 3 ^ ss.length := by
    intro ss
    induction ss with
    | nil =>
      intro acc _
      simp
    | cons s l ih =>
      intro acc h
      rw [List.foldl_cons]
      have a := ih (stepR acc s) fun x hx => h x (List.mem_cons_of_mem _ hx)
      rw [stepR_len] at a
      have b := h s List.mem_cons_self
      have c : acc.length * s * 3 ^ l.length ≤ acc.length * 3 * 3 ^ l.length := Nat.mul_le_mul_right _ (Nat.mul_le_mul_left _ b)
      rw [List.length_cons, Nat.pow_succ]
      have d : acc.length * (3 ^ l.length * 3) = acc.length * 3 * 3 ^ l.length := by
        rw [Nat.mul_comm (3 ^ l.length) 3, Nat.mul_assoc]
      omega
  intro h
  have := key ss [[]] h
  rw [List.length_singleton, Nat.one_mul] at this
  exact this
theorem worths_small {ss : List Nat} (h1 : ss.length ≤ 3) (h : ∀ s ∈ ss, s ≤ 3) (i : Nat) : (worthsOf (ss.take i)).length ≤ 27 := by
  have a := worths_len (ss.take i) fun s hs => h s (List.mem_of_mem_take hs)
  have b : (ss.take i).length ≤ 3 := by
    rw [List.length_take]
    omega
  have c : 3 ^ (ss.take i).length ≤ 3 ^ 3 := Nat.pow_le_pow_right (by decide) b
  omega
theorem worths_len4 : ∀ (ss : List Nat), (∀ s ∈ ss, s ≤ 4) → (worthsOf ss).length ≤ 4 ^ ss.length := by
  intro ss
  have key : ∀ (ss : List Nat) (acc : List (List Nat)), (∀ s ∈ ss, s ≤ 4) → (ss.foldl stepR acc).length ≤ acc.length * 4 ^ ss.length := by
    intro ss
    induction ss with
    | nil =>
      intro acc _
      simp
    | cons s l ih =>
      intro acc h
      rw [List.foldl_cons]
      have a := ih (stepR acc s) fun x hx => h x (List.mem_cons_of_mem _ hx)
      rw [stepR_len] at a
      have b := h s List.mem_cons_self
      have c : acc.length * s * 4 ^ l.length ≤ acc.length * 4 * 4 ^ l.length := Nat.mul_le_mul_right _ (Nat.mul_le_mul_left _ b)
      rw [List.length_cons, Nat.pow_succ]
      have d : acc.length * (4 ^ l.length * 4) = acc.length * 4 * 4 ^ l.length := by
        rw [Nat.mul_comm (4 ^ l.length) 4, Nat.mul_assoc]
      omega
  intro h
  have := key ss [[]] h
  rw [List.length_singleton, Nat.one_mul] at this
  exact this
theorem worths_small4 {ss : List Nat} (h1 : ss.length ≤ 3) (h : ∀ s ∈ ss, s ≤ 4) (i : Nat) : (worthsOf (ss.take i)).length ≤ 64 := by
  have a := worths_len4 (ss.take i) fun s hs => h s (List.mem_of_mem_take hs)
  have b : (ss.take i).length ≤ 3 := by
    rw [List.length_take]
    omega
  have c : 4 ^ (ss.take i).length ≤ 4 ^ 3 := Nat.pow_le_pow_right (by decide) b
  omega
theorem ok_worths {f : Addr} {fd : FuncData} (F : Fun K "all_worths" "all_worths" sWorths f fd) (T : Txt4 K mg) : FnOk P w K mg base CX0 1 f fd ["sizes"] (spWorths K) := by
  refine F.ok scWorths (fun vs H Q E h => ?_) (fun cdv A outer s H vs Q E hr h => ?_)
  · obtain ⟨p, ss, rfl, _⟩ := h
    rfl
  · obtain ⟨p, ss, rfl, hp, hl, h3, k⟩ := h
    refine ⟨_, pss_cons (ps_set (i := 1) scWorths.nd rfl (.inl rfl) (pe_lst (pa_cons (pe_tup pa_nil) pa_nil)))
      (pss_cons (ps_for PassesOwn.never rfl (pi_tup (pv 0)) (pg_name (i := 2) scWorths.nd rfl (.inr rfl))
        (pss_one (ps_setLc2 (i := 1) (own := [("row", 3), ("worth", 4)]) (vs1 := [4]) (g := gName 3) (tt := tYes) (g1 := gName 4) (tt1 := tYes) rfl scWorths.nd rfl rfl rfl (pi_list (pv 1))
          (blkOk_by (N := nWorths) (sc := defScope sWorths) (by decide +kernel)) (by decide) (fun _ _ _ _ _ => pg_name (i := 3) scWorths.nd rfl (Or.inl rfl)) (fun _ _ _ _ _ => pts_nil)
          (fun _ _ _ _ _ => pi_range1 (by rfl) T.range (pa_cons (pv 2) pa_nil)) (fun _ _ _ _ _ => pg_name (i := 4) scWorths.nd rfl (Or.inl rfl)) (fun _ _ _ _ _ => pts_nil)
          (fun _ _ _ _ _ => pe_tupStar (K := K) (pv 3) (pv 4)))))
      (pss_one (ps_ret (pv 1)))), ?_⟩
    refine ⟨Nat.zero_le _, fun e ne => ⟨(by show 1 ≤ sizeLine; decide), fun R nR => ?_⟩⟩
    have s0 := (same_upd (o := .tup []) ne).trans (same_upd (o := .lst [V.ref e]) nR)
    refine ⟨_, rfl, p, rfl, ⟨_, sqT_same s0 hp⟩, for_it (walk_tup (xs := rowV ss)) (fun i σ H1 => ∃ (R : Addr) (v2 : Option V), σ = [some (.ref p), some (.ref R), v2, none, none] ∧ Same H H1 ∧ RowsAt K H1 R (worthsOf (ss.take i)) ∧ H R = none)
      ⟨R, none, rfl, s0, ⟨[e], upd_same, .cons (SqT.of (get_new upd_same nR)) .nil⟩, (same_upd ne).free nR⟩ (fun i σ H1 _ ⟨_, _, _, s1, _⟩ => sqT_same s1 hp) ?_ ?_⟩
    · rintro i x σ H1 H2 hi ⟨R1, v2, rfl, s1, hR, fR⟩ ⟨rfl, hx⟩
      unfold rowV at hx
      rw [List.getElem?_map] at hx
      obtain ⟨sz, hsz, rfl⟩ := Option.map_eq_some_iff.mp hx
      have sz3 := h3 sz (List.mem_of_getElem? hsz)
      have wsm := worths_small hl h3 i
      obtain ⟨ts, hR1, pr⟩ := hR
      have rl : ∀ r ∈ worthsOf (ss.take i), r.length = (ss.take i).length := fun r hr => worths_row hr
      generalize hrows : worthsOf (ss.take i) = rows at pr wsm rl
      have lts : ts.length = rows.length := Paired.length pr
      refine ⟨_, rfl, R1, rfl, ⟨_, SqL.of hR1⟩, fun D nD => ?_⟩
      refine lc2_lr (K := K) (xs := ts.map V.ref) (n := sz) (fun i H' => Same H2 H' ∧ RowsAt K H' D (stepR (rows.take i) sz)) (fun i j H' => Same H2 H' ∧ ∃ r, rows[i]? = some r ∧ RowsAt K H' D (stepR (rows.take i) sz ++ (ext sz r).take j))
        ⟨same_upd nD, [], upd_same, .nil⟩ (fun i H' z => SqL.of (z.1 _ _ hR1)) (by omega) ?_ gName_mono gName_mono ?_ ?_
      · rintro i' x' H' hx' ⟨s2, hD⟩
        rw [List.getElem?_map] at hx'
        obtain ⟨t, ht, rfl⟩ := Option.map_eq_some_iff.mp hx'
        obtain ⟨r, hr1, hr2⟩ := paired_get pr ht
        refine ⟨rfl, rfl, ⟨s2, r, hr1, by rw [List.take_zero, List.append_nil]; exact hD⟩, ?_⟩
        rintro j H3 hj ⟨s3, r', hr', ts3, hD3, pr3⟩
        rw [hr1] at hr'
        cases hr'
        refine ⟨rfl, _, rfl, t, _, rfl, .inl (sqT_same s3 hr2), _, rfl, ?_, fun q nq => ?_⟩
        · show (rowV r ++ [V.int (0 + (j : Int))]).length ≤ sizeLine
          rw [List.length_append]
          unfold rowV
          rw [List.length_map, rl r (List.mem_of_getElem? hr1), List.length_take]
          exact Nat.le_trans (show min i ss.length + 1 ≤ 4 by omega) (by decide)
        have l3 : ts3.length ≤ 1000 := by
          rw [Paired.length pr3, List.length_append, stepR_len, List.length_take, List.length_take, ext_len]
          have a1 : min i' rows.length * sz ≤ 27 * 3 := Nat.mul_le_mul (by omega) sz3
          omega
        have er : rowV r ++ [V.int (0 + (j : Int))] = rowV (r ++ [j]) := by
          unfold rowV
          rw [List.map_append, Int.zero_add]
          rfl
        have hD4 := get_new (o := .tup (rowV r ++ [V.int (0 + (j : Int))])) hD3 nq
        refine ⟨_, hD4, by rw [List.length_map]; exact small1000 (by omega), same_new (s3.trans (same_upd nq)) nD, r, hr1, ts3 ++ [q], ?_, ?_⟩
        · rw [upd_same, List.map_append]
          rfl
        · rw [ext_at hj, ← List.append_assoc]
          refine paired_snoc (Paired.mapP pr3 fun t l e => sqT_upd hD4 (sqT_same (same_upd nq) e)) (sqT_upd hD4 (SqT.of ?_))
          rw [upd_same, er]
      · rintro i' H' hi' ⟨s2, r, hr1, hD⟩
        refine ⟨s2, ?_⟩
        rw [stepR_take hr1]
        have : (ext sz r).take sz = ext sz r := List.take_of_length_le (by rw [ext_len]; exact Nat.le_refl _)
        rw [this] at hD
        exact hD
      · rintro H' ⟨s2, hD⟩
        rw [List.length_map, lts, List.take_length] at hD
        refine ⟨D, _, rfl, s1.trans s2, ?_, s1.free nD⟩
        rw [worths_take hsz, hrows]
        exact hD
    · rintro σ H1 ⟨R1, v2, rfl, s1, hR, fR⟩
      refine ⟨_, rfl, k H1 R1 s1 fR ?_⟩
      have : ss.take (rowV ss).length = ss := by
        unfold rowV
        rw [List.length_map, List.take_length]
      rw [this] at hR
      exact hR
end
end K03

namespace K03
open PySem L2
abbrev sEInit : Stmt := inClass (top 2) 0
abbrev sReadRules : Stmt := top 48
/-! ### the errors -/
def fV (v : V) : List (Str × V) := [("value", v)]
def spEI (K : PySem.W.Frag) : Sp := fun vs H Q _ => ∃ (a C : Addr) (y : V), vs = [.ref a, y] ∧ OexC K C ∧ PySem.W.findIn K (.ref C) "value" = some none ∧ H a = some (exo a C none) ∧
  ∀ dx, H dx = none → dx ≠ a → Q .non (upd (upd H dx (exd dx (fV y))) a (exo a C (some dx)))
/-- what is known of the class of BadText at CB -/
structure Err (P : Program) (w : World) (K : PySem.W.Frag) (mg : Str → Option Value) (base : Heap) (CB : Addr) : Prop where
  ox : OexC K CB
  gB : mg "BadText" = some (.ref CB)
  nv : PySem.W.findIn K (.ref CB) "value" = some none
  init : ∃ (fI : Addr) (fd : FuncData), PySem.W.findIn K (.ref CB) "__init__" = some (some (.ref fI)) ∧ PySem.W.typeIn K (.ref fI) = some (.type "function") ∧ FnOk P w K mg base CX0 1 fI fd ["self", "value"] (spEI K) ∧ Binds K fd ["self", "value"] []
section
variable {base : Heap} {P : Program} {w : World} {K : PySem.W.Frag} {mg : Str → Option Value}
theorem scEInit : FnScope ["self", "value"] ["self", "value"] (defScope sEInit) := ⟨rfl, rfl, rfl, by decide +kernel, rfl, by decide +kernel, by decide +kernel⟩
theorem ok_einit {f : Addr} {fd : FuncData} (F : Fun K "__init__" "SettledError.__init__" sEInit f fd) : FnOk P w K mg base CX0 1 f fd ["self", "value"] (spEI K) := by
  refine F.ok scEInit (fun vs H Q E h => ?_) (fun cdv A outer s H vs Q E hr h => ?_)
  · obtain ⟨a, C, y, rfl, _⟩ := h
    rfl
  · obtain ⟨a, C, y, rfl, T, nv, ha, k⟩ := h
    refine ⟨_, pss_one (ps_ost (pv 0) (pv 1)), ?_⟩
    exact ⟨_, rfl, _, rfl, a, C, rfl, T, nv, .inl ⟨ha, fun dx hd ne => k dx hd ne⟩⟩
/-- what a raised BadText leaves -/
def Bad (H : Hp) (CB : Addr) (n : Int) (E : XK) : Prop := ∀ d H', Same H H' → H d = none → H' d = some (.xd (fV (.int n))) → E (.ref CB) (some d) H'
theorem Bad.same {H H1 : Hp} {CB : Addr} {n : Int} {E : XK} (s : Same H H1) (h : Bad H CB n E) : Bad H1 CB n E := fun d H' s' hd e => h d H' (s.trans s') (s.free hd) e
/-- raise BadText(e) in a def that errors leave -/
theorem ps_bad {X : Cx} {CB : Addr} {W : WX} {e : Expr} {te : TE} {p pos pos2 : Pos} (B : Err X.prog X.w X.K X.mg X.base CB) (hc : X.calm = true) (tk : L2.Takes X W) (hr : Room 2 X.A) (he : PE X e te) (hg : Gl X "BadText" := by rfl)
    (hst : starEach (e :: []) X.env = (false, eval e X.env) :: starEach [] X.env := by rfl) (hpl : (backTo pos (starEach [] X.env)).any (·.1) = false := by rfl) :
    PS X (.Raise (some (.Call (.Name "BadText" p) [e] [] pos)) none pos2) (fun _ σ H => tMkO CB (spEI X.K) [] (tCons te tNil) σ H fun cls d H' => W cls d σ H') := by
  obtain ⟨fI, fd, iC, tI, F1, hb⟩ := B.init
  exact ps_raise (W := W) (pos := pos2) hc tk (pmk_oex (pos := pos) (p := p) (ta := tCons te tNil) (dvs := []) B.ox iC tI F1 hr hb .nil pass0 hg B.gB (pa_cons he pa_nil hst) (by decide) hst hpl)
/-- its reading, behind e's -/
theorem bad_made {CB : Addr} {n : Int} {H1 : Hp} {R : XK} (B : Err P w K mg base CB) (h : Bad H1 CB n R) : ([V.int n] : List V).length ≤ 1000 ∧ ∀ a, H1 a = none → spEI K (.ref a :: ([V.int n] ++ [])) (upd H1 a (exo a CB none))
    (fun v H2 => v = .non ∧ ∃ (d : Addr) (fs : List (Str × V)), H2 a = some (exo a CB (some d)) ∧ H2 d = some (exd d fs) ∧ H1 d = none ∧ R (.ref CB) (some d) (upd (del H2 a) d (.xd fs))) (fun _ _ _ => False) := by
  refine ⟨(by show 1 ≤ 1000; decide), fun a ha => ⟨a, CB, .int n, rfl, B.ox, B.nv, upd_same, fun dx hdx ne => ⟨rfl, dx, fV (.int n), upd_same, ?_, ?_, ?_⟩⟩⟩
  · rw [upd_ne ne, upd_same]
  · rw [upd_ne ne] at hdx
    exact hdx
  · have d1 : H1 dx = none := by
      rw [upd_ne ne] at hdx
      exact hdx
    refine h dx _ (fun b o e => ?_) d1 upd_same
    have nba : b ≠ a := ne_of_none e ha
    have nbd : b ≠ dx := ne_of_none e d1
    rw [upd_ne nbd, del_ne nba, upd_ne nba, upd_ne nbd, upd_ne nba]
    exact e
/-! ### lines_of -/
def nl : Str := "\n"
def linesOf (z : Str) : List Str := Txt.split z nl
/-- what is no string -/
def NotStr (K : PySem.W.Frag) (H : Hp) (x : V) : Prop := ∃ t, TyX K H x t ∧ PySem.W.kitOne K t (.type "str") = some false
def spLines (K : PySem.W.Frag) (CB : Addr) : Sp := fun vs H Q E => ∃ x : V, vs = [x] ∧
  ((∃ z : Str, x = .str z ∧ z.length ≤ 1000000 ∧ ∀ p H', H p = none → Same H H' → H' p = some (.lst ((linesOf z).map V.str)) → Q (.ref p) H') ∨ (NotStr K H x ∧ Bad H CB (-1) E))
theorem scLines : FnScope ["text"] ["text"] (defScope sLines) := ⟨rfl, rfl, rfl, by decide +kernel, rfl, by decide +kernel, by decide +kernel⟩
theorem ok_lines {f CB : Addr} {fd : FuncData} (F : Fun K "lines_of" "lines_of" sLines f fd) (T : Txt3 K mg) (B : Err P w K mg base CB) : FnOk P w K mg base (L2.CX P w) 3 f fd ["text"] (spLines K CB) := by
  refine F.okX scLines (fun vs H Q E h => ?_) (fun cdv A outer s H vs Q E hr h => ?_)
  · obtain ⟨x, rfl, _⟩ := h
    rfl
  · obtain ⟨x, rfl, h⟩ := h
    refine ⟨_, pss_cons (ps_if (pt_not (pt_val (pe_callB call_isi (by rfl) T.isinst (by decide +kernel) (pa_cons (pv 0) (pa_cons (pe_bltn (v := .ty "str") (by rfl) T.str PyProof.Rows.boot_str rfl) pa_nil)))))
        (pss_one (ps_bad B rfl (takes_of rfl rfl rfl rfl) hr (pe_un un_neg pe_int))) pss_nil)
      (pss_one (ps_ret (pe_split (pv 0) pe_str))), ?_⟩
    rcases h with ⟨z, rfl, hz, k⟩ | ⟨⟨t, ty, kt⟩, bad⟩
    · refine ⟨_, rfl, _, _, _, _, true, rfl, .ty "str", .base (.str z), kit_ty (by decide +kernel), _, rfl, ?_⟩
      exact ⟨_, rfl, ⟨_, rfl⟩, _, _, rfl, rfl, by decide +kernel, Nat.le_trans (Nat.add_le_add_right hz 2) (by decide), fun p hp => k p _ hp (same_upd hp) upd_same⟩
    · refine ⟨_, rfl, _, _, _, _, false, rfl, .ty "str", ty, kt, _, rfl, ?_⟩
      exact ⟨1, rfl, bad_made B bad⟩
end
end K03

namespace K03
open L2 PySem PySem.Spec PyProof.Rows
/-! ### a class made where what is raised is wished for at the slots -/
section
variable {X : Cx} {k : Nat} {f C : Addr} {fd : FuncData} {ps : List Str} {sp : Sp} {E : L2.St → XK} {x : Str} {p pos : Pos} {e : Expr} {es : List Expr} {t : TA}
def tMakeS (C : Addr) (sp : Sp) (E : L2.St → XK) (t : TA) : TE := fun σ H Q => t σ H fun vs H1 => ∀ x dx, H1 x = none → H1 dx = none → dx ≠ x → sp (.ref x :: vs) (upd (upd H1 dx (.own x)) x (.ins C dx [])) (fun v H2 => v = .non ∧ Q (.ref x) H2) (E σ)
theorem pe_makeS {CXX : CXT} (M : Mk X.K C f) (F : FnOk X.prog X.w X.K X.mg X.base CXX k f fd ps sp) (hr : Room (k + 1) X.A) (hg : Gl X x) (hm : X.mg x = some (.ref C)) (hb : Binds X.K fd ps []) (hx : ∀ σ, PassesAt CXX X σ (E σ))
    (ha : PA X (e :: es) t) (hdb : (x == ("__debug__" : Str)) = false := by (decide)) (he : starEach (e :: es) X.env = (false, eval e X.env) :: starEach es X.env := by rfl) (hpl : (backTo pos (starEach es X.env)).any (·.1) = false := by rfl) :
    PE X (.Call (.Name x p) (e :: es) [] pos) (tMakeS C sp E t) := by
  refine ⟨fun pins s σ H Q I h => wpAny_Call_Name_kw (ld_glob I hg hm ?_ hdb)⟩
  (refine PySem.W.callWith_K (h₀ := X.base) I.ok.mod.kin M.kp (thn (ha.run pos pins s σ H _ I h) fun us s1 ⟨vs, H1, I1, r, q⟩ => ⟨I1.kIn, ?_⟩) he hpl)
  have q1 := q (s1.heap.objs.size + 1) s1.heap.objs.size (I1.hok.fresh (Nat.le_succ _)) (I1.hok.fresh (Nat.le_refl _)) (Nat.ne_of_lt (Nat.lt_succ_self _))
  have J := Inv.made (C := C) I1
  have rr : Vals (V.ref (s1.heap.objs.size + 1) :: vs) (Value.ref (s1.heap.objs.size + 1) :: us) := .cons rfl r
  have count : (Value.ref (s1.heap.objs.size + 1) :: us ++ []).length = ps.length := by
    rw [List.append_nil, ← rr.length]
    exact F.len _ _ _ _ q1
  have bound := hb _ (Value.ref (s1.heap.objs.size + 1) :: us) J.kIn count
  rw [List.append_nil] at bound
  refine wpAny_call (make_map (f := f) I1.kIn M.makes M.init (beq_iff_eq.mp M.fn) (codeAny_mono (F.run _ X.stack _ _ ⟨Value.ref (s1.heap.objs.size + 1) :: us, []⟩ (Value.ref (s1.heap.objs.size + 1) :: us) _ _ (E σ) (hr.make C us [])
    (J.env0.make C us []) bound rr q1) fun r s' out => ?_))
  cases r with
  | error er => exact hx σ pins _ _ er s' J out
  | ok fl =>
    cases fl with
    | ret u =>
      obtain ⟨v, H', I3, rv, ev, q3⟩ := J.after out
      subst ev
      exact ⟨rv, ⟨V.ref (s1.heap.objs.size + 1), H', I3, rfl, q3⟩⟩
    | next => exact False.elim out
    | brk => exact False.elim out
    | cont => exact False.elim out
end
def HasX (P : Program) (w : World) (K : PySem.W.Frag) (mg : Str → Option Value) (base : Heap) (nm : Str) (k : Nat) (ps : List Str) (sp : Sp) : Prop :=
  ∃ (f : Addr) (fd : FuncData), FnOk P w K mg base (L2.CX P w) k f fd ps sp ∧ mg nm = some (.ref f) ∧ PySem.W.keepIn K (.ref f) = true ∧ Binds K fd ps []
theorem pe_hasX {X : Cx} {nm : Str} {k : Nat} {ps : List Str} {sp : Sp} {W : WX} {e : Expr} {es : List Expr} {t : TA} {p pos : Pos} (h : HasX X.prog X.w X.K X.mg X.base nm k ps sp) (tk : L2.Takes X W) (hr : Room k X.A) (ha : PA X (e :: es) t) (hg : Gl X nm := by rfl)
    (hdb : (nm == ("__debug__" : Str)) = false := by decide) (he : starEach (e :: es) X.env = (false, eval e X.env) :: starEach es X.env := by rfl) (hpl : (backTo pos (starEach es X.env)).any (·.1) = false := by rfl) :
    PE X (.Call (.Name nm p) (e :: es) [] pos) (tCallS sp (WE W) t) := by
  obtain ⟨f, fd, F, hm, hk, hb⟩ := h
  exact pe_callS F hr hg hm hk hb (fun σ => passAt tk σ) ha hdb he hpl
end K03

namespace K03
open PySem L2
/-! ### read_rules -/
abbrev RuleL := Str × List Lit
def litsIn (ks : List Key) (l : Str) : List Lit := (litsOf ks (wordsOf l)).getD []
def keepR (ls : List Lit) (eds : List (List Nat)) : List (List Nat) := eds.filter fun r => ls.any (soB r)
/-- the number of the first wrong line, or what all tell -/
def rulesOf (ks : List Key) (k : Nat) (acc : List RuleL) (eds : List (List Nat)) : List Str → Sum Nat (List RuleL × List (List Nat))
  | [] => .inr (acc, eds)
  | l :: r => if acc.length = 4 ∨ litsIn ks l = [] ∨ keepR (litsIn ks l) eds = [] then .inl k else rulesOf ks (k + 1) (acc ++ [(l, litsIn ks l)]) (keepR (litsIn ks l) eds) r
def RulesAt (H : Hp) (q : Addr) (rows : List RuleL) : Prop := ∃ ts : List Addr, H q = some (.lst (ts.map V.ref)) ∧ Paired (fun (t : Addr) (r : RuleL) => ∃ l, H t = some (.tup [.str r.1, .ref l]) ∧ LitsAt H l r.2) ts rows
theorem idxS_lt {a : Str} {ks : List Key} (h : a ∈ ks.map (·.1)) : idxS a ks < ks.length := by
  obtain ⟨n, e⟩ := idxS_at h
  exact (List.getElem?_eq_some_iff.mp e).1
theorem litOf_lt {ks : List Key} {a b c : Str} {l : Lit} (h : litOf ks a b c = some l) : l.1 < ks.length := by
  unfold litOf at h
  split at h
  · rename_i hc
    have := idxS_lt hc.1
    split at h
    · cases h
    · split at h
      · cases h
        exact this
      · cases h
  · cases h
theorem litsIn_lt {ks : List Key} {z : Str} {l : Lit} (h : l ∈ litsIn ks z) : l.1 < ks.length := by
  unfold litsIn litsOf at h
  split at h
  · split at h
    · exact nomatch h
    · have h' : l ∈ (litsOs ks (wordsOf z)).filterMap id := h
      obtain ⟨o, ho, e⟩ := List.mem_filterMap.mp h'
      unfold litsOs at ho
      obtain ⟨i, _, rfl⟩ := List.mem_map.mp ho
      exact litOf_lt e
  · exact nomatch h
theorem litsIn_len {ks : List Key} {z : Str} : (litsIn ks z).length ≤ 3 := by
  unfold litsIn litsOf
  split
  · rename_i hf
    split
    · exact Nat.zero_le _
    · show ((litsOs ks (wordsOf z)).filterMap id).length ≤ 3
      refine Nat.le_trans (List.length_filterMap_le _ _) ?_
      unfold litsOs
      rw [List.length_map, List.length_range]
      unfold formB at hf
      rw [Bool.and_eq_true, Bool.and_eq_true] at hf
      have := of_decide_eq_true hf.2.1
      omega
  · exact Nat.zero_le _
theorem LitsAt.len {H : Hp} {p : Addr} {ls : List Lit} (h : LitsAt H p ls) : ∃ ts : List Addr, H p = some (.tup (ts.map V.ref)) ∧ ts.length = ls.length := by
  obtain ⟨ts, e, q⟩ := h
  exact ⟨ts, e, Paired.length q⟩
theorem litsAt_upd {H : Hp} {R p : Addr} {xs ys : List V} {ls : List Lit} (hR : H R = some (.lst xs)) (h : LitsAt H p ls) : LitsAt (upd H R (.lst ys)) p ls := by
  obtain ⟨ts, e, q⟩ := h
  refine ⟨ts, by rw [upd_ne (ne_of e hR (by simp))]; exact e, Paired.mapP q fun t l e => ?_⟩
  rw [upd_ne (ne_of e hR (by simp))]
  exact e
theorem RulesAt.keep {H H' : Hp} {q : Addr} {rows : List RuleL} (h : RulesAt H q rows) (s : Same H H') : RulesAt H' q rows := by
  obtain ⟨ts, e, p⟩ := h
  exact ⟨ts, s _ _ e, Paired.mapP p fun t r ⟨l, e1, e2⟩ => ⟨l, s _ _ e1, e2.same s⟩⟩
theorem filter_take {α : Type} {l : List α} {p : α → Bool} {i : Nat} {x : α} (h : l[i]? = some x) : (l.take (i + 1)).filter p = (l.take i).filter p ++ (if p x = true then [x] else []) := by
  rw [take_one h, List.filter_append]
  congr 1
  cases c : p x <;> simp [c]
theorem rules_snoc {H : Hp} {R t l : Addr} {ts : List Addr} {rows : List RuleL} {z : Str} {ls : List Lit} (hR : H R = some (.lst (ts.map V.ref))) (pr : Paired (fun (t : Addr) (r : RuleL) => ∃ l, H t = some (.tup [.str r.1, .ref l]) ∧ LitsAt H l r.2) ts rows) (ht : H t = some (.tup [.str z, .ref l])) (hl : LitsAt H l ls) :
    RulesAt (upd H R (.lst (ts.map V.ref ++ [V.ref t]))) R (rows ++ [(z, ls)]) := by
  refine ⟨ts ++ [t], by rw [upd_same, List.map_append]; rfl, paired_snoc (Paired.mapP pr fun t r ⟨l, e1, e2⟩ => ⟨l, ?_, litsAt_upd hR e2⟩) ⟨l, ?_, litsAt_upd hR hl⟩⟩
  · rw [upd_ne (ne_of e1 hR (by simp))]
    exact e1
  · rw [upd_ne (ne_of ht hR (by simp))]
    exact ht
structure Txt5 (K : PySem.W.Frag) (mg : Str → Option Value) : Prop extends Txt4 K mg where
  mostR : ∃ t, mg "MOST_RULES" = some (.int 4 t)
section
variable {base : Heap} {P : Program} {w : World} {K : PySem.W.Frag} {mg : Str → Option Value}
def spRules (K : PySem.W.Frag) (CB : Addr) : Sp := fun vs H Q E => ∃ (a np sp : Addr) (ls : List Str) (ks : List Key), vs = [.ref a, .ref np, .ref sp] ∧ SqL K H a (ls.map V.str) ∧ ls.length ≤ 1000000 ∧ (∀ l ∈ ls, l.length ≤ 1000000) ∧ TupD H np (namesV ks) ∧ SqT K H sp (sizesV ks) ∧
  ks.length ≤ 3 ∧ (∀ k ∈ ks, k.2 ≤ 3) ∧
  (∀ n : Nat, rulesOf ks ks.length [] (worthsOf (ks.map (·.2))) (ls.drop ks.length) = .inl n → Bad H CB (n : Int) E) ∧
  (∀ rows eds, rulesOf ks ks.length [] (worthsOf (ks.map (·.2))) (ls.drop ks.length) = .inr (rows, eds) → ∀ p q1 q2 H', Same H H' → H' p = some (.tup [.ref q1, .ref q2]) → RulesAt H' q1 rows → RowsAt K H' q2 eds → Q (.ref p) H')
abbrev nRules : List Str := ["lines", "names", "sizes", "rows", "editions", "number", "lits", "worths"]
theorem scRules : FnScope nRules ["lines", "names", "sizes"] (defScope sReadRules) := ⟨rfl, rfl, rfl, by decide +kernel, rfl, by decide +kernel, by decide +kernel⟩
theorem ok_rules {f CB : Addr} {fd : FuncData} (F : Fun K "read_rules" "read_rules" sReadRules f fd) (T : Txt5 K mg) (B : Err P w K mg base CB) (GW : Has P w K mg base "all_worths" 1 ["sizes"] (spWorths K)) (GL : Has P w K mg base "lits_of" 3 ["line", "names", "sizes"] (spLits K)) (GT : Has P w K mg base "truth" 2 ["lits", "worths"] (spTruth K)) :
    FnOk P w K mg base (L2.CX P w) 4 f fd ["lines", "names", "sizes"] (spRules K CB) := by
  refine F.okX scRules (fun vs H Q E h => ?_) (fun cdv A outer s H vs Q E hr h => ?_)
  · obtain ⟨a, np, sp, ls, ks, rfl, _⟩ := h
    rfl
  · obtain ⟨a, np, sp, ls, ks, rfl, hS, hl, hok, hn, hs, k3, kz, kB, kO⟩ := h
    obtain ⟨t4, g4⟩ := T.mostR
    have r1 : Room 1 _ := hr.mono (by decide)
    have r2 : Room 2 _ := hr.mono (by decide)
    refine ⟨_, pss_cons (ps_set (i := 3) scRules.nd rfl (.inl rfl) (pe_lst pa_nil))
      (pss_cons (ps_set (i := 4) scRules.nd rfl (.inl rfl) (pe_has GW r1 (pa_cons (pv 2) pa_nil)))
      (pss_cons (ps_for (passes_of rfl) rfl (pi_range2 (by rfl) T.range (pa_cons (pe_callB call_len_seq (by rfl) T.len PySem.boot_len (pa_cons (pv 1) pa_nil)) (pa_cons (pe_callB call_len_seq (by rfl) T.len PySem.boot_len (pa_cons (pv 0) pa_nil)) pa_nil))) (pg_name (i := 5) scRules.nd rfl (.inl rfl))
        (pss_cons (ps_set (i := 6) scRules.nd rfl (.inr rfl) (pe_has GL hr (pa_cons (pe_ix ix_list (pv 0) (pv 5) (fun _ _ => rfl)) (pa_cons (pv 1) (pa_cons (pv 2) pa_nil)))))
        (pss_cons (ps_setLc (i := 4) (own := [("worths", 7)]) (g := gName 7) rfl scRules.nd rfl rfl rfl (pi_list (pv 4))
            (blkOk_by (N := nRules) (sc := defScope sReadRules) (by decide +kernel)) (fun _ _ _ _ _ => pg_name (i := 7) scRules.nd rfl (Or.inl rfl)) (fun _ _ _ _ _ => pts_one (pt_val (pe_has GT r2 (pa_cons (pv 6) (pa_cons (pv 7) pa_nil)))))
            (fun _ _ _ _ _ => pv 7))
        (pss_cons (ps_if (PW.pt (pw_or (pt_cmpR op_eq (pe_callB call_len_seq (by rfl) T.len PySem.boot_len (pa_cons (pv 3) pa_nil)) (pe_glob (v := .int 4) (by rfl) g4 ⟨_, rfl⟩) (nomark _))
            (pw_or (pt_not (pt_truth (pv 6) (fun _ => rfl))) (pw_or1 (pt_not (pt_truth (pv 4) (fun _ => rfl)))))))
          (pss_one (ps_bad B rfl (takes_of rfl rfl rfl rfl) (hr.mono (by decide)) (pv 5))) pss_nil)
        (pss_one (ps_expr (pe_bm PySem.F.plainAttrs_list PySem.F.slot_list_append PySem.F.type_list_append mt_append (pv 3) (pa_cons (pe_tup (pa_cons (pe_ix ix_list (pv 0) (pv 5) (fun _ _ => rfl)) (pa_cons (pv 6) pa_nil))) pa_nil))))))))
      (pss_one (ps_ret (pe_tup (pa_cons (pv 3) (pa_cons (pv 4) pa_nil))))))), ?_⟩
    have esz : sizesV ks = rowV (ks.map (·.2)) := by
      unfold sizesV rowV
      rw [List.map_map]
      rfl
    have e1 : (namesV ks).length = ks.length := by
      unfold namesV
      rw [List.length_map]
    have kz' : ∀ s ∈ ks.map (·.2), s ≤ 3 := fun s hs => by
      obtain ⟨k, hk, rfl⟩ := List.mem_map.mp hs
      exact kz k hk
    refine ⟨Nat.zero_le _, fun R nR => ?_⟩
    have sR : Same H (upd H R (.lst [])) := same_upd nR
    refine ⟨_, rfl, sp, ks.map (·.2), rfl, by rw [← esz]; exact sqT_same sR hs, by rw [List.length_map]; exact k3, kz', fun H1 D0 s1 fD hD => ?_⟩
    have s01 := sR.trans s1
    have nDR : D0 ≠ R := fun e => by
      rw [e, upd_same] at fD
      cases fD
    have w27 : (worthsOf (ks.map (·.2))).length ≤ 27 := by
      have := worths_small (ss := ks.map (·.2)) (by rw [List.length_map]; exact k3) kz' (ks.map (·.2)).length
      rw [List.take_length] at this
      exact this
    refine ⟨_, rfl, np, _, rfl, .inr (hn.same s01).sq, _, rfl, a, _, rfl, .inl (s01.seq hS), _, _, rfl, ⟨?_, ?_, ?_, ?_⟩, for_range (lo := ((namesV ks).length : Int)) (n := (((ls.map V.str).length : Int) - ((namesV ks).length : Int)).toNat) (fun i σ H2 => ∃ (D : Addr) (rows : List RuleL) (eds : List (List Nat)) (v5 v6 : Option V),
      σ = [some (.ref a), some (.ref np), some (.ref sp), some (.ref R), some (.ref D), v5, v6, none] ∧ Same H H2 ∧ RulesAt H2 R rows ∧ RowsAt K H2 D eds ∧ D ≠ R ∧ rows.length ≤ 4 ∧ eds.length ≤ 27 ∧ (∀ r ∈ eds, r.length = ks.length) ∧
      rulesOf ks ks.length [] (worthsOf (ks.map (·.2))) (ls.drop ks.length) = rulesOf ks (ks.length + i) rows eds (ls.drop (ks.length + i)))
      ⟨D0, [], _, none, none, rfl, s01, ⟨[], s1 _ _ upd_same, .nil⟩, hD, nDR, Nat.zero_le _, w27, fun r hr => by rw [worths_row hr, List.length_map], rfl⟩ ?_ ?_⟩
    · rw [e1]
      omega
    · rw [e1]
      omega
    · rw [List.length_map]
      omega
    · rw [List.length_map]
      omega
    · rintro i σ H2 hi ⟨D, rows, eds, v5, v6, rfl, s2, hR, hD2, nDR2, lr, le, rl, heq⟩
      rw [e1, List.length_map] at hi
      have en : ((namesV ks).length : Int) + (i : Int) = ((ks.length + i : Nat) : Int) := by
        rw [e1]
        omega
      rw [en]
      have hlt : ks.length + i < ls.length := by omega
      obtain ⟨l, hl1⟩ : ∃ l, ls[ks.length + i]? = some l := ⟨_, List.getElem?_eq_getElem hlt⟩
      have ed : ls.drop (ks.length + i) = l :: ls.drop (ks.length + i + 1) := by
        obtain ⟨hlt, hv⟩ := List.getElem?_eq_some_iff.mp hl1
        rw [List.drop_eq_getElem_cons hlt, hv]
      rw [ed] at heq
      have hat : atI (ls.map V.str) ((ks.length + i : Nat) : Int) = some (.str l) := atI_nat (by rw [List.getElem?_map, hl1]; rfl)
      have lm := hok l (List.mem_of_getElem? hl1)
      have hstep : rulesOf ks ks.length [] (worthsOf (ks.map (·.2))) (ls.drop ks.length) = if rows.length = 4 ∨ litsIn ks l = [] ∨ keepR (litsIn ks l) eds = [] then .inl (ks.length + i) else rulesOf ks (ks.length + i + 1) (rows ++ [(l, litsIn ks l)]) (keepR (litsIn ks l) eds) (ls.drop (ks.length + i + 1)) := heq
      refine ⟨_, rfl, _, rfl, a, _, _, .str l, rfl, rfl, s2.seq hS, hat, _, rfl, _, rfl, np, sp, l, ks, rfl, hn.same s2, sqT_same s2 hs, lm, fun H3 p s3 hp => ?_⟩
      have hp' : LitsAt H3 p (litsIn ks l) := hp
      have s23 := s2.trans s3
      obtain ⟨ts, hD3, prD⟩ := hD2.same s3
      have lts : ts.length = eds.length := Paired.length prD
      dsimp only [tSeq, tAsg, tLc, iList, List.map]
      refine ⟨_, rfl, D, rfl, ⟨_, SqL.of hD3⟩, fun E2 nE => ?_⟩
      refine lc_list (K := K) (xs := ts.map V.ref) (fun j H' => Same H3 H' ∧ ∃ ts', H' E2 = some (.lst (ts'.map V.ref)) ∧ Paired (fun (t : Addr) (r : List Nat) => SqT K H' t (rowV r)) ts' (keepR (litsIn ks l) (eds.take j)) ∧ ts'.length ≤ j)
        ⟨same_upd nE, [], upd_same, .nil, Nat.zero_le _⟩ (fun j H' _ z => SqL.of (z.1 _ _ hD3)) ?_ ?_
      · rintro j x H' hx ⟨s4, ts', hE, pr', lt'⟩
        rw [List.getElem?_map] at hx
        obtain ⟨t, ht, rfl⟩ := Option.map_eq_some_iff.mp hx
        obtain ⟨r, hr1, hr2⟩ := paired_get prD ht
        have jlt : j < ts.length := (List.getElem?_eq_some_iff.mp ht).1
        have rlen := rl r (List.mem_of_getElem? hr1)
        refine ⟨rfl, _, rfl, _, rfl, p, t, litsIn ks l, r, rfl, hp'.same s4, sqT_same s4 hr2, fun l1 hl1 => by rw [rlen]; exact litsIn_lt hl1, Nat.le_trans litsIn_len (by decide), fun H5 s5 => ⟨_, rfl, ?_⟩⟩
        have kp : keepR (litsIn ks l) (eds.take (j + 1)) = keepR (litsIn ks l) (eds.take j) ++ (if (litsIn ks l).any (soB r) = true then [r] else []) := filter_take hr1
        refine ite2 (fun hb => ?_) (fun hb => ?_)
        · have hE5 := s5 _ _ hE
          refine ⟨_, rfl, _, hE5, by rw [List.length_map]; exact small1000 (by omega), same_new (s4.trans s5) nE, ts' ++ [t], by rw [upd_same, List.map_append]; rfl, ?_, by rw [List.length_append]; show _ + 1 ≤ _; omega⟩
          rw [kp, if_pos hb]
          exact paired_snoc (Paired.mapP pr' fun t l e => sqT_upd hE5 (sqT_same s5 e)) (sqT_upd hE5 (sqT_same (s4.trans s5) hr2))
        · refine ⟨s4.trans s5, ts', s5 _ _ hE, ?_, by omega⟩
          rw [kp, if_neg hb, List.append_nil]
          exact Paired.mapP pr' fun t l e => sqT_same s5 e
      · rintro H4 ⟨s4, ts', hE, pr', lt'⟩
        rw [List.length_map, lts, List.take_length] at pr'
        have s24 := s23.trans s4
        have hR4 := (hR.keep s3).keep s4
        have hp4 := hp'.same s4
        obtain ⟨tr, hRr, prR⟩ := hR4
        have ltr : tr.length = rows.length := Paired.length prR
        obtain ⟨tl, htl, ltl⟩ := hp4.len
        have lte : ts'.length = (keepR (litsIn ks l) eds).length := Paired.length pr'
        have bad : (rows.length = 4 ∨ litsIn ks l = [] ∨ keepR (litsIn ks l) eds = []) → Bad H4 CB ((ks.length + i : Nat) : Int) E := fun c => (kB (ks.length + i) (by rw [hstep, if_pos c])).same s24
        refine ⟨_, rfl, R, _, rfl, .inl (SqL.of hRr), rfl, _, rfl, ?_⟩
        refine ite2 (fun c => ?_) (fun c => ?_)
        · refine ⟨_, rfl, bad_made B (bad (.inl ?_))⟩
          have := V.int.inj (of_decide_eq_true c)
          rw [List.length_map] at this
          omega
        have c4 : rows.length ≠ 4 := fun q => c (decide_eq_true (by rw [List.length_map, ltr, q]; rfl))
        refine ⟨_, rfl, _, .inr (.inl ⟨_, SqT.of htl, rfl⟩), ?_⟩
        refine ite2 (fun c => ?_) (fun c => ?_)
        · refine ⟨_, rfl, bad_made B (bad (.inr (.inl ?_)))⟩
          cases q : litsIn ks l with
          | nil => rfl
          | cons x y =>
            rw [q] at ltl
            cases tl with
            | nil => cases ltl
            | cons x' y' => cases (show (!(!false)) = true from c)
        have cl : litsIn ks l ≠ [] := fun q => c (by
          rw [q] at ltl
          cases tl with
          | nil => rfl
          | cons x' y' => cases ltl)
        refine ⟨_, rfl, _, .inl ⟨_, SqL.of hE, rfl⟩, ?_⟩
        refine ite2 (fun c => ?_) (fun c => ?_)
        · refine ⟨_, rfl, bad_made B (bad (.inr (.inr ?_)))⟩
          cases q : keepR (litsIn ks l) eds with
          | nil => rfl
          | cons x y =>
            rw [q] at lte
            cases ts' with
            | nil => cases lte
            | cons x' y' => cases (show (!(!false)) = true from c)
        have ce : keepR (litsIn ks l) eds ≠ [] := fun q => c (by
          rw [q] at lte
          cases ts' with
          | nil => rfl
          | cons x' y' => cases lte)
        refine ⟨_, rfl, .inl ⟨rfl, _, SqL.of hRr⟩, _, rfl, _, rfl, a, _, _, .str l, rfl, rfl, s24.seq hS, hat, _, rfl, (by show 2 ≤ sizeLine; decide), fun t nt => ?_⟩
        have st := same_upd (o := .tup [.str l, .ref p]) nt
        refine ⟨R, _, _, rfl, rfl, st _ _ hRr, by rw [List.length_map]; exact small1000 (by omega), ?_⟩
        have nER : E2 ≠ R := fun e => by
          rw [e, s3 _ _ (hR.choose_spec.1)] at nE
          cases nE
        refine ⟨E2, rows ++ [(l, litsIn ks l)], keepR (litsIn ks l) eds, _, _, rfl, same_new (s24.trans st) nR, ?_, ?_, nER, ?_, ?_, ?_, ?_⟩
        · exact rules_snoc (st _ _ hRr) (Paired.mapP prR fun t r ⟨l, e1, e2⟩ => ⟨l, st _ _ e1, e2.same st⟩) upd_same (hp4.same st)
        · refine ⟨ts', by rw [upd_ne nER]; exact st _ _ hE, Paired.mapP pr' fun t l e => sqT_upd (st _ _ hRr) (sqT_same st e)⟩
        · rw [List.length_append]
          show _ + 1 ≤ 4
          omega
        · exact Nat.le_trans (List.length_filter_le _ _) le
        · exact fun r hr => rl r (List.mem_filter.mp hr).1
        · rw [hstep, if_neg (fun q => by
            rcases q with q | q | q
            · exact c4 q
            · exact cl q
            · exact ce q)]
          rfl
    · rintro σ H2 ⟨D, rows, eds, v5, v6, rfl, s2, hR, hD2, nDR2, lr, le, rl, heq⟩
      rw [e1, List.length_map] at heq
      have ed : ls.drop (ks.length + (((ls.length : Int) - (ks.length : Int)).toNat)) = [] := List.drop_of_length_le (by omega)
      rw [ed] at heq
      refine ⟨_, rfl, _, rfl, (by show 2 ≤ sizeLine; decide), fun p np2 => ?_⟩
      exact kO rows eds heq p R D _ (s2.trans (same_upd np2)) upd_same (hR.keep (same_upd np2)) (hD2.same (same_upd np2))
end
end K03

namespace K03
open L2 PySem PySem.Spec
abbrev sRInit : Stmt := inClass (top 39) 0
abbrev sRText : Stmt := inClass (top 39) 1
abbrev sSInit : Stmt := inClass (top 45) 0
abbrev sSText : Stmt := inClass (top 45) 1
abbrev sSNames : Stmt := inClass (top 45) 2
abbrev sSSizes : Stmt := inClass (top 45) 3
abbrev sSRules : Stmt := inClass (top 45) 4
abbrev sSEds : Stmt := inClass (top 45) 5
abbrev sSEq : Stmt := inClass (top 45) 6
/-! ### Rule -/
def rf (p : V) (z : V) (l : V) : List (Str × V) := putF "lits" l (putF "_text" z (putF "_sheet" p []))
structure RuleT (K : PySem.W.Frag) (mg : Str → Option Value) (CR : Addr) : Prop where
  cl : Cls K CR
  gR : mg "Rule" = some (.ref CR)
  n1 : NoAttr K CR "_sheet"
  n2 : NoAttr K CR "_text"
  n3 : NoAttr K CR "lits"
section
variable {base : Heap} {P : Program} {w : World} {K : PySem.W.Frag} {mg : Str → Option Value}
theorem putF_len {f : Str} {y : V} : ∀ fs : List (Str × V), (putF f y fs).length ≤ fs.length + 1
  | [] => Nat.le_refl _
  | (g, x) :: r => by
    show (if g = f then (g, y) :: r else (g, x) :: putF f y r).length ≤ r.length + 1 + 1
    by_cases h : g = f
    · rw [if_pos h]
      exact Nat.le_succ _
    · rw [if_neg h]
      exact Nat.succ_le_succ (putF_len r)
def spRI (CR : Addr) : Sp := fun vs H Q _ => ∃ (p dx : Addr) (s t l : V), vs = [.ref p, s, t, l] ∧ H p = some (.ins CR dx []) ∧ Q .non (upd H p (.ins CR dx (rf s t l)))
theorem scRInit : FnScope ["self", "sheet", "text", "lits"] ["self", "sheet", "text", "lits"] (defScope sRInit) := ⟨rfl, rfl, rfl, by decide +kernel, rfl, by decide +kernel, by decide +kernel⟩
theorem ok_rinit {f CR : Addr} {fd : FuncData} (F : Fun K "__init__" "Rule.__init__" sRInit f fd) (T : RuleT K mg CR) : FnOk P w K mg base CX0 1 f fd ["self", "sheet", "text", "lits"] (spRI CR) := by
  refine F.ok scRInit (fun vs H Q E h => ?_) (fun cdv A outer s H vs Q E hr h => ?_)
  · obtain ⟨p, dx, s, t, l, rfl, _⟩ := h
    rfl
  · obtain ⟨p, dx, s, t, l, rfl, hp, k⟩ := h
    refine ⟨_, pss_cons (ps_fld (pv 0) (pv 1) rfl) (pss_cons (ps_fld (pv 0) (pv 2) rfl) (pss_one (ps_fld (pv 0) (pv 3) rfl))), ?_⟩
    have l1 := putF_len (f := "_sheet") (y := s) []
    have l2 := putF_len (f := "_text") (y := t) (putF "_sheet" s [])
    refine ⟨_, rfl, _, rfl, p, CR, dx, [], rfl, hp, T.cl, T.n1, by decide, ?_⟩
    refine ⟨_, rfl, _, rfl, p, CR, dx, _, rfl, upd_same, T.cl, T.n2, Nat.lt_of_le_of_lt l1 (by decide), ?_⟩
    refine ⟨_, rfl, _, rfl, p, CR, dx, _, rfl, upd_same, T.cl, T.n3, Nat.lt_of_le_of_lt l2 (Nat.lt_of_le_of_lt (Nat.succ_le_succ l1) (by decide)), ?_⟩
    show Q .non _
    rw [upd_upd, upd_upd]
    exact k
/-- a Rule's __init__, as makers know it -/
structure RuleC (P : Program) (w : World) (K : PySem.W.Frag) (mg : Str → Option Value) (base : Heap) (CR : Addr) : Prop extends RuleT K mg CR where
  init : ∃ (fI : Addr) (fd : FuncData), Mk K CR fI ∧ FnOk P w K mg base CX0 1 fI fd ["self", "sheet", "text", "lits"] (spRI CR) ∧ Binds K fd ["self", "sheet", "text", "lits"] []
/-! ### Sheet -/
def sf (z : Str) (n s e r : Addr) : List (Str × V) := putF "_rules" (.ref r) (putF "_editions" (.ref e) (putF "_sizes" (.ref s) (putF "_names" (.ref n) (putF "_text" (.str z) []))))
structure SheetT (K : PySem.W.Frag) (mg : Str → Option Value) (C : Addr) : Prop where
  cl : Cls K C
  gS : mg "Sheet" = some (.ref C)
  n1 : NoAttr K C "_text"
  n2 : NoAttr K C "_names"
  n3 : NoAttr K C "_sizes"
  n4 : NoAttr K C "_editions"
  n5 : NoAttr K C "_rules"
  tuple : mg "tuple" = none
  isinst : mg "isinstance" = none
  len : mg "len" = none
  word : ∃ t, mg "RULE_WORD" = some (.str "rule " t)
def readS (z : Str) : Sum Nat (List Key × List RuleL × List (List Nat)) :=
  match rulesOf (keysOf [] ((linesOf z).take 3)) (keysOf [] ((linesOf z).take 3)).length [] (worthsOf ((keysOf [] ((linesOf z).take 3)).map (·.2))) ((linesOf z).drop (keysOf [] ((linesOf z).take 3)).length) with
  | .inl n => .inl n
  | .inr (rows, eds) => .inr (keysOf [] ((linesOf z).take 3), rows, eds)
def EdsAt (K : PySem.W.Frag) (H : Hp) (e : Addr) (eds : List (List Nat)) : Prop := ∃ ts : List Addr, H e = some (.tup (ts.map V.ref)) ∧ Paired (fun (t : Addr) (r : List Nat) => SqT K H t (rowV r)) ts eds
def RuleAt (CR p : Addr) (H : Hp) (t : Addr) (r : RuleL) : Prop := ∃ dx l : Addr, H t = some (.ins CR dx (rf (.ref p) (.str (cutS r.1 (some 5) none)) (.ref l))) ∧ LitsAt H l r.2
def RulesOb (CR p : Addr) (H : Hp) (q : Addr) (rows : List RuleL) : Prop := ∃ ts : List Addr, H q = some (.tup (ts.map V.ref)) ∧ Paired (RuleAt CR p H) ts rows
def spSI (K : PySem.W.Frag) (C CB CR : Addr) : Sp := fun vs H Q E => ∃ (p dx : Addr) (x : V), vs = [.ref p, x] ∧ H p = some (.ins C dx []) ∧
  ((NotStr K H x ∧ Bad H CB (-1) E) ∨ ∃ z : Str, x = .str z ∧ z.length ≤ 100000 ∧ (∀ n : Nat, readS z = .inl n → Bad H CB (n : Int) E) ∧
    (∀ ks rows eds, readS z = .inr (ks, rows, eds) → ∀ (H' : Hp) (n s e r : Addr), Keep p H H' → H' p = some (.ins C dx (sf z n s e r)) → TupD H' n (namesV ks) → H' s = some (.tup (sizesV ks)) → EdsAt K H' e eds → RulesOb CR p H' r rows → Q .non H'))
theorem split_count (z y : Str) (hy : (tx y).length = 1) : (Txt.split z y).length ≤ z.length + 1 := by
  have e : TL.tl (Str.join y (Txt.split z y)) = TL.tl z := by rw [StrLaws.join_split]
  rw [TL.tl_join] at e
  have count : ∀ ps : List (List Nat), ps.length ≤ (TL.joinL (TL.tl y) ps).length + 1 := by
    intro ps
    induction ps with
    | nil => exact Nat.zero_le _
    | cons p r ih =>
      cases r with
      | nil => exact Nat.succ_le_succ (Nat.zero_le _)
      | cons q l =>
        show (q :: l).length + 1 ≤ (p ++ (TL.tl y ++ TL.joinL (TL.tl y) (q :: l))).length + 1
        rw [List.length_append, List.length_append]
        have : (TL.tl y).length = 1 := hy
        omega
  have := count ((Txt.split z y).map TL.tl)
  rw [e, List.length_map] at this
  rw [TL.len_tl z]
  exact this
theorem keysOf_len : ∀ {ls : List Str} {acc : List Key}, (keysOf acc ls).length ≤ acc.length + ls.length
  | [], acc => Nat.le_refl _
  | l :: r, acc => by
    show (match keyOf (wordsOf l) with | none => acc | some p => if p.1 ∈ acc.map (fun q : Key => q.1) then acc else keysOf (acc ++ [p]) r).length ≤ _
    cases keyOf (wordsOf l) with
    | none => exact Nat.le_add_right _ _
    | some p =>
      show (if p.1 ∈ acc.map (fun q : Key => q.1) then acc else keysOf (acc ++ [p]) r).length ≤ _
      split
      · exact Nat.le_add_right _ _
      · have := keysOf_len (ls := r) (acc := acc ++ [p])
        rw [List.length_append] at this
        rw [List.length_cons]
        simp only [List.length_cons, List.length_nil] at this
        omega
theorem keyOf_size {ws : List Str} {k : Key} (h : keyOf ws = some k) : k.2 = 2 ∨ k.2 = 3 := by
  unfold keyOf at h
  split at h
  · split at h
    · cases h
      split
      · exact .inl rfl
      · exact .inr rfl
    · cases h
  · cases h
theorem keysOf_size : ∀ {ls : List Str} {acc : List Key}, (∀ k ∈ acc, k.2 = 2 ∨ k.2 = 3) → ∀ k ∈ keysOf acc ls, k.2 = 2 ∨ k.2 = 3
  | [], acc, h => h
  | l :: r, acc, h => by
    show ∀ k ∈ (match keyOf (wordsOf l) with | none => acc | some p => if p.1 ∈ acc.map (fun q : Key => q.1) then acc else keysOf (acc ++ [p]) r), _
    cases e : keyOf (wordsOf l) with
    | none => exact h
    | some p =>
      show ∀ k ∈ (if p.1 ∈ acc.map (fun q : Key => q.1) then acc else keysOf (acc ++ [p]) r), _
      split
      · exact h
      · refine keysOf_size (ls := r) fun k hk => ?_
        rcases List.mem_append.mp hk with hk | hk
        · exact h k hk
        · rw [List.mem_singleton.mp hk]
          exact keyOf_size e
theorem rulesOf_texts {ks : List Key} : ∀ {ls : List Str} {k : Nat} {acc rows : List RuleL} {e0 eds : List (List Nat)}, rulesOf ks k acc e0 ls = .inr (rows, eds) → rows.map (·.1) = acc.map (·.1) ++ ls
  | [], k, acc, rows, e0, eds, h => by
    cases h
    rw [List.append_nil]
  | l :: r, k, acc, rows, e0, eds, h => by
    have h' : (if acc.length = 4 ∨ litsIn ks l = [] ∨ keepR (litsIn ks l) e0 = [] then Sum.inl k else rulesOf ks (k + 1) (acc ++ [(l, litsIn ks l)]) (keepR (litsIn ks l) e0) r) = .inr (rows, eds) := h
    split at h'
    · cases h'
    · rw [rulesOf_texts h', List.map_append, List.append_assoc]
      rfl
theorem keep_of {p : Addr} {H H' : Hp} {o u : HO} {x : Addr} (k : Keep p H H') (hp : H p = some u) (h : H x = some o) (no : o ≠ u) : H' x = some o := k _ _ (ne_of h hp no) h
theorem sqT_keep {K : PySem.W.Frag} {p : Addr} {H H' : Hp} {C dx : Addr} {fs : List (Str × V)} {t : Addr} {xs : List V} (k : Keep p H H') (hp : H p = some (.ins C dx fs)) (h : SqT K H t xs) : SqT K H' t xs := by
  rcases h with (h | ⟨o, h⟩) | h
  · exact .inl (.inl (keep_of k hp h (by simp)))
  · exact .inl (.inr ⟨o, keep_of k hp h (by simp)⟩)
  · exact .inr h
theorem litsAt_keep {p : Addr} {H H' : Hp} {C dx : Addr} {fs : List (Str × V)} {t : Addr} {ls : List Lit} (k : Keep p H H') (hp : H p = some (.ins C dx fs)) (h : LitsAt H t ls) : LitsAt H' t ls := by
  obtain ⟨ts, e, q⟩ := h
  exact ⟨ts, keep_of k hp e (by simp), Paired.mapP q fun t l e => keep_of k hp e (by simp)⟩
theorem rulesAt_keep {p : Addr} {H H' : Hp} {C dx : Addr} {fs : List (Str × V)} {t : Addr} {rows : List RuleL} (k : Keep p H H') (hp : H p = some (.ins C dx fs)) (h : RulesAt H t rows) : RulesAt H' t rows := by
  obtain ⟨ts, e, q⟩ := h
  exact ⟨ts, keep_of k hp e (by simp), Paired.mapP q fun t r ⟨l, e1, e2⟩ => ⟨l, keep_of k hp e1 (by simp), litsAt_keep k hp e2⟩⟩
theorem rowsAt_keep {K : PySem.W.Frag} {p : Addr} {H H' : Hp} {C dx : Addr} {fs : List (Str × V)} {t : Addr} {rows : List (List Nat)} (k : Keep p H H') (hp : H p = some (.ins C dx fs)) (h : RowsAt K H t rows) : RowsAt K H' t rows := by
  obtain ⟨ts, e, q⟩ := h
  exact ⟨ts, keep_of k hp e (by simp), Paired.mapP q fun t r e => sqT_keep k hp e⟩
theorem ruleAt_same {CR p : Addr} {H H' : Hp} {t : Addr} {r : RuleL} (s : Same H H') (h : RuleAt CR p H t r) : RuleAt CR p H' t r := by
  obtain ⟨dx, l, e, q⟩ := h
  exact ⟨dx, l, s _ _ e, q.same s⟩
theorem ruleAt_upd {CR p : Addr} {H : Hp} {L t : Addr} {xs ys : List V} {r : RuleL} (hL : H L = some (.lst xs)) (h : RuleAt CR p H t r) : RuleAt CR p (upd H L (.lst ys)) t r := by
  obtain ⟨dx, l, e, q⟩ := h
  exact ⟨dx, l, by rw [upd_ne (ne_of e hL (by simp))]; exact e, litsAt_upd hL q⟩
abbrev nSInit : List Str := ["self", "text", "lines", "names", "sizes", "rows", "editions", "line", "lits"]
theorem scSInit : FnScope nSInit ["self", "text"] (defScope sSInit) := ⟨rfl, rfl, rfl, by decide +kernel, rfl, by decide +kernel, by decide +kernel⟩
theorem ok_sinit {f C CB CR : Addr} {fd : FuncData} (F : Fun K "__init__" "Sheet.__init__" sSInit f fd) (T : SheetT K mg C) (TR : RuleC P w K mg base CR) (GL : HasX P w K mg base "lines_of" 3 ["text"] (spLines K CB)) (GK : Has P w K mg base "read_keys" 3 ["lines"] (spRKeys K)) (GR : HasX P w K mg base "read_rules" 4 ["lines", "names", "sizes"] (spRules K CB)) :
    FnOk P w K mg base (L2.CX P w) 5 f fd ["self", "text"] (spSI K C CB CR) := by
  refine F.okX scSInit (fun vs H Q E h => ?_) (fun cdv A outer s H vs Q E hr h => ?_)
  · obtain ⟨p, dx, x, rfl, _⟩ := h
    rfl
  · obtain ⟨p, dx, x, rfl, hp, h⟩ := h
    obtain ⟨fI, fdI, MR, FR, bR⟩ := TR.init
    obtain ⟨tw, gw⟩ := T.word
    have r3 : Room 3 _ := hr.mono (by decide)
    have r2 : Room 2 _ := hr.mono (by decide)
    refine ⟨_, pss_cons (ps_set (i := 2) scSInit.nd rfl (.inl rfl) (pe_hasX GL (takes_of rfl rfl rfl rfl) r3 (pa_cons (pv 1) pa_nil)))
      (pss_cons (ps_asg (pe_has GK r3 (pa_cons (pv 2) pa_nil)) (pg_tup rfl (pgs_cons (pg_name (i := 3) scSInit.nd rfl (.inl rfl)) (pgs_cons (pg_name (i := 4) scSInit.nd rfl (.inl rfl)) pgs_nil))))
      (pss_cons (ps_asg (pe_hasX GR (takes_of rfl rfl rfl rfl) hr (pa_cons (pv 2) (pa_cons (pv 3) (pa_cons (pv 4) pa_nil)))) (pg_tup rfl (pgs_cons (pg_name (i := 5) scSInit.nd rfl (.inl rfl)) (pgs_cons (pg_name (i := 6) scSInit.nd rfl (.inl rfl)) pgs_nil))))
      (pss_cons (ps_fld (pv 0) (pv 1) rfl) (pss_cons (ps_fld (pv 0) (pv 3) rfl) (pss_cons (ps_fld (pv 0) (pv 4) rfl)
      (pss_cons (ps_fld (pv 0) (pe_callTy call_tuple_of (by rfl) T.tuple (by decide +kernel) (pa_cons (pv 6) pa_nil)) rfl)
      (pss_one (ps_fld (pv 0) (pe_callTy call_tuple_of (by rfl) T.tuple (by decide +kernel) (pa_cons (pe_lc (own := [("line", 7), ("lits", 8)]) (g := gTup K 2 (gCons (gName 7) (gCons (gName 8) gNil))) (tt := tYes) rfl scSInit.nd (pi_list (pv 5))
          (blkOk_by (N := nSInit) (sc := defScope sSInit) (by decide +kernel)) (fun _ _ _ _ _ => pg_tup rfl (pgs_cons (pg_name (i := 7) scSInit.nd rfl (Or.inl rfl)) (pgs_cons (pg_name (i := 8) scSInit.nd rfl (Or.inl rfl)) pgs_nil))) (fun _ _ _ _ _ => pts_nil)
          (fun _ _ _ _ _ => pe_make (dvs := []) (ds := []) MR FR r2 rfl TR.gR bR .nil pass0 (pa_cons (pv 0) (pa_cons (pe_slice (r := rSlS) sl_str (pv 7) (po_some (pe_callB call_len_str (by rfl) T.len PySem.boot_len (pa_cons (pe_glob (v := .str "rule ") (by rfl) gw ⟨_, rfl⟩) pa_nil))) po_none) (pa_cons (pv 8) pa_nil))))) pa_nil)) rfl)))))))), ?_⟩
    rcases h with ⟨ns, bad⟩ | ⟨z, rfl, hz, kB, kO⟩
    · exact ⟨_, rfl, x, rfl, .inr ⟨ns, bad⟩⟩
    have cnt : (linesOf z).length ≤ 1000000 := Nat.le_trans (split_count z nl (by decide +kernel)) (by omega)
    have lens : ∀ l ∈ linesOf z, l.length ≤ 1000000 := fun l hl => Nat.le_trans (split_mem hl).2 (Nat.le_trans hz (by decide))
    refine ⟨_, rfl, _, rfl, .inl ⟨z, rfl, Nat.le_trans hz (by decide), fun a H1 na s1 h1 => ?_⟩⟩
    refine ⟨_, rfl, a, linesOf z, rfl, SqL.of h1, lens, fun H2 p2 q1 q2 s2 hp2 hq1 hq2 => ?_⟩
    refine ⟨p2, _, rfl, SqT.of hp2, rfl, .ref q1, _, rfl, .ref q2, _, rfl, rfl, ?_⟩
    generalize hks : keysOf [] ((linesOf z).take 3) = ks at hq1 hq2
    have k3 : ks.length ≤ 3 := by
      have := keysOf_len (ls := (linesOf z).take 3) (acc := [])
      rw [hks, List.length_take] at this
      simp only [List.length_nil] at this
      omega
    have kz : ∀ k ∈ ks, k.2 = 2 ∨ k.2 = 3 := by
      rw [← hks]
      exact keysOf_size fun k hk => nomatch hk
    have eS : readS z = match rulesOf ks ks.length [] (worthsOf (ks.map (·.2))) ((linesOf z).drop ks.length) with | .inl n => .inl n | .inr (rows, eds) => .inr (ks, rows, eds) := by
      unfold readS
      rw [hks]
    refine ⟨_, rfl, _, rfl, _, rfl, a, q1, q2, linesOf z, ks, rfl, SqL.of (s2 _ _ h1), cnt, lens, hq1, SqT.of hq2, k3, fun k hk => by have := kz k hk; omega, fun n e => (kB n (by rw [eS, e])).same (s1.trans s2), fun rows eds eqR p3 R E1 H3 s3 hp3 hR hE => ?_⟩
    refine ⟨p3, _, rfl, SqT.of hp3, rfl, .ref R, _, rfl, .ref E1, _, rfl, rfl, ?_⟩
    have s03 := (s1.trans s2).trans s3
    have hpp := s03 _ _ hp
    have l1 := putF_len (f := "_text") (y := .str z) []
    have l2 := putF_len (f := "_names") (y := .ref q1) (putF "_text" (.str z) [])
    have l3 := putF_len (f := "_sizes") (y := .ref q2) (putF "_names" (.ref q1) (putF "_text" (.str z) []))
    refine ⟨_, rfl, _, rfl, p, C, dx, [], rfl, hpp, T.cl, T.n1, by decide, ?_⟩
    refine ⟨_, rfl, _, rfl, p, C, dx, _, rfl, upd_same, T.cl, T.n2, Nat.lt_of_le_of_lt l1 (by decide), ?_⟩
    refine ⟨_, rfl, _, rfl, p, C, dx, _, rfl, upd_same, T.cl, T.n3, Nat.lt_of_le_of_lt l2 (Nat.lt_of_le_of_lt (Nat.succ_le_succ l1) (by decide)), ?_⟩
    rw [upd_upd, upd_upd]
    have k6 : Keep p H3 (upd H3 p (.ins C dx (putF "_sizes" (.ref q2) (putF "_names" (.ref q1) (putF "_text" (.str z) []))))) := Keep.put
    have hp6 : (upd H3 p (.ins C dx (putF "_sizes" (.ref q2) (putF "_names" (.ref q1) (putF "_text" (.str z) []))))) p = some (.ins C dx (putF "_sizes" (.ref q2) (putF "_names" (.ref q1) (putF "_text" (.str z) [])))) := upd_same
    generalize (upd H3 p (.ins C dx (putF "_sizes" (.ref q2) (putF "_names" (.ref q1) (putF "_text" (.str z) []))))) = H6 at k6 hp6
    obtain ⟨te, hE6, prE⟩ := rowsAt_keep k6 hpp hE
    refine ⟨_, rfl, E1, _, rfl, .inl ⟨SqL.of hE6, fun e nE => ?_⟩⟩
    have s7 := same_upd (o := .tup (te.map V.ref)) nE
    have hp7 := s7 _ _ hp6
    have ll3 : (putF "_sizes" (.ref q2) (putF "_names" (.ref q1) (putF "_text" (.str z) []))).length ≤ 3 := Nat.le_trans l3 (Nat.succ_le_succ (Nat.le_trans l2 (Nat.succ_le_succ l1)))
    have l4 := putF_len (f := "_editions") (y := .ref e) (putF "_sizes" (.ref q2) (putF "_names" (.ref q1) (putF "_text" (.str z) [])))
    refine ⟨_, rfl, p, C, dx, _, rfl, hp7, T.cl, T.n4, Nat.lt_of_le_of_lt ll3 (by decide), ?_⟩
    have k38 : Keep p H3 (upd (upd H6 e (.tup (te.map V.ref))) p (.ins C dx (putF "_editions" (.ref e) (putF "_sizes" (.ref q2) (putF "_names" (.ref q1) (putF "_text" (.str z) [])))))) := (k6.trans (K03.Same.keep s7)).trans Keep.put
    have k78 : Keep p (upd H6 e (.tup (te.map V.ref))) (upd (upd H6 e (.tup (te.map V.ref))) p (.ins C dx (putF "_editions" (.ref e) (putF "_sizes" (.ref q2) (putF "_names" (.ref q1) (putF "_text" (.str z) [])))))) := Keep.put
    have hp8 : (upd (upd H6 e (.tup (te.map V.ref))) p (.ins C dx (putF "_editions" (.ref e) (putF "_sizes" (.ref q2) (putF "_names" (.ref q1) (putF "_text" (.str z) [])))))) p = some (.ins C dx (putF "_editions" (.ref e) (putF "_sizes" (.ref q2) (putF "_names" (.ref q1) (putF "_text" (.str z) []))))) := upd_same
    have hE8 : EdsAt K (upd (upd H6 e (.tup (te.map V.ref))) p (.ins C dx (putF "_editions" (.ref e) (putF "_sizes" (.ref q2) (putF "_names" (.ref q1) (putF "_text" (.str z) [])))))) e eds :=
      ⟨te, keep_of k78 hp7 upd_same (by simp), Paired.mapP prE fun t r z => sqT_keep k78 hp7 (sqT_same s7 z)⟩
    generalize (upd (upd H6 e (.tup (te.map V.ref))) p (.ins C dx (putF "_editions" (.ref e) (putF "_sizes" (.ref q2) (putF "_names" (.ref q1) (putF "_text" (.str z) [])))))) = H8 at k38 k78 hp8 hE8
    obtain ⟨tr, hR8, prR⟩ := rulesAt_keep k38 hpp hR
    have ltr : tr.length = rows.length := Paired.length prR
    have etx := rulesOf_texts eqR
    have l5 : ("rule " : Str).length = 5 := by decide +kernel
    dsimp only [tSeq, sFld, tCB, tCons, List.map]
    refine ⟨_, rfl, R, rfl, ⟨_, SqL.of hR8⟩, fun D nD => ?_⟩
    refine lc_list (K := K) (xs := tr.map V.ref) (fun i H' => Same H8 H' ∧ ∃ ts' : List Addr, H' D = some (.lst (ts'.map V.ref)) ∧ Paired (RuleAt CR p H') ts' (rows.take i) ∧ ts'.length = i) ⟨same_upd nD, [], upd_same, .nil, rfl⟩ (fun i H' _ q => SqL.of (q.1 _ _ hR8)) ?_ ?_
    · rintro i x H' hx ⟨s4, ts', hD, pr', lt'⟩
      rw [List.getElem?_map] at hx
      obtain ⟨t, ht, rfl⟩ := Option.map_eq_some_iff.mp hx
      obtain ⟨r, hr1, l, hr2, hr3⟩ := paired_get prR ht
      have ilt : i < tr.length := (List.getElem?_eq_some_iff.mp ht).1
      have rl : r.1.length ≤ 1000000 := by
        have hm : r.1 ∈ rows.map (fun q : RuleL => q.1) := List.mem_map_of_mem (List.mem_of_getElem? hr1)
        rw [etx] at hm
        exact lens _ (List.mem_of_mem_drop hm)
      have rcnt : rows.length ≤ 1000000 := by
        have := congrArg List.length etx
        rw [List.length_map] at this
        rw [this]
        simp only [List.map_nil, List.nil_append, List.length_drop]
        omega
      refine ⟨t, _, rfl, SqT.of (s4 _ _ hr2), rfl, .str r.1, _, rfl, .ref l, _, rfl, rfl, ?_⟩
      refine ⟨rfl, _, rfl, _, rfl, "rule ", rfl, by rw [l5]; decide, _, rfl, r.1, rfl, Nat.le_trans rl (by decide), _, rfl, fun x dxx nx ndx ne => ⟨x, dxx, _, _, _, rfl, upd_same, rfl, ?_⟩⟩
      rw [upd_upd]
      have sx : Same H' (upd (upd H' dxx (.own x)) x (.ins CR dxx (rf (.ref p) (.str (cutS r.1 (some (("rule " : Str).length : Int)) none)) (.ref l)))) := (same_upd ndx).trans (same_upd (by rw [upd_ne ne.symm]; exact nx))
      have hDx := sx _ _ hD
      refine ⟨_, hDx, by rw [List.length_map]; exact Nat.lt_of_le_of_lt (show ts'.length ≤ 1000000 by omega) (by decide), same_new (s4.trans sx) nD, ts' ++ [x], by rw [upd_same, List.map_append]; rfl, ?_, by rw [List.length_append, lt']; rfl⟩
      rw [take_one hr1]
      refine paired_snoc (Paired.mapP pr' fun t r z => ruleAt_upd hDx (ruleAt_same sx z)) (ruleAt_upd hDx ⟨dxx, l, ?_, (hr3.same s4).same sx⟩)
      rw [upd_same, l5]
      rfl
    · rintro H' ⟨s4, ts', hD, pr', lt'⟩
      rw [List.length_map, ltr, List.take_length] at pr'
      refine ⟨D, _, rfl, .inl ⟨SqL.of hD, fun r nr => ?_⟩⟩
      have s9 := s4.trans (same_upd (o := .tup (ts'.map V.ref)) nr)
      have hp9 := s9 _ _ hp8
      have ll4 : (putF "_editions" (.ref e) (putF "_sizes" (.ref q2) (putF "_names" (.ref q1) (putF "_text" (.str z) [])))).length ≤ 4 := Nat.le_trans l4 (Nat.succ_le_succ ll3)
      refine ⟨_, rfl, p, C, dx, _, rfl, hp9, T.cl, T.n5, Nat.lt_of_le_of_lt ll4 (by decide), ?_⟩
      have k9 : Keep p (upd H' r (.tup (ts'.map V.ref))) (upd (upd H' r (.tup (ts'.map V.ref))) p (.ins C dx (sf z q1 q2 e r))) := Keep.put
      have kall : Keep p H (upd (upd H' r (.tup (ts'.map V.ref))) p (.ins C dx (sf z q1 q2 e r))) := (((K03.Same.keep s03).trans k38).trans (K03.Same.keep s9)).trans k9
      have k39 := (k38.trans (K03.Same.keep s9)).trans k9
      have k89 := (K03.Same.keep (j := p) s9).trans k9
      refine kO ks rows eds (by rw [eS, eqR]) _ q1 q2 e r kall upd_same ?_ ?_ ?_ ?_
      · obtain ⟨o, h1, h2⟩ := hq1.same s3
        exact ⟨o, keep_of k39 hpp h1 (by simp), h2⟩
      · exact keep_of k39 hpp (s3 _ _ hq2) (by simp)
      · obtain ⟨te2, h1, h2⟩ := hE8
        exact ⟨te2, keep_of k89 hp8 h1 (by simp), Paired.mapP h2 fun t r z => sqT_keep k89 hp8 z⟩
      · refine ⟨ts', keep_of k9 hp9 upd_same (by simp), Paired.mapP pr' fun t r z => ?_⟩
        obtain ⟨dxx, l, h1, h2⟩ := ruleAt_same (same_upd (o := .tup (ts'.map V.ref)) nr) z
        refine ⟨dxx, l, ?_, litsAt_keep k9 hp9 h2⟩
        refine keep_of k9 hp9 h1 fun q => ?_
        cases q
end
end K03

namespace K03
open L2 PySem PySem.Spec PyProof.Rows
section
variable {base : Heap} {P : Program} {w : World} {K : PySem.W.Frag} {mg : Str → Option Value}
/-! ### properties -/
theorem scSelf (st : Stmt) (h : defScope st = defScope sSText) : FnScope ["self"] ["self"] (defScope st) := by
  rw [h]
  exact ⟨rfl, rfl, rfl, by decide +kernel, rfl, by decide +kernel, by decide +kernel⟩
theorem ok_get {x qual fl : Str} {st : Stmt} {f C : Addr} {fd : FuncData} {p1 p2 p3 : Pos} (F : Fun K x qual st f fd) (hs : defScope st = defScope sSText) (hb : defBody st = [.Return (some (.Attribute (.Name "self" p1) fl p2)) p3]) (c : Cls K C) (n : NoAttr K C fl) :
    FnOk P w K mg base CX0 1 f fd ["self"] (getSp C fl) := by
  (obtain ⟨oc, od, kV, doc, pm, an, cdv, ct, osl, rfl, lk, hcd⟩ := F.ex)
  exact fn_getter lk hcd (scSelf st hs) rfl hb c n
/-- a property of a class of the package -/
def HasP (P : Program) (w : World) (K : PySem.W.Frag) (mg : Str → Option Value) (base : Heap) (C : Addr) (nm fl : Str) : Prop :=
  ∃ (p g : Addr) (fd : FuncData), PropOf K C nm p g ∧ FnOk P w K mg base CX0 1 g fd ["self"] (getSp C fl) ∧ Binds K fd ["self"] []
def tGet (C : Addr) (fl : Str) (te : TE) : TE := tProp C (getSp C fl) [] E0 te
theorem pe_get {X : Cx} {C : Addr} {nm fl : Str} {e : Expr} {te : TE} {pos : Pos} (h : HasP X.prog X.w X.K X.mg X.base C nm fl) (c : Cls X.K C) (hr : Room 2 X.A) (he : PE X e te) (hab : attributeBase e nm X.env (eval e X.env) = eval e X.env := by rfl) :
    PE X (.Attribute e nm pos) (tGet C fl te) := by
  obtain ⟨p, g, fd, hp, F, hb⟩ := h
  exact pe_prop he c hp F hr hb .nil pass0 hab
/-! ### == of sheets -/
def spSEq (K : PySem.W.Frag) (C : Addr) : Sp := fun vs H Q _ => ∃ (a dx : Addr) (fs : List (Str × V)) (z : Str) (y : V), vs = [.ref a, y] ∧ H a = some (.ins C dx fs) ∧ fs.lookup ("_text" : Str) = some (.str z) ∧
  ((∃ t, TyX K H y t ∧ PySem.W.kitOne K t (.ref C) = some false ∧ ∀ H', Same H H' → Q (.bl false) H') ∨
   (∃ (b dy : Addr) (gs : List (Str × V)) (u : Str) (t : Value), y = .ref b ∧ H b = some (.ins C dy gs) ∧ gs.lookup ("_text" : Str) = some (.str u) ∧ TyX K H y t ∧ PySem.W.kitOne K t (.ref C) = some true ∧ ∀ H', Same H H' → Q (.bl (decide (z = u))) H'))
theorem scSEq : FnScope ["self", "other"] ["self", "other"] (defScope sSEq) := ⟨rfl, rfl, rfl, by decide +kernel, rfl, by decide +kernel, by decide +kernel⟩
theorem ok_seq {f C : Addr} {fd : FuncData} (F : Fun K "__eq__" "Sheet.__eq__" sSEq f fd) (T : SheetT K mg C) : FnOk P w K mg base CX0 1 f fd ["self", "other"] (spSEq K C) := by
  refine F.ok scSEq (fun vs H Q E h => ?_) (fun cdv A outer s H vs Q E hr h => ?_)
  · obtain ⟨a, dx, fs, z, y, rfl, _⟩ := h
    rfl
  · obtain ⟨a, dx, fs, z, y, rfl, ha, hl, h⟩ := h
    refine ⟨_, pss_one (ps_ret (pe_and (pe_callB call_isi (by rfl) T.isinst (by decide +kernel) (pa_cons (pv 1) (pa_cons (pe_glob (v := .ref C) (by rfl) T.gS rfl) pa_nil)))
      (pe_one (pe_cmpR op_eq (pe_fld (pv 0) rfl) (pe_fld (pv 1) rfl) (nomark _))))), ?_⟩
    rcases h with ⟨t, ty, kt, k⟩ | ⟨b, dy, gs, u, t, rfl, hb, hl2, ty, kt, k⟩
    · exact ⟨_, rfl, y, .ref C, t, .ref C, false, rfl, .own C, ty, kt, _, rfl, k H (Same.refl H)⟩
    · refine ⟨_, rfl, .ref b, .ref C, t, .ref C, true, rfl, .own C, ty, kt, _, rfl, _, rfl, a, C, dx, fs, .str z, rfl, ha, T.cl, T.n1, hl, _, rfl, b, C, dy, gs, .str u, rfl, hb, T.cl, T.n1, hl2, rfl, ?_⟩
      have e : decide (V.str z = V.str u) = decide (z = u) := decide_eq_decide.mpr ⟨V.str.inj, congrArg V.str⟩
      rw [e]
      exact k H (Same.refl H)
end
/-- made == y, made a Sheet -/
def rOwnEq (K : PySem.W.Frag) (C : Addr) : R2 := fun x y H Q => ∃ (a dx : Addr) (fs : List (Str × V)) (t : Value), x = .ref a ∧ H a = some (.ins C dx fs) ∧ TyX K H y t ∧ PySem.W.notFirst K C t = true ∧ spSEq K C [x, y] H Q E0
theorem op_ownEq {X : Cx} {C g : Addr} {fd : FuncData} (hs : PySem.W.findIn X.K (.ref C) "__eq__" = some (some (.ref g))) (hf : PySem.W.isFn X.K (.ref g) = true) (F : FnOk X.prog X.w X.K X.mg X.base CX0 1 g fd ["self", "other"] (spSEq X.K C)) (hb : Binds X.K fd ["self", "other"] []) (hr : Room 1 X.A) :
    OpR X (compareOp .Eq) (rOwnEq X.K C) := by
  (intro pins s σ H x y v u Q I rx ry h)
  obtain ⟨a, dx, fs, t, rfl, ha, ty, hn, q⟩ := h
  (cases (show v = Value.ref a from rx))
  (obtain ⟨mA, J, _⟩ := ins_get I.hok ha)
  obtain ⟨od, J, _⟩ := J.look
  obtain ⟨m, hF⟩ := I.fr
  obtain ⟨Pz, Z, pz, _⟩ := kit_of I ry ty
  show wpAny (model X.prog X.w) X.A (richCompare .Eq (.ref a) u) (EP X pins σ Q) X.xe s
  refine PySem.W.cmp_K (op := .Eq) (tb := t) hr.units0 hF I.ok.mod.kin J (Z.ty _ _ I.kIn pz) hn hs hf ?_
  have rv : Vals [V.ref a, y] [Value.ref a, u] := .cons rfl (.cons ry .nil)
  refine wpAny_mono (run_fn (ds := []) (dvs := []) F hr hb .nil pass0 I rv (show spSEq X.K C ([V.ref a, y] ++ []) H (fun v H' => (∃ b, v = .bl b) ∧ Q v H') E0 from ?_)) (fun w s' z => ?_) fun _ _ x => x
  · obtain ⟨a', dx', fs', z, y', e, ha', hl, h⟩ := q
    refine ⟨a', dx', fs', z, y', e, ha', hl, ?_⟩
    rcases h with ⟨t', ty', kt, k⟩ | ⟨b, dy, gs, u', t', e2, hb', hl2, ty', kt, k⟩
    · exact .inl ⟨t', ty', kt, fun H' s' => ⟨⟨_, rfl⟩, k H' s'⟩⟩
    · exact .inr ⟨b, dy, gs, u', t', e2, hb', hl2, ty', kt, fun H' s' => ⟨⟨_, rfl⟩, k H' s'⟩⟩
  · obtain ⟨v, H', I', rw', ⟨b, eb⟩, q'⟩ := z
    subst eb
    obtain rfl : w = Value.bool b := rw'
    exact ⟨.bl b, H', I', rfl, q'⟩
end K03

namespace K03
open L2 PySem PySem.Spec PyProof.Rows
section
variable {X : Cx}
/-- a tuple, no dict hanging on it -/
def tTupD (t : TA) : TE := fun σ H Q => t σ H fun xs H1 => xs.length ≤ sizeLine ∧ ∀ (p : Addr) (o : Obj), H1 p = none → o.dict = none → Q (.ref p) (upd H1 p (.frz o (.tup xs)))
theorem pe_tupD {es : List Expr} {x1 : Nat} {pos : Pos} {t : TA} (h : PA X es t) : PE X (.Tuple es x1 pos) (tTupD t) := by
  refine ⟨fun pins s σ H Q I hq => ?_⟩
  refine wpAny_Tuple_spliced (thn (h.run pos pins s σ H _ I hq) fun us s1 ⟨xs, H1, I1, r, z, q⟩ => ⟨by rw [← r.length]; exact z, ?_⟩)
  have hf : H1 s1.heap.objs.size = none := I1.hok.fresh (Nat.le_refl _)
  refine ⟨.ref s1.heap.objs.size, upd H1 s1.heap.objs.size (.frz { cls := .type "tuple", data := .seq us.toArray } (.tup xs)), I1.laid (t' := s1.toks) (fun b u e => Heap.get?_push_of_some _ e) (Nat.le_refl _) ?_, rfl, q _ _ hf rfl⟩
  exact ⟨Heap.get?_push_size _ rfl, z, us, r, PyProof.Rows.IsTup.new _ _⟩
theorem pairs_vv {pins : List (Addr × Obj)} {σ : L2.St} {H : Hp} {s : Shared} (I : Inv X pins σ H s) : ∀ {ps : List Addr} {kvs : List (L2.Key × V)}, Paired (fun p (kv : L2.Key × V) => SqT X.K H p [kV kv.1, kv.2]) ps kvs →
    ∃ (prs : List (L2.Key × Value)) (vvs : List (Value × Value)), KV kvs prs ∧ prs.length = ps.length ∧ vvs.length = ps.length ∧ ∀ (j : Nat) (k v : Value), vvs[j]? = some (k, v) → ∃ (b : Addr) (q : L2.Key), ps[j]? = some b ∧ prs[j]? = some (q, v) ∧ IsTup s.heap b #[k, v] ∧ keyIs q k = true
  | _, _, .nil => ⟨[], [], .nil, rfl, rfl, fun j k v e => by simp at e⟩
  | _, _, .cons (a := p) (b := kv) h t => by
    obtain ⟨prs, vvs, r, hl, hl2, hp⟩ := pairs_vv I t
    obtain ⟨its, rv, ht, _⟩ := I.tuple h
    obtain ⟨u, y, ei, ru, ry⟩ := vals2 rv
    subst ei
    refine ⟨(kv.1, y) :: prs, (u, y) :: vvs, .cons ⟨rfl, ry⟩ r, by rw [List.length_cons, List.length_cons, hl], by rw [List.length_cons, List.length_cons, hl2], fun j k v e => ?_⟩
    cases j with
    | zero =>
      have e' : (u, y) = (k, v) := Option.some.inj e
      cases e'
      exact ⟨p, kv.1, rfl, rfl, ht, kV_is (P := X.prog) (w := X.w) ru⟩
    | succ j =>
      obtain ⟨b, q, e1, e2, e3⟩ := hp j k v (by simpa using e)
      exact ⟨b, q, by simpa using e1, by simpa using e2, e3⟩
/-- dict(t) of a tuple of pairs -/
def rDictTP (K : PySem.W.Frag) : List V → Hp → VK → Prop := fun xs H Q => ∃ (a : Addr) (ps : List Addr) (kvs : List (L2.Key × V)), xs = [.ref a] ∧ TupD H a (ps.map V.ref) ∧ Paired (fun p (kv : L2.Key × V) => SqT K H p [kV kv.1, kv.2]) ps kvs ∧
    ∀ p, H p = none → Q (.ref p) (upd H p (.dK (mergeK [] kvs)))
theorem call_dictTP (hcalm : X.calm = true) : CallR X (.type "dict") (rDictTP X.K) := by
  intro pins s σ H xs us Q I r q
  obtain ⟨a, ps, kvs, rfl, hq, hp, q⟩ := q
  obtain ⟨u, rfl, rx⟩ := vals1 r
  cases rx
  obtain ⟨o, e, od⟩ := hq
  have ho := (I.hok a _ e).1
  obtain ⟨its, rv, ⟨o2, h2, c2, n, d2⟩, hz⟩ := I.tuple (X := X) (show SqT X.K H a (ps.map V.ref) from .inl (.inr ⟨o, e⟩))
  obtain rfl : o = o2 := Option.some.inj (ho.symm.trans h2)
  have ei := refs_at rv
  subst ei
  rw [List.length_map] at hz
  obtain ⟨prs, vvs, rel, hl, hl2, hpr⟩ := pairs_vv I hp
  have items : PairItems s.heap (ps.map Value.ref).toArray (fun j => ps.getD j 0) vvs := by
    refine ⟨by simp [hl2], fun j k v hj => ?_⟩
    obtain ⟨b, q, e1, e2, ⟨o3, h3, c3, n3, d3⟩, _⟩ := hpr j k v hj
    have eg : ps.getD j 0 = b := by rw [List.getD_eq_getElem?_getD, e1]; rfl
    refine ⟨by simp [e1, eg], ?_⟩
    show PairAt s.heap (ps.getD j 0) k v
    rw [eg]
    exact .inl ⟨o3, h3, c3, n3, d3⟩
  refine PySem.call_dict_pairs (knd := mixKind X.prog X.w) (kvs := prs) (PairArg.tuple a (ps.map Value.ref).toArray (fun j => ps.getD j 0) vvs) (I.ok.hd hcalm) ⟨⟨o, n, ho, c2, od, d2⟩, items⟩ ⟨by rw [hl, hl2], fun i key v hr => ?_⟩ (by rw [hl2]; exact hz) fun h' tk hd' k => ?_
  · obtain ⟨b, q, e1, e2, e3, e4⟩ := hpr i key v hr
    exact ⟨q, e2, e4⟩
  · have hm : (s.heap.objs.size == sysModules) = false := beq_eq_false_iff_ne.mpr (Nat.ne_of_gt I.big)
    have hlen : (mergeK [] kvs).length ≤ sizeLine := by
      refine Nat.le_trans (length_mergeK kvs []) ?_
      rw [List.length_nil, Nat.zero_add, rel.length, hl]
      exact hz
    exact ⟨.ref s.heap.objs.size, upd H s.heap.objs.size (.dK (mergeK [] kvs)), I.laid (t' := tk) (fun b o e => k b o (fun z => nomatch z) e) (Nat.le_refl _) (show ObjOk X.prog X.w _ _ _ (.dK (mergeK [] kvs)) from ⟨hlen, hm, merged [] prs, KV.merge rel .nil, hd'⟩), rfl, q _ (I.hok.fresh (Nat.le_refl _))⟩
end
end K03

namespace K03
open PySem L2
abbrev sLRows : Stmt := top 54
abbrev sLSo : Stmt := top 55
structure Txt6 (K : PySem.W.Frag) (mg : Str → Option Value) : Prop extends Txt5 K mg where
  list : mg "list" = none
  any : mg "any" = none
  zip : mg "zip" = none
section
variable {base : Heap} {P : Program} {w : World} {K : PySem.W.Frag} {mg : Str → Option Value}
/-! ### the law's own rows -/
def spLRows (K : PySem.W.Frag) : Sp := fun vs H Q _ => ∃ (p : Addr) (ss : List Nat), vs = [.ref p] ∧ SqL K H p (rowV ss) ∧ ss.length ≤ 3 ∧ (∀ s ∈ ss, s ≤ 4) ∧ ∀ H' q, Same H H' → H q = none → RowsAt K H' q (worthsOf ss) → Q (.ref q) H'
abbrev nLRows : List Str := ["_law_sizes", "_law_found", "_law_size", "_law_longer", "_law_row", "_law_worth"]
theorem scLRows : FnScope nLRows ["_law_sizes"] (defScope sLRows) := ⟨rfl, rfl, rfl, by decide +kernel, rfl, by decide +kernel, by decide +kernel⟩
theorem rowV_snoc (r : List Nat) (j : Nat) : rowV r ++ [V.int (0 + (j : Int))] = rowV (r ++ [j]) := by
  unfold rowV
  rw [List.map_append, Int.zero_add]
  rfl
theorem paired_app {α β : Type} {R : α → β → Prop} : ∀ {xs xs' : List α} {ys ys' : List β}, Paired R xs ys → Paired R xs' ys' → Paired R (xs ++ xs') (ys ++ ys')
  | _, _, _, _, .nil, h => h
  | _, _, _, _, .cons a b, h => .cons a (paired_app b h)
theorem ok_lrows {f : Addr} {fd : FuncData} (F : Fun K "_law_rows" "_law_rows" sLRows f fd) (T : Txt6 K mg) : FnOk P w K mg base CX0 1 f fd ["_law_sizes"] (spLRows K) := by
  refine F.ok scLRows (fun vs H Q E h => ?_) (fun cdv A outer s H vs Q E hr h => ?_)
  · obtain ⟨p, ss, rfl, _⟩ := h
    rfl
  · obtain ⟨p, ss, rfl, hp, hl, h3, k⟩ := h
    refine ⟨_, pss_cons (ps_set (i := 1) scLRows.nd rfl (.inl rfl) (pe_lst (pa_cons (pe_tup pa_nil) pa_nil)))
      (pss_cons (ps_for PassesOwn.never rfl (pi_list (pv 0)) (pg_name (i := 2) scLRows.nd rfl (.inl rfl))
        (pss_cons (ps_set (i := 3) scLRows.nd rfl (.inl rfl) (pe_lst pa_nil))
        (pss_cons (ps_for PassesOwn.never rfl (pi_list (pe_callTy call_list_of (by rfl) T.list (by decide +kernel) (pa_cons (pv 1) pa_nil))) (pg_name (i := 4) scLRows.nd rfl (.inr rfl))
          (pss_one (ps_expr (pe_bm PySem.F.plainAttrs_list PySem.F.slot_list_extend PySem.F.type_list_extend mt_extend (pv 3) (pa_cons
            (pe_lc (own := [("_law_worth", 5)]) (g := gName 5) (tt := tYes) rfl scLRows.nd (pi_range1 (by rfl) T.range (pa_cons (pv 2) pa_nil))
              (blkOk_by (N := nLRows) (sc := defScope sLRows) (by decide +kernel)) (fun _ _ _ _ _ => pg_name (i := 5) scLRows.nd rfl (Or.inl rfl)) (fun _ _ _ _ _ => pts_nil)
              (fun _ _ _ _ _ => pe_op (r := rCatA K) op_catA (pv 4) (pe_tup (pa_cons (pv 5) pa_nil)))) pa_nil)))))
        (pss_one (ps_set (i := 1) scLRows.nd rfl (.inl rfl) (pe_callTy call_list_of (by rfl) T.list (by decide +kernel) (pa_cons (pv 3) pa_nil)))))))
      (pss_one (ps_ret (pv 1)))), ?_⟩
    refine ⟨Nat.zero_le _, fun e ne => ⟨(by show 1 ≤ sizeLine; decide), fun R nR => ?_⟩⟩
    have s0 := (same_upd (o := .tup []) ne).trans (same_upd (o := .lst [V.ref e]) nR)
    refine ⟨_, rfl, p, rfl, ⟨_, s0.seq hp⟩, for_it (walk_list (xs := rowV ss)) (fun i σ H1 => ∃ (R : Addr) (v2 v3 v4 : Option V), σ = [some (.ref p), some (.ref R), v2, v3, v4, none] ∧ Same H H1 ∧ RowsAt K H1 R (worthsOf (ss.take i)) ∧ H R = none)
      ⟨R, none, none, none, rfl, s0, ⟨[e], upd_same, .cons (SqT.of (get_new upd_same nR)) .nil⟩, (same_upd ne).free nR⟩ (fun i σ H1 _ ⟨_, _, _, _, _, s1, _⟩ => s1.seq hp) ?_ ?_⟩
    · rintro i x σ H1 H2 hi ⟨R1, v2, v3, v4, rfl, s1, hR, fR⟩ ⟨rfl, hx⟩
      unfold rowV at hx
      rw [List.getElem?_map] at hx
      obtain ⟨sz, hsz, rfl⟩ := Option.map_eq_some_iff.mp hx
      have sz3 := h3 sz (List.mem_of_getElem? hsz)
      have wsm := worths_small4 hl h3 i
      have rl : ∀ r ∈ worthsOf (ss.take i), r.length ≤ 3 := fun r hr => by
        rw [worths_row hr, List.length_take]
        omega
      obtain ⟨ts, hR1, pr⟩ := hR
      generalize hrows : worthsOf (ss.take i) = rows at pr wsm rl
      have lts : ts.length = rows.length := Paired.length pr
      refine ⟨Nat.zero_le _, fun G nG => ?_⟩
      have sG := same_upd (o := .lst []) nG
      refine ⟨_, rfl, R1, _, rfl, .inl (SqL.of (sG _ _ hR1)), fun C nC => ?_⟩
      have sC := sG.trans (same_upd (o := .lst (ts.map V.ref)) nC)
      have nCG : C ≠ G := fun e => by
        rw [e, upd_same] at nC
        cases nC
      refine ⟨C, rfl, ⟨_, SqL.of upd_same⟩, for_list (K := K) (a := C) (xs := ts.map V.ref) (fun j σ H' => ∃ v4 : Option V, σ = [some (.ref p), some (.ref R1), some (.int (sz : Int)), some (.ref G), v4, none] ∧ Same H2 H' ∧ H' C = some (.lst (ts.map V.ref)) ∧ RowsAt K H' G (stepR (rows.take j) sz))
        ⟨_, rfl, sC, upd_same, ⟨[], by rw [upd_ne nCG.symm, upd_same]; rfl, .nil⟩⟩ (fun j σ H' _ ⟨_, _, _, q, _⟩ => SqL.of q) ?_ ?_⟩
      · rintro j x' σ H' hx' ⟨v4', rfl, s2, hC, hG⟩
        rw [List.getElem?_map] at hx'
        obtain ⟨t, ht, rfl⟩ := Option.map_eq_some_iff.mp hx'
        obtain ⟨r, hr1, hr2⟩ := paired_get pr ht
        have rl3 := rl r (List.mem_of_getElem? hr1)
        have jlt : j < rows.length := (List.getElem?_eq_some_iff.mp hr1).1
        obtain ⟨tg, hG1, prG⟩ := hG
        refine ⟨_, rfl, .inl ⟨rfl, _, SqL.of hG1⟩, _, rfl, _, rfl, by omega, by omega, fun D nD => ?_⟩
        refine lc_range (lo := 0) (n := ((sz : Nat) : Int).toNat) (fun m H3 => Same H' H3 ∧ ∃ ts', H3 D = some (.lst (ts'.map V.ref)) ∧ Paired (fun (t : Addr) (r : List Nat) => SqT K H3 t (rowV r)) ts' ((ext sz r).take m) ∧ ts'.length = m) ⟨same_upd nD, [], upd_same, .nil, rfl⟩ ?_ ?_
        · rintro m H3 hm ⟨s3, ts', hD, pr', lm⟩
          have hm' : m < sz := by omega
          refine ⟨rfl, _, rfl, _, rfl, (by show 1 ≤ sizeLine; decide), fun b nb => ?_⟩
          have sb := same_upd (o := .tup [V.int (0 + (m : Int))]) nb
          have fin : ∀ (q : Addr) (H4 : Hp), Same H3 H4 → SqT K H4 q (rowV (r ++ [m])) → ∃ acc, H4 D = some (.lst acc) ∧ acc.length < sizeLine ∧ (Same H' (upd H4 D (.lst (acc ++ [V.ref q]))) ∧ ∃ ts', (upd H4 D (.lst (acc ++ [V.ref q]))) D = some (.lst (ts'.map V.ref)) ∧ Paired (fun (t : Addr) (r : List Nat) => SqT K (upd H4 D (.lst (acc ++ [V.ref q]))) t (rowV r)) ts' ((ext sz r).take (m + 1)) ∧ ts'.length = m + 1) := fun q H4 s4 hq => by
            have hD4 := s4 _ _ hD
            refine ⟨_, hD4, by rw [List.length_map]; exact small1000 (by omega), same_new (s3.trans s4) nD, ts' ++ [q], by rw [upd_same, List.map_append]; rfl, ?_, by rw [List.length_append, lm]; rfl⟩
            rw [ext_at hm']
            exact paired_snoc (Paired.mapP pr' fun t l e => sqT_upd hD4 (sqT_same s4 e)) (sqT_upd hD4 hq)
          refine ⟨t, b, rowV r, _, rfl, rfl, sqT_same ((s2.trans s3).trans sb) hr2, SqT.of upd_same, ?_, fun e => ?_, (fun _ e => nomatch e), fun _ _ q nq => ?_⟩
          · unfold rowV
            rw [List.length_map]
            exact Nat.le_trans (show r.length + 1 ≤ 4 by omega) (by decide)
          · refine fin b _ sb (SqT.of ?_)
            rw [upd_same, ← rowV_snoc, e]
            rfl
          · refine fin q _ (sb.trans (same_upd nq)) (SqT.of ?_)
            rw [upd_same, rowV_snoc]
        · rintro H3 ⟨s3, ts', hD, pr', lm⟩
          have e2 : (ext sz r).take ((sz : Nat) : Int).toNat = ext sz r := List.take_of_length_le (by rw [ext_len]; omega)
          rw [e2] at pr'
          have hG3 := s3 _ _ hG1
          have nGC : G ≠ C := nCG.symm
          have ltg : tg.length ≤ 256 := by
            rw [Paired.length prG, stepR_len, List.length_take]
            have a1 : min j rows.length * sz ≤ 64 * 4 := Nat.mul_le_mul (by omega) sz3
            omega
          refine ⟨G, D, _, _, rfl, rfl, hG3, hD, ?_, ?_⟩
          · rw [List.length_map, List.length_map]
            exact Nat.le_trans (show _ ≤ 1000 by omega) (by decide)
          · have fG : H2 G = none := nG
            refine ⟨_, rfl, same_new (s2.trans s3) fG, by rw [upd_ne nCG]; exact s3 _ _ hC, tg ++ ts', by rw [upd_same, List.map_append], ?_⟩
            rw [stepR_take hr1]
            exact paired_app (Paired.mapP prG fun t l e => sqT_upd hG3 (sqT_same s3 e)) (Paired.mapP pr' fun t l e => sqT_upd hG3 e)
      · rintro σ H' ⟨v4', rfl, s2, hC, hG⟩
        rw [List.length_map, lts, List.take_length] at hG
        obtain ⟨tg, hG1, prG⟩ := hG
        refine ⟨_, rfl, G, _, rfl, .inl (SqL.of hG1), fun N nN => ?_⟩
        have sN := same_upd (o := .lst (tg.map V.ref)) nN
        have s12 := s1.trans s2
        refine ⟨N, _, _, _, rfl, s12.trans sN, ⟨tg, upd_same, ?_⟩, s12.free nN⟩
        rw [worths_take hsz, hrows]
        exact Paired.mapP prG fun t l e => sqT_same sN e
    · rintro σ H1 ⟨R1, v2, v3, v4, rfl, s1, hR, fR⟩
      refine ⟨_, rfl, k H1 R1 s1 fR ?_⟩
      have : ss.take (rowV ss).length = ss := by
        unfold rowV
        rw [List.length_map, List.take_length]
      rw [this] at hR
      exact hR
/-! ### the law's own look at lits -/
def LitsL (H : Hp) (p : Addr) (ls : List Lit) : Prop := ∃ ts : List Addr, H p = some (.lst (ts.map V.ref)) ∧ Paired (fun (t : Addr) (l : Lit) => H t = some (.tup (litV l))) ts ls
theorem LitsL.same {H H' : Hp} {p : Addr} {ls : List Lit} (h : LitsL H p ls) (s : Same H H') : LitsL H' p ls := by
  obtain ⟨ts, e, q⟩ := h
  exact ⟨ts, s _ _ e, Paired.mapP q fun t l e => s _ _ e⟩
def spLSo (K : PySem.W.Frag) : Sp := fun vs H Q _ => ∃ (p q : Addr) (ls : List Lit) (r : List Nat), vs = [.ref p, .ref q] ∧ LitsL H p ls ∧ SqT K H q (rowV r) ∧ (∀ l ∈ ls, l.1 < r.length) ∧ ls.length ≤ 100 ∧ ∀ H', Same H H' → Q (.bl (ls.any (soB r))) H'
abbrev nLSo : List Str := ["_law_lits", "_law_row", "_law_place", "_law_is_equal", "_law_worth"]
theorem scLSo : FnScope nLSo ["_law_lits", "_law_row"] (defScope sLSo) := ⟨rfl, rfl, rfl, by decide +kernel, rfl, by decide +kernel, by decide +kernel⟩
theorem ok_lso {f : Addr} {fd : FuncData} (F : Fun K "_law_is_so" "_law_is_so" sLSo f fd) (T : Txt6 K mg) : FnOk P w K mg base CX0 1 f fd ["_law_lits", "_law_row"] (spLSo K) := by
  refine F.ok scLSo (fun vs H Q E h => ?_) (fun cdv A outer s H vs Q E hr h => ?_)
  · obtain ⟨p, q, ls, r, rfl, _⟩ := h
    rfl
  · obtain ⟨p, q, ls, r, rfl, ⟨ts, hp, pr⟩, hq, hl, hn, k⟩ := h
    refine ⟨_, pss_one (ps_ret (pe_callB (cr_any rfl) (by rfl) T.any (by decide +kernel) (pa_cons (pe_lc (own := [("_law_place", 2), ("_law_is_equal", 3), ("_law_worth", 4)]) (g := gTup K 3 (gCons (gName 2) (gCons (gName 3) (gCons (gName 4) gNil)))) (tt := tYes) rfl scLSo.nd (pi_list (pv 0))
          (blkOk_by (N := nLSo) (sc := defScope sLSo) (by decide +kernel)) (fun _ _ _ _ _ => pg_tup rfl (pgs_cons (pg_name (i := 2) scLSo.nd rfl (Or.inl rfl)) (pgs_cons (pg_name (i := 3) scLSo.nd rfl (Or.inl rfl)) (pgs_cons (pg_name (i := 4) scLSo.nd rfl (Or.inl rfl)) pgs_nil)))) (fun _ _ _ _ _ => pts_nil)
          (fun _ _ _ _ _ => pe_cmpR op_eq (pe_cmpR op_eq (pe_ix (r := rIxT K) ix_tup (pv 1) (pv 2) (fun _ _ => rfl)) (pv 4) (nomark _)) (pv 3) (nomark _))) pa_nil))), ?_⟩
    have lt : ts.length = ls.length := Paired.length pr
    refine ⟨_, rfl, p, rfl, ⟨_, SqL.of hp⟩, fun D nD => ?_⟩
    refine lc_list (K := K) (xs := ts.map V.ref) (fun i H' => Same H H' ∧ H' D = some (.lst (((ls.take i).map (soB r)).map V.bl))) ⟨same_upd nD, upd_same⟩ (fun i H' _ z => SqL.of (z.1 _ _ hp)) ?_ ?_
    · rintro i x H' hx ⟨s1, hD⟩
      rw [List.getElem?_map] at hx
      obtain ⟨t, ht, rfl⟩ := Option.map_eq_some_iff.mp hx
      obtain ⟨l, hl1, hl2⟩ := paired_get pr ht
      have at1 : atI (rowV r) ((l.1 : Nat) : Int) = some (V.int ((r.getD l.1 0 : Nat) : Int)) := atI_nat (row_at (hl l (List.mem_of_getElem? hl1)))
      refine ⟨t, _, rfl, SqT.of (s1 _ _ hl2), rfl, .int (l.1 : Int), _, rfl, .bl l.2.1, _, rfl, .int (l.2.2 : Int), _, rfl, rfl, ?_⟩
      refine ⟨rfl, _, rfl, _, rfl, q, _, _, _, rfl, rfl, sqT_same s1 hq, at1, _, rfl, rfl, _, rfl, rfl, _, hD, ?_, same_new s1 nD, ?_⟩
      · rw [List.length_map, List.length_map, List.length_take]
        exact small1000 (by omega)
      · have e : decide (V.bl (decide (V.int ((r.getD l.1 0 : Nat) : Int) = V.int (l.2.2 : Int))) = V.bl l.2.1) = soB r l := by
          have e1 : decide (V.int ((r.getD l.1 0 : Nat) : Int) = V.int (l.2.2 : Int)) = decide (r.getD l.1 0 = l.2.2) := decide_eq_decide.mpr ⟨fun z => by have := V.int.inj z; omega, fun z => by rw [z]⟩
          unfold soB
          rw [e1, Bool.eq_iff_iff]
          simp
        rw [upd_same, take_one hl1, List.map_append, List.map_append, e]
        rfl
    · rintro H' ⟨s1, hD⟩
      rw [List.length_map, lt, List.take_length] at hD
      refine ⟨D, _, rfl, SqL.of hD, ?_⟩
      have ea : ((ls.map (soB r)).any id) = ls.any (soB r) := by
        rw [List.any_map]
        rfl
      rw [ea]
      exact k H' s1
end
end K03

namespace K03
open PySem L2
/-! ### rows as data -/
def rowD (r : List Nat) : PyData := .tuple (r.map fun (n : Nat) => PyData.int (n : Int))
theorem ints_dp {K : PySem.W.Frag} {H : Hp} : ∀ r : List Nat, DpAll K H (rowV r) (r.map fun (n : Nat) => PyData.int (n : Int))
  | [] => .nil
  | n :: r => .cons (.int (n : Int)) (ints_dp r)
theorem rows_dp {K : PySem.W.Frag} {H : Hp} : ∀ {ts : List Addr} {rows : List (List Nat)}, Paired (fun (t : Addr) (r : List Nat) => SqT K H t (rowV r)) ts rows → DpAll K H (ts.map V.ref) (rows.map rowD)
  | _, _, .nil => .nil
  | t :: ts, r :: rows, .cons h k => .cons (.tup h (ints_dp r)) (rows_dp k)
theorem ints_lay : ∀ r : List Nat, PyData.canLayAll0 (r.map fun (n : Nat) => PyData.int (n : Int)) = true ∧ PyData.depthAll (r.map fun (n : Nat) => PyData.int (n : Int)) = 0
  | [] => ⟨rfl, rfl⟩
  | n :: r => by
    obtain ⟨a, b⟩ := ints_lay r
    constructor
    · show (true && PyData.canLayAll0 (r.map fun (n : Nat) => PyData.int (n : Int))) = true
      rw [a]
      rfl
    · show max 0 (PyData.depthAll (r.map fun (n : Nat) => PyData.int (n : Int))) = 0
      rw [b]
      rfl
theorem rows_lay : ∀ rows : List (List Nat), PyData.canLayAll0 (rows.map rowD) = true ∧ PyData.depthAll (rows.map rowD) ≤ 1
  | [] => ⟨rfl, Nat.zero_le _⟩
  | r :: rows => by
    obtain ⟨a, b⟩ := rows_lay rows
    obtain ⟨c, d⟩ := ints_lay r
    constructor
    · show ((rowD r).canLay0 && PyData.canLayAll0 (rows.map rowD)) = true
      have e : (rowD r).canLay0 = true := by simp [rowD, PyData.canLay0, c]
      rw [e, a]
      rfl
    · show max (rowD r).depth (PyData.depthAll (rows.map rowD)) ≤ 1
      have e : (rowD r).depth = 1 := by simp [rowD, PyData.depth, d]
      omega
theorem rows_shaped (rows : List (List Nat)) : SeqAt.shaped (.list (rows.map rowD)) = true := by
  obtain ⟨a, b⟩ := rows_lay rows
  unfold SeqAt.shaped
  have h1 : PyData.canLay0 (.list (rows.map rowD)) = true := by
    simpa [PyData.canLay0] using a
  have h2 : PyData.depth (.list (rows.map rowD)) ≤ 64 := by
    simp only [PyData.depth]
    omega
  rw [h1, decide_eq_true h2]
  rfl
theorem rows_eqv (rows : List (List Nat)) : PyData.eqv (.list (rows.map rowD)) (.list []) = decide (rows = []) := by
  cases rows with
  | nil => simp [PyData.eqv, PyData.eqvAll]
  | cons r l => simp [PyData.eqv, PyData.eqvAll]
theorem RowsAt.dp {K : PySem.W.Frag} {H : Hp} {p : Addr} {rows : List (List Nat)} (h : RowsAt K H p rows) : Dp K H (.ref p) (.list (rows.map rowD)) := by
  obtain ⟨ts, e, q⟩ := h
  exact .lst (SqL.of e) (rows_dp q)
structure Txt7 (K : PySem.W.Frag) (mg : Str → Option Value) : Prop extends Txt6 K mg where
  enum : mg "enumerate" = none
theorem litsL_snoc {H : Hp} {G q : Addr} {ts : List Addr} {ls : List Lit} {l : Lit} (hG : H G = some (.lst (ts.map V.ref))) (pr : Paired (fun (t : Addr) (l : Lit) => H t = some (.tup (litV l))) ts ls) (hq : H q = some (.tup (litV l))) :
    LitsL (upd H G (.lst (ts.map V.ref ++ [V.ref q]))) G (ls ++ [l]) := by
  refine ⟨ts ++ [q], by rw [upd_same, List.map_append]; rfl, paired_snoc (Paired.mapP pr fun t l e => ?_) ?_⟩
  · rw [upd_ne (ne_of e hG (by simp))]
    exact e
  · rw [upd_ne (ne_of hq hG (by simp))]
    exact hq
end K03

namespace K03
open PySem L2
abbrev sSheet : Stmt := top 56
theorem seq_cut {t u : TS} {D : Ends} {σ : L2.St} {H : Hp} (Iv : L2.St → Hp → Prop) (h : ∀ N : L2.St → Hp → Prop, (∀ σ' H', Iv σ' H' → N σ' H') → t { D with nx := N } σ H) (k : ∀ σ' H', Iv σ' H' → u D σ' H') : tSeq t u D σ H := h _ k
/-- the jar at j, and all else as in H0 -/
def JK (H0 H : Hp) (j : Addr) (n : Nat) : Prop := Jar H j n ∧ Keep j H0 H
theorem JK.new {H0 H : Hp} {j p : Addr} {n : Nat} {o : HO} (h : JK H0 H j n) (hn : H p = none) : JK H0 (upd H p o) j n := ⟨h.1.upd (h.1.ne hn), h.2.upd_new (h.2.free hn (h.1.ne hn))⟩
theorem JK.more {H0 H : Hp} {j : Addr} {n m : Nat} (h : JK H0 H j n) (l : n ≤ m) : JK H0 H j m := ⟨h.1.mono l, h.2⟩
theorem Jar.same {H H' : Hp} {j : Addr} {n : Nat} (h : Jar H j n) (s : Same H H') : Jar H' j n := by
  obtain ⟨a, b, c, e, r⟩ := h
  exact ⟨a, b, c, s _ _ e, r⟩
theorem JK.same {H0 H H' : Hp} {j : Addr} {n : Nat} (h : JK H0 H j n) (s : Same H H') : JK H0 H' j n := ⟨h.1.same s, h.2.trans (K03.Same.keep s)⟩
theorem JK.move {H0 H H' : Hp} {j : Addr} {n m : Nat} (h : JK H0 H j n) (k : Keep j H H') (hj : Jar H' j m) : JK H0 H' j m := ⟨hj, h.2.trans k⟩
theorem not_jar {H : Hp} {j x : Addr} {n : Nat} {o : HO} (hj : Jar H j n) (h : H x = some o) (no : ∀ xs, o ≠ .lst xs) : x ≠ j := fun e => by
  obtain ⟨a, b, c, q, _⟩ := hj
  rw [e, q] at h
  exact no _ (Option.some.inj h).symm
theorem keep_tup {H H' : Hp} {j x : Addr} {n : Nat} {xs : List V} (hj : Jar H j n) (k : Keep j H H') (h : H x = some (.tup xs)) : H' x = some (.tup xs) := k _ _ (not_jar hj h fun _ q => nomatch q) h
theorem sqT_jar {K : PySem.W.Frag} {H H' : Hp} {j x : Addr} {n : Nat} {xs : List V} (hj : Jar H j n) (k : Keep j H H') (h : SqT K H x xs) : SqT K H' x xs := by
  rcases h with (h | ⟨o, h⟩) | h
  · exact .inl (.inl (keep_tup hj k h))
  · exact .inl (.inr ⟨o, k _ _ (not_jar hj h fun _ q => nomatch q) h⟩)
  · exact .inr h
/-! ### drawn sheets -/
structure Good (ks : List Key) (rules : List (List Lit)) (eds : List (List Nat)) : Prop where
  one : 1 ≤ ks.length
  three : ks.length ≤ 3
  nd : (ks.map (fun q : Key => q.1)).Nodup
  nm : ∀ k ∈ ks, IsNm k.1
  sz : ∀ k ∈ ks, k.2 = 2 ∨ k.2 = 3
  ls : ∀ l ∈ rules, 1 ≤ l.length ∧ l.length ≤ 3 ∧ ∀ x ∈ l, ∃ k, ks[x.1]? = some k ∧ x.2.2 < k.2
  ed : eds = rules.foldl (fun e l => keepR l e) (worthsOf (ks.map (fun q : Key => q.2)))
  ne : eds ≠ []
  eqL : ∃ L : Nat, ∀ k ∈ ks, k.1.length = L
def RulL (H : Hp) (j p : Addr) (rules : List (List Lit)) : Prop := ∃ ts : List Addr, H p = some (.lst (ts.map V.ref)) ∧ Paired (fun (t : Addr) (l : List Lit) => t ≠ j ∧ LitsL H t l) ts rules
theorem litsL_keep {H H' : Hp} {j p : Addr} {n : Nat} {l : List Lit} (hj : Jar H j n) (k : Keep j H H') (np : p ≠ j) (h : LitsL H p l) : LitsL H' p l := by
  obtain ⟨ts, e, q⟩ := h
  exact ⟨ts, k _ _ np e, Paired.mapP q fun t l e => keep_tup hj k e⟩
theorem rulL_keep {H H' : Hp} {j p : Addr} {n : Nat} {rules : List (List Lit)} (hj : Jar H j n) (k : Keep j H H') (np : p ≠ j) (h : RulL H j p rules) : RulL H' j p rules := by
  obtain ⟨ts, e, q⟩ := h
  exact ⟨ts, k _ _ np e, Paired.mapP q fun t l ⟨e1, e2⟩ => ⟨e1, litsL_keep hj k e1 e2⟩⟩
theorem rowsAt_jar {K : PySem.W.Frag} {H H' : Hp} {j p : Addr} {n : Nat} {rows : List (List Nat)} (hj : Jar H j n) (k : Keep j H H') (np : p ≠ j) (h : RowsAt K H p rows) : RowsAt K H' p rows := by
  obtain ⟨ts, e, q⟩ := h
  exact ⟨ts, k _ _ np e, Paired.mapP q fun t r e => sqT_jar hj k e⟩
def sheetD (NA SA RU RO : Addr) : List (L2.Key × V) := [(.inr "names", .ref NA), (.inr "sizes", .ref SA), (.inr "rules", .ref RU), (.inr "rows", .ref RO)]
structure SD (K : PySem.W.Frag) (H : Hp) (j d NA SA RU RO : Addr) (ks : List Key) (rules : List (List Lit)) (eds : List (List Nat)) : Prop where
  nd : d ≠ j
  nN : NA ≠ j
  nS : SA ≠ j
  nU : RU ≠ j
  nO : RO ≠ j
  hd : H d = some (.dK (sheetD NA SA RU RO))
  hN : H NA = some (.lst (namesV ks))
  hS : H SA = some (.lst (sizesV ks))
  hU : RulL H j RU rules
  hO : RowsAt K H RO eds
theorem SD.keep {K : PySem.W.Frag} {H H' : Hp} {j d NA SA RU RO : Addr} {n : Nat} {ks : List Key} {rules : List (List Lit)} {eds : List (List Nat)} (h : SD K H j d NA SA RU RO ks rules eds) (hj : Jar H j n) (k : Keep j H H') : SD K H' j d NA SA RU RO ks rules eds :=
  ⟨h.nd, h.nN, h.nS, h.nU, h.nO, k _ _ h.nd h.hd, k _ _ h.nN h.hN, k _ _ h.nS h.hS, rulL_keep hj k h.nU h.hU, rowsAt_jar hj k h.nO h.hO⟩
theorem SD.same {K : PySem.W.Frag} {H H' : Hp} {j d NA SA RU RO : Addr} {n : Nat} {ks : List Key} {rules : List (List Lit)} {eds : List (List Nat)} (h : SD K H j d NA SA RU RO ks rules eds) (hj : Jar H j n) (s : Same H H') : SD K H' j d NA SA RU RO ks rules eds := h.keep hj (K03.Same.keep s)
def loreD (a b c : Int) : List (L2.Key × V) := [(.inr "keys", .int a), (.inr "size", .int b), (.inr "rules", .int c)]
theorem lit_keep {ks : List Key} {l : List Lit} (h : ∀ x ∈ l, ∃ k, ks[x.1]? = some k ∧ x.2.2 < k.2) : ∀ x ∈ l, x.1 < ks.length := fun x hx => by
  obtain ⟨k, e, _⟩ := h x hx
  exact (List.getElem?_eq_some_iff.mp e).1
theorem zip_names : ∀ {ws : List Str} {ss : List Nat}, ss.length = ws.length → namesV (ws.zip ss) = ws.map V.str ∧ sizesV (ws.zip ss) = rowV ss ∧ (ws.zip ss).map (fun q : Key => q.1) = ws ∧ (ws.zip ss).map (fun q : Key => q.2) = ss
  | [], [], _ => ⟨rfl, rfl, rfl, rfl⟩
  | w :: ws, s :: ss, h => by
    obtain ⟨a, b, c, d⟩ := zip_names (ws := ws) (ss := ss) (Nat.succ.inj h)
    exact ⟨congrArg (V.str w :: ·) a, congrArg (V.int (s : Int) :: ·) b, congrArg (w :: ·) c, congrArg (s :: ·) d⟩
  | [], _ :: _, h => nomatch h
  | _ :: _, [], h => nomatch h
theorem put_rules (a b c d x : Addr) : putK (sheetD a b c d) (.inr "rules") (.ref x) = sheetD a b x d := rfl
theorem put_rows (a b c d x : Addr) : putK (sheetD a b c d) (.inr "rows") (.ref x) = sheetD a b c x := rfl
theorem worths_ne : ∀ {ss : List Nat}, (∀ s ∈ ss, s = 2 ∨ s = 3) → worthsOf ss ≠ [] := by
  have key : ∀ (ss : List Nat) (acc : List (List Nat)), acc ≠ [] → (∀ s ∈ ss, s = 2 ∨ s = 3) → ss.foldl stepR acc ≠ [] := by
    intro ss
    induction ss with
    | nil => exact fun acc h _ => h
    | cons s l ih =>
      intro acc h hs
      rw [List.foldl_cons]
      refine ih _ (fun e => ?_) fun x hx => hs x (List.mem_cons_of_mem _ hx)
      have l := congrArg List.length e
      rw [stepR_len] at l
      have a : acc.length ≠ 0 := fun q => h (List.length_eq_zero_iff.mp q)
      have b := hs s List.mem_cons_self
      rcases Nat.mul_eq_zero.mp l with q | q
      · exact a q
      · omega
  exact fun {ss} h => key ss [[]] (by simp) h
section
variable {base : Heap} {P : Program} {w : World} {K : PySem.W.Frag} {mg : Str → Option Value}
theorem units1 {k : Nat} {A : Around} (hr : Room k A) : A.units + 1 < cLine := by
  have := units65 hr
  omega
theorem units64 {k : Nat} {A : Around} (hr : Room k A) : A.units + 64 < cLine := by
  have := units65 hr
  omega
def spSheet (K : PySem.W.Frag) : Sp := fun vs H Q _ => ∃ (j lo : Addr) (n : Nat), vs = [.ref j, .ref lo] ∧ Jar H j n ∧ n ≤ 6000 ∧ lo ≠ j ∧ H lo = some (.dK (loreD 3 3 4)) ∧
  ∀ (d NA SA RU RO : Addr) (H' : Hp) (ks : List Key) (rules : List (List Lit)) (eds : List (List Nat)), Good ks rules eds → rules.length ≤ 4 → Jar H' j (n + 100) → Keep j H H' → SD K H' j d NA SA RU RO ks rules eds → Q (.ref d) H'
abbrev nSheet : List Str := ["_law_jar_here", "_law_lore", "_law_many", "_law_names_here", "_law_sizes", "_law_sheet_here", "_law_turn", "_law_lits", "_law_part", "_law_place", "_law_left", "_law_name", "_law_row"]
theorem scSheet : FnScope nSheet ["_law_jar_here", "_law_lore"] (defScope sSheet) := ⟨rfl, rfl, rfl, by decide +kernel, rfl, by decide +kernel, by decide +kernel⟩
theorem merge4 (a b c d : Addr) : mergeK [] [(.inr "names", .ref a), (.inr "sizes", .ref b), (.inr "rules", .ref c), (.inr "rows", .ref d)] = sheetD a b c d := rfl
theorem ok_sheet {f : Addr} {fd : FuncData} (F : Fun K "_law_sheet" "_law_sheet" sSheet f fd) (T : Txt7 K mg) (G : jarTake P w K mg base) (GN : Has P w K mg base "_law_names" 3 ["_law_jar_here", "_law_many"] spNames) (GR : Has P w K mg base "_law_rows" 1 ["_law_sizes"] (spLRows K)) (GS : Has P w K mg base "_law_is_so" 1 ["_law_lits", "_law_row"] (spLSo K)) :
    FnOk P w K mg base CX0 4 f fd ["_law_jar_here", "_law_lore"] (spSheet K) := by
  refine F.ok scSheet (fun vs H Q E h => ?_) (fun cdv A outer s H vs Q E hr h => ?_)
  · obtain ⟨j, lo, n, rfl, _⟩ := h
    rfl
  · obtain ⟨j, lo, n, rfl, hj, hn, nlo, hlo, k⟩ := h
    have r1 : Room 1 _ := hr.mono (by decide)
    refine ⟨_, pss_cons (ps_set (i := 2) scSheet.nd rfl (.inl rfl) (pe_op op_add pe_int (pe_has G r1 (pa_cons (pv 0) (pa_cons (pe_dget (units1 hr) (pv 1) pe_str (fun _ _ => rfl)) pa_nil)))))
      (pss_cons (ps_set (i := 3) scSheet.nd rfl (.inl rfl) (pe_has GN hr (pa_cons (pv 0) (pa_cons (pv 2) pa_nil))))
      (pss_cons (ps_if (pt_cmpR op_eq (pe_has G r1 (pa_cons (pv 0) (pa_cons pe_int pa_nil))) pe_int (nomark _)) (pss_one (ps_set (i := 3) scSheet.nd rfl (.inl rfl) (pe_revL (pv 3)))) pss_nil)
      (pss_cons (ps_setLc (i := 4) (own := [("_law_name", 11)]) (g := gName 11) (tt := tYes) rfl scSheet.nd rfl rfl rfl (pi_list (pv 3))
          (blkOk_by (N := nSheet) (sc := defScope sSheet) (by decide +kernel)) (fun _ _ _ _ _ => pg_name (i := 11) scSheet.nd rfl (Or.inl rfl)) (fun _ _ _ _ _ => pts_nil)
          (fun _ _ _ _ _ => pe_op op_add pe_int (pe_has G r1 (pa_cons (pv 0) (pa_cons (pe_op op_sub (pe_dget (units1 hr) (pv 1) pe_str (fun _ _ => rfl)) pe_int) pa_nil)))))
      (pss_cons (ps_set (i := 5) scSheet.nd rfl (.inl rfl) (pe_disp (pps_cons pe_str (pv 3) (pps_cons pe_str (pv 4) (pps_cons pe_str (pe_lst pa_nil) (pps_cons pe_str (pe_has GR r1 (pa_cons (pv 4) pa_nil)) pps_nil)))) rfl rfl (by simp) (by decide)))
      (pss_cons (ps_for PassesOwn.never rfl (pi_range1 (by rfl) T.range (pa_cons (pe_has G r1 (pa_cons (pv 0) (pa_cons (pe_op op_add (pe_dget (units1 hr) (pv 1) pe_str (fun _ _ => rfl)) pe_int) pa_nil))) pa_nil)) (pg_name (i := 6) scSheet.nd rfl (.inl rfl))
        (pss_cons (ps_set (i := 7) scSheet.nd rfl (.inr rfl) (pe_lst pa_nil))
        (pss_cons (ps_for PassesOwn.never rfl (pi_range1 (by rfl) T.range (pa_cons (pe_op op_add pe_int (pe_has G r1 (pa_cons (pv 0) (pa_cons pe_int pa_nil)))) pa_nil)) (pg_name (i := 8) scSheet.nd rfl (.inl rfl))
          (pss_cons (ps_set (i := 9) scSheet.nd rfl (.inl rfl) (pe_has G r1 (pa_cons (pv 0) (pa_cons (pv 2) pa_nil))))
          (pss_one (ps_expr (pe_bm PySem.F.plainAttrs_list PySem.F.slot_list_append PySem.F.type_list_append mt_append (pv 7) (pa_cons (pe_tup (pa_cons (pv 9) (pa_cons (pe_cmpR op_eq (pe_has G r1 (pa_cons (pv 0) (pa_cons pe_int pa_nil))) pe_int (nomark _))
            (pa_cons (pe_has G r1 (pa_cons (pv 0) (pa_cons (pe_ix ix_list (pv 4) (pv 9) (fun _ _ => rfl)) pa_nil))) pa_nil)))) pa_nil))))))
        (pss_cons (ps_setLc (i := 10) (own := [("_law_row", 12)]) (g := gName 12) rfl scSheet.nd rfl rfl rfl (pi_list (pe_dget (units1 hr) (pv 5) pe_str (fun _ _ => rfl)))
            (blkOk_by (N := nSheet) (sc := defScope sSheet) (by decide +kernel)) (fun _ _ _ _ _ => pg_name (i := 12) scSheet.nd rfl (Or.inl rfl)) (fun _ _ _ _ _ => pts_one (pt_val (pe_has GS r1 (pa_cons (pv 7) (pa_cons (pv 12) pa_nil)))))
            (fun _ _ _ _ _ => pv 12))
        (pss_one (ps_if (pt_cmpR (op_neD (units64 hr)) (pv 10) (pe_lst pa_nil) (nomark _))
          (pss_one (ps_asg (pe_tup (pa_cons (pe_op op_cat (pe_dget (units1 hr) (pv 5) pe_str (fun _ _ => rfl)) (pe_lst (pa_cons (pv 7) pa_nil))) (pa_cons (pv 10) pa_nil))) (pg_tup rfl (pgs_cons (pg_sub (pv 5) pe_str (set_dict (units1 hr))) (pgs_cons (pg_sub (pv 5) pe_str (set_dict (units1 hr))) pgs_nil))))) pss_nil))))))
      (pss_one (ps_ret (pv 5)))))))), ?_⟩
    refine ⟨_, rfl, _, rfl, lo, .int 3, rfl, .inl ⟨_, .inr "keys", .inl hlo, rfl, rfl⟩, j, 3, n, rfl, hj, by omega, by omega, by omega, fun d0 H1 z0 z1 hj1 kp1 => ?_⟩
    obtain ⟨d, rfl⟩ := Int.eq_ofNat_of_zero_le z0
    refine ⟨_, _, rfl, rfl, ?_⟩
    refine ⟨_, rfl, _, rfl, j, n + 1, 1 + d, ?_, hj1, by omega, by omega, fun p1 H2 ws lw nd_ nm eqL hj2 kp2 f1 e1 => ?_⟩
    · show [V.ref j, V.int (1 + (d : Int))] = [V.ref j, V.int ((1 + d : Nat) : Int)]
      rw [Int.natCast_add]
      rfl
    have np1 : p1 ≠ j := kp1 |> fun _ => hj1.ne f1
    have jk2 : JK H H2 j (n + 11) := ⟨hj2.mono (by omega), kp1.trans kp2⟩
    dsimp only [gName]
    refine seq_cut (fun σ' H' => ∃ (NA : Addr) (ws : List Str), σ' = [some (.ref j), some (.ref lo), some (.int (1 + (d : Int))), some (.ref NA), none, none, none, none, none, none, none, none, none] ∧ JK H H' j (n + 12) ∧ NA ≠ j ∧ H' NA = some (.lst (ws.map V.str)) ∧ ws.length = 1 + d ∧ ws.Nodup ∧ (∀ x ∈ ws, IsNm x) ∧ ∃ L : Nat, ∀ x ∈ ws, x.length = L) (fun N hN => ?_) ?_
    · refine ⟨_, rfl, j, 2, n + 11, rfl, jk2.1, by omega, by decide, by decide, fun b H3 b0 b1 hj3 kp3 => ⟨rfl, _, rfl, ?_⟩⟩
      have jk3 : JK H H3 j (n + 12) := jk2.move kp3 hj3
      have e3 := kp3 _ _ np1 e1
      refine ite2 (fun _ => ?_) (fun _ => ?_)
      · refine ⟨_, rfl, p1, _, rfl, SqL.of e3, fun p np => ?_⟩
        refine hN _ _ ⟨p, ws.reverse, rfl, jk3.new np, jk3.1.ne np, by rw [upd_same, List.map_reverse], by rw [List.length_reverse]; exact lw, (by rw [List.Nodup, List.pairwise_reverse]; exact nd_.imp fun h e => h e.symm), fun x hx => nm x (List.mem_reverse.mp hx), eqL.imp fun L h x hx => h x (List.mem_reverse.mp hx)⟩
      · exact hN _ _ ⟨p1, ws, rfl, jk3, np1, e3, lw, nd_, nm, eqL⟩
    rintro σ3 H3 ⟨NA, ws, rfl, jk3, nNA, hNA, lw, nd_, nm, eqL⟩
    have lw3 : ws.length ≤ 3 := by omega
    have hlo3 : H3 lo = some (.dK (loreD 3 3 4)) := jk3.2 _ _ nlo hlo
    dsimp only [tSeq, tAsg, tLc, iList, List.map]
    refine ⟨_, rfl, NA, rfl, ⟨_, SqL.of hNA⟩, fun SA nSA => ?_⟩
    have nSAj := jk3.1.ne nSA
    have nSN : SA ≠ NA := fun e => by
      rw [e, hNA] at nSA
      cases nSA
    have nSlo : SA ≠ lo := fun e => by
      rw [e, hlo3] at nSA
      cases nSA
    refine lc_list (K := K) (xs := ws.map V.str) (fun i H4 => ∃ ss : List Nat, ss.length = i ∧ (∀ s ∈ ss, s = 2 ∨ s = 3) ∧ H4 SA = some (.lst (rowV ss)) ∧ H4 NA = some (.lst (ws.map V.str)) ∧ H4 lo = some (.dK (loreD 3 3 4)) ∧ JK H H4 j (n + 12 + i) ∧ i ≤ 3)
      ⟨[], rfl, (fun s hs => nomatch hs), upd_same, by rw [upd_ne nSN.symm]; exact hNA, by rw [upd_ne nSlo.symm]; exact hlo3, jk3.new nSA, by decide⟩ (fun i H4 _ ⟨_, _, _, _, q, _⟩ => SqL.of q) ?_ ?_
    · rintro i x H4 hx ⟨ss, ls, hss, hSA, hNA4, hlo4, jk4, i3⟩
      have ilt : i < ws.length := by
        have := (List.getElem?_eq_some_iff.mp hx).1
        rwa [List.length_map] at this
      refine ⟨rfl, _, rfl, _, rfl, lo, .int 3, rfl, .inl ⟨_, .inr "size", .inl hlo4, rfl, rfl⟩, _, _, rfl, rfl, j, 2, n + 12 + i, rfl, jk4.1, by omega, by decide, by decide, fun s0 H5 z0 z1 hj5 kp5 => ⟨_, _, rfl, rfl, ?_⟩⟩
      obtain ⟨s, rfl⟩ := Int.eq_ofNat_of_zero_le z0
      have jk5 := jk4.move kp5 hj5
      refine ⟨_, kp5 _ _ nSAj hSA, ?_, ss ++ [2 + s], by rw [List.length_append, ls]; rfl, fun y hy => ?_, ?_, ?_, ?_, ⟨jk5.1.upd nSAj, jk5.2.upd_new (jk3.2.free nSA nSAj)⟩, by omega⟩
      · unfold rowV
        rw [List.length_map]
        exact small1000 (by omega)
      · rcases List.mem_append.mp hy with hy | hy
        · exact hss y hy
        · rw [List.mem_singleton.mp hy]
          omega
      · rw [upd_same]
        unfold rowV
        rw [List.map_append]
        show some (HO.lst (_ ++ [V.int (2 + (s : Int))])) = some (HO.lst (_ ++ [V.int ((2 + s : Nat) : Int)]))
        rw [Int.natCast_add]
        rfl
      · rw [upd_ne nSN.symm]
        exact kp5 _ _ nNA hNA4
      · rw [upd_ne nSlo.symm]
        exact kp5 _ _ nlo hlo4
    rintro H4 ⟨ss, ls, hss, hSA, hNA4, hlo4, jk4, i3⟩
    rw [List.length_map] at ls jk4 i3
    obtain ⟨zN, zS, z1, z2⟩ := zip_names (ws := ws) (ss := ss) ls
    generalize hks : ws.zip ss = ks at zN zS z1 z2
    have lks : ks.length = ws.length := by
      rw [← z1, List.length_map]
    have hss3 : ∀ s ∈ ss, s ≤ 3 := fun s hs => by
      have := hss s hs
      omega
    have hss' : ∀ k ∈ ks, k.2 = 2 ∨ k.2 = 3 := fun k hk => hss _ (by rw [← z2]; exact List.mem_map_of_mem hk)
    refine fun dd ndd => ?_
    have nddj := jk4.1.ne ndd
    refine ⟨.ref NA, rfl, .ref SA, rfl, Nat.zero_le _, fun RU nRU => ?_⟩
    have g1 := get_new (o := .lst []) (get_new (o := .dK []) hSA ndd) nRU
    refine ⟨_, rfl, SA, ss, rfl, SqL.of g1, by omega, (fun s hs => Nat.le_succ_of_le (hss3 s hs)), fun H6 RO s6 fRO hRO => ?_⟩
    have jkU : JK H (upd (upd H4 dd (.dK [])) RU (.lst [])) j (n + 12 + ws.length) := (jk4.new ndd).new nRU
    have hdd6 := s6 _ _ (get_new (o := .lst []) (upd_same (H := H4) (a := dd) (o := .dK [])) nRU)
    have hRU6 := s6 _ _ (upd_same (H := upd H4 dd (.dK [])) (a := RU) (o := .lst []))
    have hNA6 := s6 _ _ (get_new (o := .lst []) (get_new (o := .dK []) hNA4 ndd) nRU)
    have hSA6 := s6 _ _ g1
    have hlo6 := s6 _ _ (get_new (o := .lst []) (get_new (o := .dK []) hlo4 ndd) nRU)
    have jk6 := jkU.same s6
    have nRUj := (jk4.new ndd).1.ne nRU
    have nROj := jkU.1.ne fRO
    refine ⟨hdd6, [(.inr "names", .ref NA), (.inr "sizes", .ref SA), (.inr "rules", .ref RU), (.inr "rows", .ref RO)], rfl, (by show 4 ≤ 15; decide), ?_⟩
    rw [merge4]
    have fdd : H dd = none := jk4.2.free ndd nddj
    have kd6 : Keep dd H6 (upd H6 dd (.dK (sheetD NA SA RU RO))) := Keep.put
    have jk7 : JK H (upd H6 dd (.dK (sheetD NA SA RU RO))) j (n + 15) := ⟨(jk6.1.upd nddj).mono (by omega), jk6.2.upd_new fdd⟩
    have good0 : Good ks [] (worthsOf (ks.map (fun q : Key => q.2))) := ⟨by omega, by omega, by rw [z1]; exact nd_, fun k hk => nm _ (by rw [← z1]; exact List.mem_map_of_mem hk), hss', (fun l hl => nomatch hl), rfl, worths_ne fun s hs => by rw [z2] at hs; exact hss s hs, eqL.imp fun L h k hk => h _ (by rw [← z1]; exact List.mem_map_of_mem hk)⟩
    have sd7 : SD K (upd H6 dd (.dK (sheetD NA SA RU RO))) j dd NA SA RU RO ks [] (worthsOf (ks.map (fun q : Key => q.2))) :=
      ⟨nddj, nNA, nSAj, nRUj, nROj, upd_same, by rw [zN]; exact keep_of kd6 hdd6 hNA6 (by simp), by rw [zS]; exact keep_of kd6 hdd6 hSA6 (by simp), ⟨[], keep_of kd6 hdd6 hRU6 (by simp), .nil⟩, by
        obtain ⟨ts, e, q⟩ := hRO
        rw [z2]
        refine ⟨ts, keep_of kd6 hdd6 e (by simp), Paired.mapP q fun t r e => ?_⟩
        rcases e with (e | ⟨o, e⟩) | e
        · exact .inl (.inl (keep_of kd6 hdd6 e (by simp)))
        · exact .inl (.inr ⟨o, keep_of kd6 hdd6 e (by simp)⟩)
        · exact .inr e⟩
    have hlo7 : (upd H6 dd (.dK (sheetD NA SA RU RO))) lo = some (.dK (loreD 3 3 4)) := jk7.2 _ _ nlo hlo
    generalize (upd H6 dd (.dK (sheetD NA SA RU RO))) = H7 at jk7 sd7 hlo7
    clear kd6 hdd6 hRU6 hNA6 hSA6 hlo6 jk6 jkU g1 jk4 hSA hNA4 hlo4 jk3 hNA hlo3
    refine ⟨_, rfl, _, rfl, lo, .int 4, rfl, .inl ⟨_, .inr "rules", .inl hlo7, rfl, rfl⟩, _, _, rfl, rfl, j, 5, n + 15, rfl, jk7.1, by omega, by decide, by decide, fun r0 H8 z0 z1' hj8 kp8 => ?_⟩
    obtain ⟨r, rfl⟩ := Int.eq_ofNat_of_zero_le z0
    have sd8 := sd7.keep jk7.1 kp8
    have jk8 := jk7.move kp8 hj8
    refine ⟨_, rfl, by omega, by omega, for_range (lo := 0) (n := ((r : Nat) : Int).toNat) (fun i σ H' => ∃ (RU RO : Addr) (rules : List (List Lit)) (eds : List (List Nat)) (v6 v7 v8 v9 v10 : Option V), σ = [some (.ref j), some (.ref lo), some (.int (1 + (d : Int))), some (.ref NA), some (.ref SA), some (.ref dd), v6, v7, v8, v9, v10, none, none] ∧
      JK H H' j (n + 20 + 10 * i) ∧ SD K H' j dd NA SA RU RO ks rules eds ∧ Good ks rules eds ∧ rules.length ≤ i) ⟨RU, RO, [], _, none, none, none, none, none, rfl, jk8.more (by omega), sd8, good0, Nat.le_refl _⟩ ?_ ?_⟩
    · rintro i σ HB hi ⟨RU, RO, rules, eds, v6, v7, v8, v9, v10, rfl, jkB, sdB, good, lr⟩
      have i4 : i < 4 := by omega
      refine ⟨Nat.zero_le _, fun L nL => ?_⟩
      have nLj := jkB.1.ne nL
      have jkL : JK HB (upd HB L (.lst [])) j (n + 20 + 10 * i) := JK.new (H0 := HB) ⟨jkB.1, Keep.refl _ _⟩ nL
      refine ⟨_, rfl, j, 3, n + 20 + 10 * i, rfl, jkL.1, by omega, by decide, by decide, fun c0 HC z0 z1' hjC kpC => ?_⟩
      obtain ⟨c, rfl⟩ := Int.eq_ofNat_of_zero_le z0
      have jkC := jkL.move kpC hjC
      refine ⟨_, _, rfl, rfl, _, rfl, by omega, by omega, for_range (lo := 0) (n := (1 + (c : Int)).toNat) (fun q σ H' => ∃ (ls : List Lit) (ts : List Addr) (v8 v9 : Option V), σ = [some (.ref j), some (.ref lo), some (.int (1 + (d : Int))), some (.ref NA), some (.ref SA), some (.ref dd), some (.int (0 + (i : Int))), some (.ref L), v8, v9, v10, none, none] ∧
        JK HB H' j (n + 20 + 10 * i + 1 + 3 * q) ∧ H' L = some (.lst (ts.map V.ref)) ∧ Paired (fun (t : Addr) (l : Lit) => H' t = some (.tup (litV l))) ts ls ∧ (∀ x ∈ ls, ∃ k, ks[x.1]? = some k ∧ x.2.2 < k.2) ∧ ls.length = q) ⟨[], [], _, _, rfl, jkC, kpC _ _ nLj upd_same, .nil, (fun x hx => nomatch hx), rfl⟩ ?_ ?_⟩
      · rintro q σ HQ hq ⟨lits, ts, v8, v9, rfl, jkQ, hL, pr, hv, lq⟩
        have q3 : q < 3 := by omega
        refine ⟨_, rfl, _, rfl, j, 1 + (d : Int), n + 20 + 10 * i + 1 + 3 * q, rfl, jkQ.1, by omega, by omega, by omega, fun pl0 H9 z0 z1' hj9 kp9 => ?_⟩
        obtain ⟨pl, rfl⟩ := Int.eq_ofNat_of_zero_le z0
        have jk9 := jkQ.move kp9 hj9
        have hL9 := kp9 _ _ nLj hL
        refine ⟨_, rfl, .inl ⟨rfl, _, SqL.of hL9⟩, _, rfl, ?_⟩
        refine ⟨_, rfl, j, 2, _, rfl, jk9.1, by omega, by decide, by decide, fun b H10 b0 b1 hj10 kp10 => ⟨rfl, ?_⟩⟩
        have jk10 := jk9.move kp10 hj10
        have sd10 := sdB.keep jkB.1 jk10.2
        have plt : pl < ks.length := by omega
        obtain ⟨kx, hkx⟩ : ∃ kx, ks[pl]? = some kx := ⟨_, List.getElem?_eq_getElem plt⟩
        have hks2 := hss' kx (List.mem_of_getElem? hkx)
        have hat : atI (sizesV ks) ((pl : Nat) : Int) = some (.int (kx.2 : Int)) := atI_nat (by
          unfold sizesV
          rw [List.getElem?_map, hkx]
          rfl)
        refine ⟨_, rfl, _, rfl, _, rfl, SA, _, _, _, rfl, rfl, SqL.of sd10.hS, hat, j, (kx.2 : Int), _, rfl, jk10.1, by omega, by omega, by omega, fun w0 H11 z0 z1' hj11 kp11 => ?_⟩
        obtain ⟨wv, rfl⟩ := Int.eq_ofNat_of_zero_le z0
        have jk11 := jk10.move kp11 hj11
        have hL11 := kp11 _ _ nLj (kp10 _ _ nLj hL9)
        have pr11 : Paired (fun (t : Addr) (l : Lit) => H11 t = some (.tup (litV l))) ts lits := Paired.mapP pr fun t l e => keep_tup jk10.1 kp11 (keep_tup jk9.1 kp10 (keep_tup jkQ.1 kp9 e))
        refine ⟨(by show 3 ≤ sizeLine; decide), fun tq ntq => ?_⟩
        have s12 := same_upd (o := .tup [V.int (pl : Int), V.bl (decide (V.int b = V.int 0)), V.int (wv : Int)]) ntq
        have hL12 := s12 _ _ hL11
        have lts : ts.length = q := by
          rw [Paired.length pr, lq]
        refine ⟨L, _, _, rfl, rfl, hL12, by rw [List.length_map]; exact small1000 (by omega), ?_⟩
        obtain ⟨ts2, m1, m2⟩ := litsL_snoc (l := (pl, decide (V.int b = V.int 0), wv)) hL12 (Paired.mapP pr11 fun t l e => s12 _ _ e) (q := tq) upd_same
        have jk12 := jk11.same s12
        refine ⟨lits ++ [(pl, decide (V.int b = V.int 0), wv)], ts2, _, _, rfl, ⟨(jk12.1.upd nLj).mono (by omega), jk12.2.upd_new nL⟩, m1, m2, fun x hx => ?_, by rw [List.length_append, lq]; rfl⟩
        rcases List.mem_append.mp hx with hx | hx
        · exact hv x hx
        · rw [List.mem_singleton.mp hx]
          exact ⟨kx, hkx, by show wv < kx.2; omega⟩
      · rintro σ HQ ⟨lits, ts, v8, v9, rfl, jkQ, hL, pr, hv, lq⟩
        have lq3 : 1 ≤ lits.length ∧ lits.length ≤ 3 := by omega
        have sdQ := sdB.keep jkB.1 jkQ.2
        have hLl : LitsL HQ L lits := ⟨ts, hL, pr⟩
        obtain ⟨tr, hD3, prD⟩ := sdQ.hO
        have lts : tr.length = eds.length := Paired.length prD
        have rlen : ∀ r ∈ eds, r.length = ks.length := by
          rw [good.ed]
          have key : ∀ (rules : List (List Lit)) (e0 : List (List Nat)), (∀ r ∈ e0, r.length = ks.length) → ∀ r ∈ rules.foldl (fun e l => keepR l e) e0, r.length = ks.length := by
            intro rules
            induction rules with
            | nil => exact fun e0 h => h
            | cons l rs ih => exact fun e0 h => ih _ fun r hr => h r (List.mem_filter.mp hr).1
          exact key rules _ fun r hr => by rw [worths_row hr, List.length_map]
        have e27 : eds.length ≤ 27 := by
          rw [good.ed]
          have key : ∀ (rules : List (List Lit)) (e0 : List (List Nat)), (rules.foldl (fun e l => keepR l e) e0).length ≤ e0.length := by
            intro rules
            induction rules with
            | nil => exact fun e0 => Nat.le_refl _
            | cons l rs ih => exact fun e0 => Nat.le_trans (ih _) (List.length_filter_le _ _)
          refine Nat.le_trans (key rules _) ?_
          have := worths_small (ss := ks.map (fun q : Key => q.2)) (by rw [List.length_map]; exact good.three) (fun s hs => by
            obtain ⟨k, hk, rfl⟩ := List.mem_map.mp hs
            have := good.sz k hk
            omega) (ks.map (fun q : Key => q.2)).length
          rw [List.take_length] at this
          exact this
        dsimp only [tSeq, tAsg, tLc, iList, List.map]
        refine ⟨_, rfl, dd, .ref RO, rfl, .inl ⟨_, .inr "rows", .inl sdQ.hd, rfl, rfl⟩, RO, rfl, ⟨_, SqL.of hD3⟩, fun E2 nE => ?_⟩
        refine lc_list (K := K) (xs := tr.map V.ref) (fun m H' => Same HQ H' ∧ ∃ ts', H' E2 = some (.lst (ts'.map V.ref)) ∧ Paired (fun (t : Addr) (r : List Nat) => SqT K H' t (rowV r)) ts' (keepR lits (eds.take m)) ∧ ts'.length ≤ m)
          ⟨same_upd nE, [], upd_same, .nil, Nat.zero_le _⟩ (fun m H' _ z => SqL.of (z.1 _ _ hD3)) ?_ ?_
        · rintro m x H' hx ⟨s4, ts', hE, pr', lt'⟩
          rw [List.getElem?_map] at hx
          obtain ⟨t, ht, rfl⟩ := Option.map_eq_some_iff.mp hx
          obtain ⟨rr, hr1, hr2⟩ := paired_get prD ht
          have mlt : m < tr.length := (List.getElem?_eq_some_iff.mp ht).1
          have rl := rlen rr (List.mem_of_getElem? hr1)
          have kp : keepR lits (eds.take (m + 1)) = keepR lits (eds.take m) ++ (if lits.any (soB rr) = true then [rr] else []) := filter_take hr1
          refine ⟨rfl, _, rfl, _, rfl, L, t, lits, rr, rfl, hLl.same s4, sqT_same s4 hr2, fun l1 hl1 => by rw [rl]; exact lit_keep hv l1 hl1, by omega, fun H5 s5 => ⟨_, rfl, ?_⟩⟩
          refine ite2 (fun hb => ?_) (fun hb => ?_)
          · have hE5 := s5 _ _ hE
            refine ⟨_, rfl, _, hE5, by rw [List.length_map]; exact small1000 (by omega), same_new (s4.trans s5) nE, ts' ++ [t], by rw [upd_same, List.map_append]; rfl, ?_, by rw [List.length_append]; show _ + 1 ≤ _; omega⟩
            rw [kp, if_pos hb]
            exact paired_snoc (Paired.mapP pr' fun t l e => sqT_upd hE5 (sqT_same s5 e)) (sqT_upd hE5 (sqT_same (s4.trans s5) hr2))
          · refine ⟨s4.trans s5, ts', s5 _ _ hE, ?_, by omega⟩
            rw [kp, if_neg hb, List.append_nil]
            exact Paired.mapP pr' fun t l e => sqT_same s5 e
        · rintro H5 ⟨s5, ts', hE, pr', lt'⟩
          rw [List.length_map, lts, List.take_length] at pr'
          have hE5 : RowsAt K H5 E2 (keepR lits eds) := ⟨ts', hE, pr'⟩
          have jk5 : JK H H5 j (n + 20 + 10 * (i + 1)) := ((jkB.move jkQ.2 jkQ.1).same s5).more (by omega)
          have sd5 := sdQ.same jkQ.1 s5
          have hL5 := hLl.same s5
          have nE2j : E2 ≠ j := jkQ.1.ne nE
          refine ⟨_, rfl, Nat.zero_le _, fun X nX => ?_⟩
          have sX := same_upd (o := .lst []) nX
          refine ⟨_, _, (hE5.same sX).dp, .lst (SqL.of upd_same) .nil, rows_shaped _, by decide, _, rfl, ?_⟩
          rw [rows_eqv]
          refine ite2 (fun cne => ?_) (fun _ => ?_)
          · have ne' : keepR lits eds ≠ [] := fun q => by
              rw [decide_eq_true q] at cne
              cases cne
            have sd6 := sd5.same jk5.1 sX
            have jk6 := jk5.new (o := .lst []) nX
            refine ⟨_, rfl, dd, .ref RU, rfl, .inl ⟨_, .inr "rules", .inl sd6.hd, rfl, rfl⟩, _, rfl, (by show 1 ≤ sizeLine; decide), fun Y nY => ?_⟩
            obtain ⟨tu, hRU, prU⟩ := sd6.hU
            have ltu : tu.length = rules.length := Paired.length prU
            refine ⟨RU, Y, _, _, rfl, rfl, get_new hRU nY, upd_same, by rw [List.length_map]; exact Nat.le_trans (show tu.length + 1 ≤ 5 by omega) (by decide), fun RN nRN => ?_⟩
            refine ⟨_, rfl, (by show 2 ≤ sizeLine; decide), fun tq ntq => ?_⟩
            have s69 := ((same_upd (o := .lst [V.ref L]) nY).trans (same_upd (o := .lst (tu.map V.ref ++ [V.ref L])) nRN)).trans (same_upd (o := .tup [V.ref RN, V.ref E2]) ntq)
            have hRN := get_new (o := .tup [V.ref RN, V.ref E2]) (upd_same (H := upd (upd H5 X (.lst [])) Y (.lst [V.ref L])) (a := RN) (o := .lst (tu.map V.ref ++ [V.ref L]))) ntq
            have nRNj : RN ≠ j := (jk6.new (o := .lst [V.ref L]) nY).1.ne nRN
            have htq := upd_same (H := upd (upd (upd H5 X (.lst [])) Y (.lst [V.ref L])) RN (.lst (tu.map V.ref ++ [V.ref L]))) (a := tq) (o := .tup [V.ref RN, V.ref E2])
            have jk9 := jk6.same s69
            have sd9 := sd6.same jk6.1 s69
            have hL9 := hL5.same (sX.trans s69)
            have hE9 := (hE5.same sX).same s69
            have prU9 : Paired (fun (t : Addr) (l : List Lit) => t ≠ j ∧ LitsL _ t l) tu rules := Paired.mapP prU fun t l ⟨a, b⟩ => ⟨a, b.same s69⟩
            generalize (upd (upd (upd (upd H5 X (.lst [])) Y (.lst [V.ref L])) RN (.lst (tu.map V.ref ++ [V.ref L]))) tq (.tup [V.ref RN, V.ref E2])) = H9 at hRN htq jk9 sd9 hL9 hE9 prU9
            refine ⟨tq, _, rfl, SqT.of htq, rfl, .ref RN, _, rfl, _, rfl, dd, _, rfl, DPut.k (k := .inr "rules") sd9.hd (by show 4 < sizeLine; decide), .ref E2, _, rfl, _, rfl, dd, _, rfl, DPut.k (k := .inr "rows") upd_same (by show 4 < sizeLine; decide), rfl, ?_⟩
            rw [upd_upd, put_rules, put_rows]
            have kd : Keep dd H9 (upd H9 dd (.dK (sheetD NA SA RN E2))) := Keep.put
            have lk : ∀ {t : Addr} {l : List Lit}, LitsL H9 t l → LitsL (upd H9 dd (.dK (sheetD NA SA RN E2))) t l := fun {t l} ⟨a, b, c⟩ => ⟨a, keep_of kd sd9.hd b (by simp), Paired.mapP c fun t l e => keep_of kd sd9.hd e (by simp)⟩
            refine ⟨RN, E2, rules ++ [lits], keepR lits eds, _, _, _, _, _, rfl, ⟨jk9.1.upd nddj, jk9.2.upd_new fdd⟩, ⟨nddj, nNA, nSAj, nRNj, nE2j, upd_same, keep_of kd sd9.hd sd9.hN (by simp), keep_of kd sd9.hd sd9.hS (by simp), ?_, ?_⟩, ⟨good.one, good.three, good.nd, good.nm, good.sz, fun l hl => ?_, ?_, ne', good.eqL⟩, ?_⟩
            · refine ⟨tu ++ [L], by rw [keep_of kd sd9.hd hRN (by simp), List.map_append]; rfl, paired_snoc (Paired.mapP prU9 fun t l ⟨a, b⟩ => ⟨a, lk b⟩) ⟨nLj, lk hL9⟩⟩
            · obtain ⟨tz, a, b⟩ := hE9
              refine ⟨tz, keep_of kd sd9.hd a (by simp), Paired.mapP b fun t r e => ?_⟩
              rcases e with (e | ⟨o, e⟩) | e
              · exact .inl (.inl (keep_of kd sd9.hd e (by simp)))
              · exact .inl (.inr ⟨o, keep_of kd sd9.hd e (by simp)⟩)
              · exact .inr e
            · rcases List.mem_append.mp hl with hl | hl
              · exact good.ls l hl
              · rw [List.mem_singleton.mp hl]
                exact ⟨lq3.1, lq3.2, hv⟩
            · rw [List.foldl_append, ← good.ed]
              rfl
            · rw [List.length_append]
              show _ + 1 ≤ _
              omega
          · refine ⟨RU, RO, rules, eds, _, _, _, _, _, rfl, jk5.new nX, sd5.same jk5.1 sX, good, by omega⟩
    · rintro σ H' ⟨RU, RO, rules, eds, v6, v7, v8, v9, v10, rfl, jkE, sdE, good, lr⟩
      refine ⟨_, rfl, k dd NA SA RU RO H' ks rules eds good (by omega) (jkE.1.mono (by omega)) jkE.2 sdE⟩
end
end K03

namespace K03
open PySem L2
/-! ### the lines of a drawn sheet, plainly -/
def numS (n : Nat) : Str := PySem.Str.ofString (toString ((n : Nat) : Int))
def nameOf (ks : List Key) (i : Nat) : Str := (ks.getD i (Str.empty, 0)).1
def keyLine (k : Key) : Str := ((("key " : Str) ++ k.1) ++ (" " : Str)) ++ numS k.2
def litText (ks : List Key) (l : Lit) : Str := (nameOf ks l.1 ++ (if l.2.1 = true then (" = " : Str) else (" != " : Str))) ++ numS l.2.2
def ruleLine (ks : List Key) (ls : List Lit) : Str := ("rule " : Str) ++ Txt.join (" or " : Str) (ls.map (litText ks))
def drawnL (ks : List Key) (rules : List (List Lit)) : List Str := ks.map keyLine ++ rules.map (ruleLine ks)
def signW (b : Bool) : Str := if b = true then wEq else wNe
def litWords (ks : List Key) (l : Lit) : List Str := [nameOf ks l.1, signW l.2.1, numS l.2.2]
def ruleWords (ks : List Key) : List Lit → List Str
  | [] => [wRule]
  | [a] => wRule :: litWords ks a
  | a :: r => wRule :: (litWords ks a ++ wOr :: (ruleWords ks r).tail)
theorem numS_tx {n : Nat} (h : n < 10) : tx (numS n) = [48 + n] := by
  have e : tx (numS n) = TL.numL n := TL.tl_num n
  rw [e, TL.numL_lt h]
theorem numS_num {n : Nat} (h : n < 10) : numOf (numS n) = some n := (numOf_small h).mpr (numS_tx h)
theorem t_key : TL.tl ("key " : Str) = TL.tl wKey ++ TL.tl blank := by decide +kernel
theorem t_rule : TL.tl ("rule " : Str) = TL.tl wRule ++ TL.tl blank := by decide +kernel
theorem t_b : TL.tl (" " : Str) = TL.tl blank := by decide +kernel
theorem t_or : TL.tl (" or " : Str) = TL.tl blank ++ (TL.tl wOr ++ TL.tl blank) := by decide +kernel
theorem t_eq : TL.tl (" = " : Str) = TL.tl blank ++ (TL.tl wEq ++ TL.tl blank) := by decide +kernel
theorem t_ne : TL.tl (" != " : Str) = TL.tl blank ++ (TL.tl wNe ++ TL.tl blank) := by decide +kernel
theorem key_join (k : Key) : keyLine k = Txt.join blank [wKey, k.1, numS k.2] := by
  refine TL.ext_tl ?_
  rw [TL.join_eq, TL.tl_join]
  unfold keyLine
  rw [TL.tl_append, TL.tl_append, TL.tl_append, t_key, t_b]
  show _ = TL.tl wKey ++ (TL.tl blank ++ (TL.tl k.1 ++ (TL.tl blank ++ TL.tl (numS k.2))))
  simp only [List.append_assoc]
theorem lit_tl (ks : List Key) (l : Lit) : TL.tl (litText ks l) = TL.tl (nameOf ks l.1) ++ (TL.tl blank ++ (TL.tl (signW l.2.1) ++ (TL.tl blank ++ TL.tl (numS l.2.2)))) := by
  unfold litText signW
  rw [TL.tl_append, TL.tl_append]
  cases l.2.1
  · rw [if_neg Bool.false_ne_true, if_neg Bool.false_ne_true, t_ne]
    simp only [List.append_assoc]
  · rw [if_pos rfl, if_pos rfl, t_eq]
    simp only [List.append_assoc]
theorem rule_join {ks : List Key} {ls : List Lit} (h1 : 1 ≤ ls.length) (h3 : ls.length ≤ 3) : ruleLine ks ls = Txt.join blank (ruleWords ks ls) := by
  refine TL.ext_tl ?_
  rw [TL.join_eq, TL.tl_join]
  unfold ruleLine
  rw [TL.tl_append, TL.join_eq, TL.tl_join, t_rule]
  match ls, h1, h3 with
  | [], h, _ => exact absurd h (by decide)
  | [a], _, _ =>
    show _ ++ TL.tl (litText ks a) = TL.tl wRule ++ (TL.tl blank ++ (TL.tl (nameOf ks a.1) ++ (TL.tl blank ++ (TL.tl (signW a.2.1) ++ (TL.tl blank ++ TL.tl (numS a.2.2))))))
    rw [lit_tl]
    simp only [List.append_assoc]
  | [a, b], _, _ =>
    show _ ++ (TL.tl (litText ks a) ++ (TL.tl (" or " : Str) ++ TL.tl (litText ks b))) = TL.tl wRule ++ (TL.tl blank ++ (TL.tl (nameOf ks a.1) ++ (TL.tl blank ++ (TL.tl (signW a.2.1) ++ (TL.tl blank ++ (TL.tl (numS a.2.2) ++ (TL.tl blank ++ (TL.tl wOr ++ (TL.tl blank ++ (TL.tl (nameOf ks b.1) ++ (TL.tl blank ++ (TL.tl (signW b.2.1) ++ (TL.tl blank ++ TL.tl (numS b.2.2))))))))))))))
    rw [lit_tl, lit_tl, t_or]
    simp only [List.append_assoc]
  | [a, b, c], _, _ =>
    show _ ++ (TL.tl (litText ks a) ++ (TL.tl (" or " : Str) ++ (TL.tl (litText ks b) ++ (TL.tl (" or " : Str) ++ TL.tl (litText ks c))))) = TL.tl wRule ++ (TL.tl blank ++ (TL.tl (nameOf ks a.1) ++ (TL.tl blank ++ (TL.tl (signW a.2.1) ++ (TL.tl blank ++ (TL.tl (numS a.2.2) ++ (TL.tl blank ++ (TL.tl wOr ++ (TL.tl blank ++ (TL.tl (nameOf ks b.1) ++ (TL.tl blank ++ (TL.tl (signW b.2.1) ++ (TL.tl blank ++ (TL.tl (numS b.2.2)
      ++ (TL.tl blank ++ (TL.tl wOr ++ (TL.tl blank ++ (TL.tl (nameOf ks c.1) ++ (TL.tl blank ++ (TL.tl (signW c.2.1) ++ (TL.tl blank ++ TL.tl (numS c.2.2))))))))))))))))))))))
    rw [lit_tl, lit_tl, lit_tl, t_or]
    simp only [List.append_assoc]
  | _ :: _ :: _ :: _ :: _, _, h => exact absurd h (by simp only [List.length_cons]; omega)
/-- no blank, no line feed, plain signs -/
def Plain (z : Str) : Prop := ∀ c ∈ TL.tl z, 33 ≤ c ∧ c < 128
theorem plain_lit {z : Str} (h : (TL.tl z).all (fun c => decide (33 ≤ c ∧ c < 128)) = true) : Plain z := fun c hc => of_decide_eq_true (List.all_eq_true.mp h c hc)
theorem plain_nm {z : Str} (h : IsNm z) : Plain z := fun c hc => by
  have := h.low c hc
  exact ⟨by have := this.1; omega, by have := this.2; omega⟩
theorem plain_num {n : Nat} (h : n < 10) : Plain (numS n) := fun c hc => by
  have hc' : c ∈ tx (numS n) := hc
  rw [numS_tx h] at hc'
  rw [List.mem_singleton.mp hc']
  omega
structure LitOk (ks : List Key) (l : Lit) : Prop where
  at_ : ∃ k, ks[l.1]? = some k ∧ l.2.2 < k.2 ∧ IsNm k.1 ∧ k.2 ≤ 3
theorem plain_litw {ks : List Key} {l : Lit} (h : LitOk ks l) : ∀ p ∈ litWords ks l, Plain p := by
  obtain ⟨k, e, lt, nm, k3⟩ := h.at_
  have en : nameOf ks l.1 = k.1 := by
    unfold nameOf
    rw [List.getD_eq_getElem?_getD, e]
    rfl
  intro p hp
  unfold litWords at hp
  simp only [List.mem_cons, List.not_mem_nil, or_false] at hp
  rcases hp with rfl | rfl | rfl
  · rw [en]
    exact plain_nm nm
  · unfold signW
    split
    · exact plain_lit (by decide +kernel)
    · exact plain_lit (by decide +kernel)
  · exact plain_num (by omega)
theorem plain_rulew {ks : List Key} : ∀ {ls : List Lit}, (∀ l ∈ ls, LitOk ks l) → ∀ p ∈ ruleWords ks ls, Plain p
  | [], _, p, hp => by
    have e : p = wRule := List.mem_singleton.mp hp
    rw [e]
    exact plain_lit (by decide +kernel)
  | [a], h, p, hp => by
    rcases List.mem_cons.mp (show p ∈ wRule :: litWords ks a from hp) with e | hp
    · rw [e]
      exact plain_lit (by decide +kernel)
    · exact plain_litw (h a (by simp)) p hp
  | a :: b :: r, h, p, hp => by
    rcases List.mem_cons.mp (show p ∈ wRule :: (litWords ks a ++ wOr :: (ruleWords ks (b :: r)).tail) from hp) with e | hp
    · rw [e]
      exact plain_lit (by decide +kernel)
    · rcases List.mem_append.mp hp with hp | hp
      · exact plain_litw (h a (by simp)) p hp
      · rcases List.mem_cons.mp hp with e | hp
        · rw [e]
          exact plain_lit (by decide +kernel)
        · exact plain_rulew (ls := b :: r) (fun l hl => h l (List.mem_cons_of_mem _ hl)) p (List.mem_of_mem_tail hp)
theorem words_of_join {ps : List Str} (ne : ps ≠ []) (h : ∀ p ∈ ps, Plain p) : wordsOf (Txt.join blank ps) = ps := by
  unfold wordsOf
  refine TL.split_join (s := 32) (S := []) (by decide +kernel) (by decide +kernel) ne fun p hp hc => ?_
  have := (h p hp 32 hc).1
  omega
theorem key_words {k : Key} (nm : IsNm k.1) (k3 : k.2 ≤ 3) : wordsOf (keyLine k) = [wKey, k.1, numS k.2] := by
  rw [key_join]
  refine words_of_join (by simp) fun p hp => ?_
  simp only [List.mem_cons, List.not_mem_nil, or_false] at hp
  rcases hp with rfl | rfl | rfl
  · exact plain_lit (by decide +kernel)
  · exact plain_nm nm
  · exact plain_num (by omega)
theorem key_read {k : Key} (nm : IsNm k.1) (h : k.2 = 2 ∨ k.2 = 3) : keyOf (wordsOf (keyLine k)) = some k := by
  rw [key_words nm (by omega)]
  have e := numS_num (show k.2 < 10 by omega)
  show (if wKey = wKey ∧ nameB k.1 = true ∧ (numOf (numS k.2) = some 2 ∨ numOf (numS k.2) = some 3) then some (k.1, if numOf (numS k.2) = some 2 then 2 else 3) else none) = some k
  rw [if_pos ⟨rfl, nameB_of nm, by rw [e]; rcases h with h | h <;> rw [h] <;> simp⟩, e]
  obtain ⟨a, b⟩ := k
  rcases h with h | h
  · have h' : b = 2 := h
    rw [h', if_pos rfl]
  · have h' : b = 3 := h
    rw [h', if_neg (by simp)]
theorem ruleWords_ne (ks : List Key) : ∀ ls : List Lit, ruleWords ks ls ≠ []
  | [] => by simp [ruleWords]
  | [_] => by simp [ruleWords]
  | _ :: _ :: _ => by simp [ruleWords]
theorem rule_words {ks : List Key} {ls : List Lit} (h1 : 1 ≤ ls.length) (h3 : ls.length ≤ 3) (h : ∀ l ∈ ls, LitOk ks l) : wordsOf (ruleLine ks ls) = ruleWords ks ls := by
  rw [rule_join h1 h3]
  exact words_of_join (ruleWords_ne ks ls) (plain_rulew h)
theorem idxS_nodup : ∀ {ks : List Key} {i : Nat} {k : Key}, (ks.map (fun q : Key => q.1)).Nodup → ks[i]? = some k → idxS k.1 ks = i
  | [], i, k, _, e => nomatch e
  | k0 :: r, 0, k, _, e => by
    cases e
    unfold idxS
    rw [if_pos rfl]
  | k0 :: r, i + 1, k, nd, e => by
    have nd' := List.nodup_cons.mp nd
    have hm : k.1 ∈ r.map (fun q : Key => q.1) := List.mem_map_of_mem (List.mem_of_getElem? (show r[i]? = some k from e))
    unfold idxS
    rw [if_neg (fun q => nd'.1 (by show k0.1 ∈ _; rw [q]; exact hm)), idxS_nodup nd'.2 (show r[i]? = some k from e)]
theorem lit_read {ks : List Key} {l : Lit} (nd : (ks.map (fun q : Key => q.1)).Nodup) (h : LitOk ks l) : litOf ks (nameOf ks l.1) (signW l.2.1) (numS l.2.2) = some l := by
  obtain ⟨k, e, lt, nm, k3⟩ := h.at_
  have en : nameOf ks l.1 = k.1 := by
    unfold nameOf
    rw [List.getD_eq_getElem?_getD, e]
    rfl
  have ei := idxS_nodup nd e
  have hs : signW l.2.1 = wEq ∨ signW l.2.1 = wNe := by
    unfold signW
    split
    · exact .inl rfl
    · exact .inr rfl
  have hd : decide (signW l.2.1 = wEq) = l.2.1 := by
    unfold signW
    cases l.2.1
    · exact decide_eq_false (by decide +kernel)
    · exact decide_eq_true rfl
  have hm : k.1 ∈ ks.map (·.1) := List.mem_map_of_mem (List.mem_of_getElem? e)
  unfold litOf
  rw [en, if_pos ⟨hm, hs⟩, numS_num (by omega), ei, hd]
  show (if l.2.2 < (ks.getD l.1 (k.1, 0)).2 then some (l.1, l.2.1, l.2.2) else none) = some l
  rw [List.getD_eq_getElem?_getD, e]
  exact if_pos lt
theorem f4 (a b c : Str) : formB [wRule, a, b, c] = true := by
  unfold formB orsB ors
  show (decide (some wRule = some wRule) && (decide (4 = 4 ∨ 4 = 8 ∨ 4 = 12) && ((List.range (4 / 4 - 1)).map fun i => [wRule, a, b, c].getD (4 * i + 4) Str.empty).all fun y => decide (y = wOr))) = true
  rw [decide_eq_true rfl, show List.range (4 / 4 - 1) = [] from rfl]
  rfl
theorem f8 (a b c d e f : Str) : formB [wRule, a, b, c, wOr, d, e, f] = true := by
  unfold formB orsB ors
  show (decide (some wRule = some wRule) && (decide (8 = 4 ∨ 8 = 8 ∨ 8 = 12) && ((List.range (8 / 4 - 1)).map fun i => [wRule, a, b, c, wOr, d, e, f].getD (4 * i + 4) Str.empty).all fun y => decide (y = wOr))) = true
  rw [decide_eq_true rfl, show List.range (8 / 4 - 1) = [0] from rfl]
  show (true && (true && (decide (wOr = wOr) && true))) = true
  rw [decide_eq_true rfl]
  rfl
theorem f12 (a b c d e f g h i : Str) : formB [wRule, a, b, c, wOr, d, e, f, wOr, g, h, i] = true := by
  unfold formB orsB ors
  show (decide (some wRule = some wRule) && (decide (12 = 4 ∨ 12 = 8 ∨ 12 = 12) && ((List.range (12 / 4 - 1)).map fun i' => [wRule, a, b, c, wOr, d, e, f, wOr, g, h, i].getD (4 * i' + 4) Str.empty).all fun y => decide (y = wOr))) = true
  rw [decide_eq_true rfl, show List.range (12 / 4 - 1) = [0, 1] from rfl]
  show (true && (true && (decide (wOr = wOr) && (decide (wOr = wOr) && true)))) = true
  rw [decide_eq_true rfl]
  rfl
theorem o4 (ks : List Key) (w a b c : Str) : litsOs ks [w, a, b, c] = [litOf ks a b c] := by
  unfold litsOs
  show (List.range (4 / 4)).map (tripL ks [w, a, b, c]) = _
  rw [show List.range (4 / 4) = [0] from rfl]
  rfl
theorem o8 (ks : List Key) (w a b c o d e f : Str) : litsOs ks [w, a, b, c, o, d, e, f] = [litOf ks a b c, litOf ks d e f] := by
  unfold litsOs
  show (List.range (8 / 4)).map (tripL ks [w, a, b, c, o, d, e, f]) = _
  rw [show List.range (8 / 4) = [0, 1] from rfl]
  rfl
theorem o12 (ks : List Key) (w a b c o d e f o' g h i : Str) : litsOs ks [w, a, b, c, o, d, e, f, o', g, h, i] = [litOf ks a b c, litOf ks d e f, litOf ks g h i] := by
  unfold litsOs
  show (List.range (12 / 4)).map (tripL ks [w, a, b, c, o, d, e, f, o', g, h, i]) = _
  rw [show List.range (12 / 4) = [0, 1, 2] from rfl]
  rfl
theorem w4 (ks : List Key) (a : Lit) : ruleWords ks [a] = [wRule, nameOf ks a.1, signW a.2.1, numS a.2.2] := by
  simp only [ruleWords, litWords]
theorem w8 (ks : List Key) (a b : Lit) : ruleWords ks [a, b] = [wRule, nameOf ks a.1, signW a.2.1, numS a.2.2, wOr, nameOf ks b.1, signW b.2.1, numS b.2.2] := by
  simp only [ruleWords, litWords, List.tail_cons, List.cons_append, List.nil_append]
theorem w12 (ks : List Key) (a b c : Lit) : ruleWords ks [a, b, c] = [wRule, nameOf ks a.1, signW a.2.1, numS a.2.2, wOr, nameOf ks b.1, signW b.2.1, numS b.2.2, wOr, nameOf ks c.1, signW c.2.1, numS c.2.2] := by
  simp only [ruleWords, litWords, List.tail_cons, List.cons_append, List.nil_append]
theorem rule_read {ks : List Key} {ls : List Lit} (nd : (ks.map (fun q : Key => q.1)).Nodup) (h1 : 1 ≤ ls.length) (h3 : ls.length ≤ 3) (h : ∀ l ∈ ls, LitOk ks l) : litsIn ks (ruleLine ks ls) = ls := by
  unfold litsIn
  rw [rule_words h1 h3 h]
  match ls, h1, h3, h with
  | [], q, _, _ => exact absurd q (by decide)
  | [a], _, _, h =>
    have ra := lit_read nd (h a (by simp))
    unfold litsOf
    rw [w4, if_pos (f4 ..), o4, ra, if_neg (by simp)]
    rfl
  | [a, b], _, _, h =>
    have ra := lit_read nd (h a (by simp))
    have rb := lit_read nd (h b (by simp))
    unfold litsOf
    rw [w8, if_pos (f8 ..), o8, ra, rb, if_neg (by simp)]
    rfl
  | [a, b, c], _, _, h =>
    have ra := lit_read nd (h a (by simp))
    have rb := lit_read nd (h b (by simp))
    have rc := lit_read nd (h c (by simp))
    unfold litsOf
    rw [w12, if_pos (f12 ..), o12, ra, rb, rc, if_neg (by simp)]
    rfl
  | _ :: _ :: _ :: _ :: _, _, q, _ => exact absurd q (by simp only [List.length_cons]; omega)
theorem rule_nokey {ks : List Key} {ls : List Lit} (h1 : 1 ≤ ls.length) (h3 : ls.length ≤ 3) (h : ∀ l ∈ ls, LitOk ks l) : keyOf (wordsOf (ruleLine ks ls)) = none := by
  rw [rule_words h1 h3 h]
  have hd : ∃ r, ruleWords ks ls = wRule :: r := by
    match ls with
    | [] => exact ⟨_, rfl⟩
    | [_] => exact ⟨_, rfl⟩
    | _ :: _ :: _ => exact ⟨_, rfl⟩
  obtain ⟨r, e⟩ := hd
  rw [e]
  unfold keyOf
  split
  · rename_i q
    refine if_neg fun z => ?_
    have e2 := (List.cons.inj q).1
    have : wRule = wKey := by rw [e2]; exact z.1
    exact absurd this (by decide +kernel)
  · rfl
theorem keys_read {rs : List Str} (hr : ∀ l ∈ rs, keyOf (wordsOf l) = none) : ∀ {ks acc : List Key} {m : Nat}, ks.length ≤ m → ((acc ++ ks).map (fun q : Key => q.1)).Nodup → (∀ k ∈ ks, IsNm k.1 ∧ (k.2 = 2 ∨ k.2 = 3)) → keysOf acc ((ks.map keyLine ++ rs).take m) = acc ++ ks
  | [], acc, m, _, _, _ => by
    rw [List.append_nil]
    show keysOf acc (rs.take m) = acc
    cases e : rs.take m with
    | nil => rfl
    | cons l r =>
      have hl : l ∈ rs := List.mem_of_mem_take (by rw [e]; exact List.mem_cons_self)
      show (match keyOf (wordsOf l) with | none => acc | some p => if p.1 ∈ acc.map (fun q : Key => q.1) then acc else keysOf (acc ++ [p]) r) = acc
      rw [hr l hl]
  | k :: ks, acc, 0, h, _, _ => absurd h (by simp)
  | k :: ks, acc, m + 1, h, nd, hk => by
    have hkk := hk k List.mem_cons_self
    show (match keyOf (wordsOf (keyLine k)) with | none => acc | some p => if p.1 ∈ acc.map (fun q : Key => q.1) then acc else keysOf (acc ++ [p]) ((ks.map keyLine ++ rs).take m)) = acc ++ k :: ks
    rw [key_read hkk.1 hkk.2]
    show (if k.1 ∈ acc.map (fun q : Key => q.1) then acc else keysOf (acc ++ [k]) ((ks.map keyLine ++ rs).take m)) = acc ++ k :: ks
    have nd2 : ((acc ++ [k] ++ ks).map (fun q : Key => q.1)).Nodup := by
      rw [List.append_assoc]
      exact nd
    have nm : k.1 ∉ acc.map (fun q : Key => q.1) := fun q => by
      rw [List.map_append, List.nodup_append] at nd
      exact nd.2.2 k.1 q k.1 (by simp) rfl
    rw [if_neg nm, keys_read hr (ks := ks) (acc := acc ++ [k]) (m := m) (by simpa using h) nd2 fun x hx => hk x (List.mem_cons_of_mem _ hx), List.append_assoc]
    rfl
theorem fold_nil : ∀ (rules : List (List Lit)), rules.foldl (fun e l => keepR l e) ([] : List (List Nat)) = []
  | [] => rfl
  | l :: rs => by
    rw [List.foldl_cons]
    exact fold_nil rs
theorem rules_read {ks : List Key} (nd : (ks.map (fun q : Key => q.1)).Nodup) : ∀ {rules : List (List Lit)} {k : Nat} {acc : List RuleL} {e0 : List (List Nat)}, acc.length + rules.length ≤ 4 → (∀ ls ∈ rules, 1 ≤ ls.length ∧ ls.length ≤ 3 ∧ ∀ l ∈ ls, LitOk ks l) → rules.foldl (fun e l => keepR l e) e0 ≠ [] →
    rulesOf ks k acc e0 (rules.map (ruleLine ks)) = .inr (acc ++ rules.map (fun ls => (ruleLine ks ls, ls)), rules.foldl (fun e l => keepR l e) e0)
  | [], k, acc, e0, _, _, _ => by
    show Sum.inr (acc, e0) = Sum.inr (acc ++ [], e0)
    rw [List.append_nil]
  | ls :: rs, k, acc, e0, h4, h, ne => by
    obtain ⟨h1, h3, hl⟩ := h ls List.mem_cons_self
    have rr := rule_read nd h1 h3 hl
    rw [List.length_cons] at h4
    show (if acc.length = 4 ∨ litsIn ks (ruleLine ks ls) = [] ∨ keepR (litsIn ks (ruleLine ks ls)) e0 = [] then Sum.inl k else rulesOf ks (k + 1) (acc ++ [(ruleLine ks ls, litsIn ks (ruleLine ks ls))]) (keepR (litsIn ks (ruleLine ks ls)) e0) (rs.map (ruleLine ks))) = _
    rw [rr, List.foldl_cons]
    rw [List.foldl_cons] at ne
    have nk : keepR ls e0 ≠ [] := fun q => ne (by rw [q]; exact fold_nil rs)
    rw [if_neg (fun q => q.elim (fun q => by omega) fun q => q.elim (fun q => by rw [q] at h1; exact absurd h1 (by decide)) nk)]
    rw [rules_read nd (rules := rs) (by rw [List.length_append]; show acc.length + 1 + rs.length ≤ 4; omega) (fun x hx => h x (List.mem_cons_of_mem _ hx)) ne, List.append_assoc]
    rfl
theorem good_lits {ks : List Key} {rules : List (List Lit)} {eds : List (List Nat)} (g : Good ks rules eds) : ∀ ls ∈ rules, 1 ≤ ls.length ∧ ls.length ≤ 3 ∧ ∀ l ∈ ls, LitOk ks l := fun ls hls => by
  obtain ⟨a, b, c⟩ := g.ls ls hls
  refine ⟨a, b, fun l hl => ⟨?_⟩⟩
  obtain ⟨k, e, lt⟩ := c l hl
  have hk := List.mem_of_getElem? e
  exact ⟨k, e, lt, g.nm k hk, by have := g.sz k hk; omega⟩
/-! ### joined by line feeds -/
def joined (ls : List Str) : Str := Txt.join nl ls
theorem key_ok {k : Key} (nm : IsNm k.1) (k3 : k.2 ≤ 3) : (keyLine k).length ≤ 60 ∧ Asc (keyLine k) ∧ 10 ∉ TL.tl (keyLine k) := by
  have all : ∀ c ∈ TL.tl (keyLine k), 32 ≤ c ∧ c < 128 := fun c hc => by
    unfold keyLine at hc
    rw [TL.tl_append, TL.tl_append, TL.tl_append] at hc
    simp only [List.mem_append] at hc
    rcases hc with ((hc | hc) | hc) | hc
    · exact of_decide_eq_true (List.all_eq_true.mp (show (TL.tl ("key " : Str)).all (fun c => decide (32 ≤ c ∧ c < 128)) = true by decide +kernel) c hc)
    · have := plain_nm nm c hc
      omega
    · exact of_decide_eq_true (List.all_eq_true.mp (show (TL.tl (" " : Str)).all (fun c => decide (32 ≤ c ∧ c < 128)) = true by decide +kernel) c hc)
    · have := plain_num (show k.2 < 10 by omega) c hc
      omega
  refine ⟨?_, fun c hc => (all c hc).2, fun hc => by have := (all 10 hc).1; omega⟩
  unfold keyLine
  rw [Str.length_append, Str.length_append, Str.length_append]
  have l4 : ("key " : Str).length = 4 := by decide +kernel
  have l1 : (" " : Str).length = 1 := by decide +kernel
  have ln := nm.len
  have ls : (numS k.2).length = 1 := by
    rw [TL.len_tl, show TL.tl (numS k.2) = tx (numS k.2) from rfl, numS_tx (by omega)]
    rfl
  omega
theorem lit_len {ks : List Key} {l : Lit} (h : LitOk ks l) : (litText ks l).length ≤ 13 ∧ ∀ c ∈ TL.tl (litText ks l), 32 ≤ c ∧ c < 128 := by
  obtain ⟨k, e, lt, nm, k3⟩ := h.at_
  have en : nameOf ks l.1 = k.1 := by
    unfold nameOf
    rw [List.getD_eq_getElem?_getD, e]
    rfl
  have ls : (numS l.2.2).length = 1 := by
    rw [TL.len_tl, show TL.tl (numS l.2.2) = tx (numS l.2.2) from rfl, numS_tx (by omega)]
    rfl
  have lsg : (if l.2.1 = true then (" = " : Str) else (" != " : Str)).length ≤ 4 ∧ ∀ c ∈ TL.tl (if l.2.1 = true then (" = " : Str) else (" != " : Str)), 32 ≤ c ∧ c < 128 := by
    split
    · exact ⟨by decide +kernel, fun c hc => of_decide_eq_true (List.all_eq_true.mp (show (TL.tl (" = " : Str)).all (fun c => decide (32 ≤ c ∧ c < 128)) = true by decide +kernel) c hc)⟩
    · exact ⟨by decide +kernel, fun c hc => of_decide_eq_true (List.all_eq_true.mp (show (TL.tl (" != " : Str)).all (fun c => decide (32 ≤ c ∧ c < 128)) = true by decide +kernel) c hc)⟩
  constructor
  · unfold litText
    rw [Str.length_append, Str.length_append, en]
    have := nm.len
    omega
  · intro c hc
    unfold litText at hc
    rw [TL.tl_append, TL.tl_append, en] at hc
    simp only [List.mem_append] at hc
    rcases hc with (hc | hc) | hc
    · have := plain_nm nm c hc
      omega
    · exact lsg.2 c hc
    · have := plain_num (show l.2.2 < 10 by omega) c hc
      omega
theorem rule_ok {ks : List Key} {ls : List Lit} (h1 : 1 ≤ ls.length) (h3 : ls.length ≤ 3) (h : ∀ l ∈ ls, LitOk ks l) : (ruleLine ks ls).length ≤ 60 ∧ Asc (ruleLine ks ls) ∧ 10 ∉ TL.tl (ruleLine ks ls) := by
  have l5 : ("rule " : Str).length = 5 := by decide +kernel
  have l4 : (TL.tl (" or " : Str)).length = 4 := by decide +kernel
  have lens : ∀ l ∈ ls, (TL.tl (litText ks l)).length ≤ 13 := fun l hl => by
    have := (lit_len (h l hl)).1
    rw [TL.len_tl] at this
    exact this
  have inor : ∀ c ∈ TL.tl (" or " : Str), 32 ≤ c ∧ c < 128 := fun c hc => of_decide_eq_true (List.all_eq_true.mp (show (TL.tl (" or " : Str)).all (fun c => decide (32 ≤ c ∧ c < 128)) = true by decide +kernel) c hc)
  have inr : ∀ c ∈ TL.tl ("rule " : Str), 32 ≤ c ∧ c < 128 := fun c hc => of_decide_eq_true (List.all_eq_true.mp (show (TL.tl ("rule " : Str)).all (fun c => decide (32 ≤ c ∧ c < 128)) = true by decide +kernel) c hc)
  have e : TL.tl (ruleLine ks ls) = TL.tl ("rule " : Str) ++ TL.joinL (TL.tl (" or " : Str)) ((ls.map (litText ks)).map TL.tl) := by
    unfold ruleLine
    rw [TL.tl_append, TL.join_eq, TL.tl_join]
  have main : (TL.tl (ruleLine ks ls)).length ≤ 60 ∧ ∀ c ∈ TL.tl (ruleLine ks ls), 32 ≤ c ∧ c < 128 := by
    rw [e]
    have l5' : (TL.tl ("rule " : Str)).length = 5 := by decide +kernel
    match ls, h1, h3, h, lens with
    | [], q, _, _, _ => exact absurd q (by decide)
    | [a], _, _, h, lens =>
      have la := lens a (by simp)
      have ca := (lit_len (h a (by simp))).2
      refine ⟨?_, fun c hc => ?_⟩
      · show (TL.tl ("rule " : Str) ++ TL.tl (litText ks a)).length ≤ 60
        rw [List.length_append]
        omega
      · rcases List.mem_append.mp (show c ∈ TL.tl ("rule " : Str) ++ TL.tl (litText ks a) from hc) with hc | hc
        · exact inr c hc
        · exact ca c hc
    | [a, b], _, _, h, lens =>
      have la := lens a (by simp)
      have ca := (lit_len (h a (by simp))).2
      have lb := lens b (by simp)
      have cb := (lit_len (h b (by simp))).2
      refine ⟨?_, fun c hc => ?_⟩
      · show (TL.tl ("rule " : Str) ++ (TL.tl (litText ks a) ++ (TL.tl (" or " : Str) ++ TL.tl (litText ks b)))).length ≤ 60
        rw [List.length_append, List.length_append, List.length_append]
        omega
      · have hc' : c ∈ TL.tl ("rule " : Str) ++ (TL.tl (litText ks a) ++ (TL.tl (" or " : Str) ++ TL.tl (litText ks b))) := hc
        simp only [List.mem_append] at hc'
        rcases hc' with hc | hc | hc | hc
        · exact inr c hc
        · exact ca c hc
        · exact inor c hc
        · exact cb c hc
    | [a, b, d], _, _, h, lens =>
      have la := lens a (by simp)
      have ca := (lit_len (h a (by simp))).2
      have lb := lens b (by simp)
      have cb := (lit_len (h b (by simp))).2
      have ld := lens d (by simp)
      have cd := (lit_len (h d (by simp))).2
      refine ⟨?_, fun c hc => ?_⟩
      · show (TL.tl ("rule " : Str) ++ (TL.tl (litText ks a) ++ (TL.tl (" or " : Str) ++ (TL.tl (litText ks b) ++ (TL.tl (" or " : Str) ++ TL.tl (litText ks d)))))).length ≤ 60
        rw [List.length_append, List.length_append, List.length_append, List.length_append, List.length_append]
        omega
      · have hc' : c ∈ TL.tl ("rule " : Str) ++ (TL.tl (litText ks a) ++ (TL.tl (" or " : Str) ++ (TL.tl (litText ks b) ++ (TL.tl (" or " : Str) ++ TL.tl (litText ks d))))) := hc
        simp only [List.mem_append] at hc'
        rcases hc' with hc | hc | hc | hc | hc | hc
        · exact inr c hc
        · exact ca c hc
        · exact inor c hc
        · exact cb c hc
        · exact inor c hc
        · exact cd c hc
    | _ :: _ :: _ :: _ :: _, _, q, _, _ => exact absurd q (by simp only [List.length_cons]; omega)
  refine ⟨?_, fun c hc => (main.2 c hc).2, fun hc => by have := (main.2 10 hc).1; omega⟩
  rw [TL.len_tl]
  exact main.1
theorem drawn_ok {ks : List Key} {rules : List (List Lit)} {eds : List (List Nat)} (g : Good ks rules eds) : ∀ l ∈ drawnL ks rules, l.length ≤ 60 ∧ Asc l ∧ 10 ∉ TL.tl l := fun l hl => by
  rcases List.mem_append.mp hl with hl | hl
  · obtain ⟨k, hk, rfl⟩ := List.mem_map.mp hl
    exact key_ok (g.nm k hk) (by have := g.sz k hk; omega)
  · obtain ⟨ls, hls, rfl⟩ := List.mem_map.mp hl
    obtain ⟨a, b, c⟩ := good_lits g ls hls
    exact rule_ok a b c
theorem drawn_len {ks : List Key} {rules : List (List Lit)} : (drawnL ks rules).length = ks.length + rules.length := by
  unfold drawnL
  rw [List.length_append, List.length_map, List.length_map]
theorem drawn_lines {ks : List Key} {rules : List (List Lit)} {eds : List (List Nat)} (g : Good ks rules eds) : linesOf (joined (drawnL ks rules)) = drawnL ks rules := by
  unfold linesOf joined
  refine TL.split_join (s := 10) (S := []) (by decide +kernel) (by decide +kernel) (fun e => ?_) fun p hp => (drawn_ok g p hp).2.2
  have l := drawn_len (ks := ks) (rules := rules)
  rw [e] at l
  have := g.one
  simp only [List.length_nil] at l
  omega
theorem drawn_read {ks : List Key} {rules : List (List Lit)} {eds : List (List Nat)} (g : Good ks rules eds) (r4 : rules.length ≤ 4) : readS (joined (drawnL ks rules)) = .inr (ks, rules.map (fun ls => (ruleLine ks ls, ls)), eds) := by
  have hr : ∀ l ∈ rules.map (ruleLine ks), keyOf (wordsOf l) = none := fun l hl => by
    obtain ⟨ls, hls, rfl⟩ := List.mem_map.mp hl
    obtain ⟨a, b, c⟩ := good_lits g ls hls
    exact rule_nokey a b c
  have ek : keysOf [] ((drawnL ks rules).take 3) = ks := keys_read hr (acc := []) (m := 3) g.three g.nd fun k hk => ⟨g.nm k hk, g.sz k hk⟩
  have ed : (drawnL ks rules).drop ks.length = rules.map (ruleLine ks) := by
    unfold drawnL
    have : ks.length = (ks.map keyLine).length := by rw [List.length_map]
    rw [this, List.drop_left]
  have ne : rules.foldl (fun e l => keepR l e) (worthsOf (ks.map (fun q : Key => q.2))) ≠ [] := by
    rw [← g.ed]
    exact g.ne
  have rr := rules_read g.nd (rules := rules) (k := ks.length) (acc := []) (e0 := worthsOf (ks.map (fun q : Key => q.2))) (by simpa using r4) (good_lits g) ne
  unfold readS
  rw [drawn_lines g, ek, ed, rr, ← g.ed]
  rfl
theorem joined_asc {ls : List Str} (h : ∀ l ∈ ls, Asc l) : Asc (joined ls) := by
  intro c hc
  have hc' : c ∈ TL.tl (Txt.join nl ls) := hc
  rw [TL.join_eq, TL.tl_join] at hc'
  have key : ∀ ps : List (List Nat), (∀ p ∈ ps, ∀ c ∈ p, c < 128) → ∀ c ∈ TL.joinL (TL.tl nl) ps, c < 128 := by
    intro ps
    induction ps with
    | nil => exact fun _ c hc => nomatch hc
    | cons p r ih =>
      intro h c hc
      cases r with
      | nil => exact h p List.mem_cons_self c hc
      | cons q t =>
        have hc' : c ∈ p ++ (TL.tl nl ++ TL.joinL (TL.tl nl) (q :: t)) := hc
        rcases List.mem_append.mp hc' with hc' | hc'
        · exact h p List.mem_cons_self c hc'
        · rcases List.mem_append.mp hc' with hc' | hc'
          · have e : TL.tl nl = [10] := by decide +kernel
            rw [e] at hc'
            rw [List.mem_singleton.mp hc']
            decide
          · exact ih (fun u hu => h u (List.mem_cons_of_mem _ hu)) c hc'
  refine key _ (fun p hp => ?_) c hc'
  (obtain ⟨q, hq, rfl⟩ := List.mem_map.mp hp)
  exact h q hq
theorem joined_len {ls : List Str} {m n : Nat} (hl : ls.length ≤ n) (h : ∀ l ∈ ls, l.length ≤ m) : (joined ls).length ≤ n * (m + 1) := by
  have e : (joined ls).length = (TL.joinL (TL.tl nl) (ls.map TL.tl)).length := by
    rw [← TL.tl_join, ← TL.join_eq]
    show (Txt.join nl ls).cps.size = (Txt.join nl ls).cps.toList.length
    simp
  have key : ∀ ps : List (List Nat), (∀ p ∈ ps, p.length ≤ m) → (TL.joinL (TL.tl nl) ps).length ≤ ps.length * (m + 1) := by
    intro ps
    induction ps with
    | nil => exact fun _ => Nat.zero_le _
    | cons p r ih =>
      intro h
      cases r with
      | nil =>
        have := h p List.mem_cons_self
        show p.length ≤ 1 * (m + 1)
        omega
      | cons q t =>
        have a := h p List.mem_cons_self
        have b := ih fun u hu => h u (List.mem_cons_of_mem _ hu)
        have en : (TL.tl nl).length = 1 := by decide +kernel
        show (p ++ (TL.tl nl ++ TL.joinL (TL.tl nl) (q :: t))).length ≤ ((q :: t).length + 1) * (m + 1)
        rw [List.length_append, List.length_append, en, Nat.add_mul]
        omega
  rw [e]
  refine Nat.le_trans (key _ fun p hp => ?_) ?_
  · obtain ⟨q, hq, rfl⟩ := List.mem_map.mp hp
    have := h q hq
    have e2 : (TL.tl q).length = q.length := by
      show q.cps.toList.length = q.cps.size
      simp
    omega
  · rw [List.length_map]
    exact Nat.mul_le_mul_right _ hl
end K03

namespace K03
open PySem L2
abbrev sSLines : Stmt := top 57
theorem sum_le {m : Nat} : ∀ {xs : List Str}, (∀ x ∈ xs, x.length ≤ m) → (xs.map (fun x : Str => x.length)).sum ≤ xs.length * m
  | [], _ => Nat.zero_le _
  | x :: xs, h => by
    have a := h x List.mem_cons_self
    have b := sum_le (xs := xs) fun y hy => h y (List.mem_cons_of_mem _ hy)
    rw [List.map_cons, List.sum_cons, List.length_cons, Nat.add_mul]
    omega
section
variable {base : Heap} {P : Program} {w : World} {K : PySem.W.Frag} {mg : Str → Option Value}
def spDrawn (K : PySem.W.Frag) : Sp := fun vs H Q _ => ∃ (j d NA SA RU RO : Addr) (n : Nat) (ks : List Key) (rules : List (List Lit)) (eds : List (List Nat)), vs = [.ref d] ∧ Jar H j n ∧ SD K H j d NA SA RU RO ks rules eds ∧ Good ks rules eds ∧ rules.length ≤ 4 ∧
  ∀ H' p, Same H H' → H p = none → H' p = some (.lst ((drawnL ks rules).map V.str)) → Q (.ref p) H'
abbrev nSLines : List Str := ["_law_sheet_here", "_law_found", "_law_lits", "_law_some", "_law_place", "_law_is_equal", "_law_worth", "_law_name", "_law_size"]
theorem scSLines : FnScope nSLines ["_law_sheet_here"] (defScope sSLines) := ⟨rfl, rfl, rfl, by decide +kernel, rfl, by decide +kernel, by decide +kernel⟩
theorem ok_slines {f : Addr} {fd : FuncData} (F : Fun K "_law_sheet_lines" "_law_sheet_lines" sSLines f fd) (T : Txt7 K mg) : FnOk P w K mg base CX0 1 f fd ["_law_sheet_here"] (spDrawn K) := by
  refine F.ok scSLines (fun vs H Q E h => ?_) (fun cdv A outer s H vs Q E hr h => ?_)
  · obtain ⟨j, d, NA, SA, RU, RO, n, ks, rules, eds, rfl, _⟩ := h
    rfl
  · obtain ⟨j, d, NA, SA, RU, RO, n, ks, rules, eds, rfl, hj, sd, g, r4, k⟩ := h
    refine ⟨_, pss_cons (ps_setLc (i := 1) (own := [("_law_name", 7), ("_law_size", 8)]) (g := gTup K 2 (gCons (gName 7) (gCons (gName 8) gNil))) (tt := tYes) rfl scSLines.nd rfl rfl rfl
          (pi_zip (by rfl) T.zip (pa_cons (pe_dget (units1 hr) (pv 0) pe_str (fun _ _ => rfl)) (pa_cons (pe_dget (units1 hr) (pv 0) pe_str (fun _ _ => rfl)) pa_nil)))
          (blkOk_by (N := nSLines) (sc := defScope sSLines) (by decide +kernel)) (fun _ _ _ _ _ => pg_tup rfl (pgs_cons (pg_name (i := 7) scSLines.nd rfl (Or.inl rfl)) (pgs_cons (pg_name (i := 8) scSLines.nd rfl (Or.inl rfl)) pgs_nil))) (fun _ _ _ _ _ => pts_nil)
          (fun _ _ _ _ _ => pe_op op_add_str (pe_op op_add_str (pe_op op_add_str pe_str (pv 7)) pe_str) (pe_callTy call_str_int (by rfl) T.str (by decide +kernel) (pa_cons (pv 8) pa_nil))))
      (pss_cons (ps_for PassesOwn.never rfl (pi_list (pe_dget (units1 hr) (pv 0) pe_str (fun _ _ => rfl))) (pg_name (i := 2) scSLines.nd rfl (.inl rfl))
        (pss_cons (ps_set (i := 3) scSLines.nd rfl (.inl rfl) (pe_lst pa_nil))
        (pss_cons (ps_for PassesOwn.never rfl (pi_list (pv 2)) (pg_tup rfl (pgs_cons (pg_name (i := 4) scSLines.nd rfl (.inl rfl)) (pgs_cons (pg_name (i := 5) scSLines.nd rfl (.inl rfl)) (pgs_cons (pg_name (i := 6) scSLines.nd rfl (.inl rfl)) pgs_nil))))
          (pss_one (ps_expr (pe_bm PySem.F.plainAttrs_list PySem.F.slot_list_append PySem.F.type_list_append mt_append (pv 3) (pa_cons (pe_op op_add_str (pe_op op_add_str (pe_ix ix_list (pe_dget (units1 hr) (pv 0) pe_str (fun _ _ => rfl)) (pv 4) (fun _ _ => rfl))
            (pe_ifExp (pt_val (pv 5)) pe_str pe_str)) (pe_callTy call_str_int (by rfl) T.str (by decide +kernel) (pa_cons (pv 6) pa_nil))) pa_nil)))))
        (pss_one (ps_expr (pe_bm PySem.F.plainAttrs_list PySem.F.slot_list_append PySem.F.type_list_append mt_append (pv 1) (pa_cons (pe_op op_add_str pe_str (pe_join pe_str (pv 3))) pa_nil)))))))
      (pss_one (ps_ret (pv 1)))), ?_⟩
    have sl : (sizeLine : Nat) = 16777216 := sizeLine_eq
    have l4 : ("key " : Str).length = 4 := by decide +kernel
    have l1 : (" " : Str).length = 1 := by decide +kernel
    have lor : (" or " : Str).length = 4 := by decide +kernel
    have lru : ("rule " : Str).length = 5 := by decide +kernel
    have numl : ∀ m : Nat, m < 10 → (numS m).length = 1 := fun m h => by
      rw [TL.len_tl, show TL.tl (numS m) = tx (numS m) from rfl, numS_tx h]
      rfl
    have lgs : ∀ m : Nat, m < 10 → ((m : Nat) : Int).natAbs.log2 < 1920 := fun m h => by
      have : m.log2 ≤ m := Nat.log2_le_self _
      show m.log2 < 1920
      omega
    have lN : (namesV ks).length = ks.length := by
      unfold namesV
      rw [List.length_map]
    have lS : (sizesV ks).length = ks.length := by
      unfold sizesV
      rw [List.length_map]
    have k3 := g.three
    have gl := good_lits g
    dsimp only [tSeq, tAsg, tLc, List.map]
    refine ⟨_, rfl, d, .ref NA, rfl, .inl ⟨_, .inr "names", .inl sd.hd, rfl, rfl⟩, _, rfl, d, .ref SA, rfl, .inl ⟨_, .inr "sizes", .inl sd.hd, rfl, rfl⟩, NA, SA, _, _, rfl, SqL.of sd.hN, SqL.of sd.hS, fun F nF => ?_⟩
    have nFj := hj.ne nF
    refine lc_it (walk_zip (n := ks.length) (by rw [lN, lS]; omega)) (fun i H' => Same H H' ∧ H' F = some (.lst (((ks.take i).map keyLine).map V.str))) ⟨same_upd nF, upd_same⟩ (fun i H' _ z => ⟨SqL.of (z.1 _ _ sd.hN), SqL.of (z.1 _ _ sd.hS)⟩) ?_ ?_
    · rintro i x H1 H2 hi ⟨s1, hF⟩ ⟨T1, x1, x2, rfl, nT, rfl, e1, e2⟩
      obtain ⟨kx, hkx⟩ : ∃ kx, ks[i]? = some kx := ⟨_, List.getElem?_eq_getElem hi⟩
      obtain rfl : V.str kx.1 = x1 := by
        have : (namesV ks)[i]? = some x1 := e1
        unfold namesV at this
        rw [List.getElem?_map, hkx] at this
        exact Option.some.inj this
      obtain rfl : V.int (kx.2 : Int) = x2 := by
        have : (sizesV ks)[i]? = some x2 := e2
        unfold sizesV at this
        rw [List.getElem?_map, hkx] at this
        exact Option.some.inj this
      have hmem := List.mem_of_getElem? hkx
      have sz := g.sz kx hmem
      have nl8 := (g.nm kx hmem).len
      refine ⟨T1, _, rfl, SqT.of upd_same, rfl, .str kx.1, _, rfl, .int (kx.2 : Int), _, rfl, rfl, ?_⟩
      refine ⟨rfl, _, rfl, _, _, rfl, rfl, by omega, _, _, rfl, rfl, by rw [Str.length_append]; omega, _, rfl, _, rfl, lgs kx.2 (by omega), _, _, rfl, rfl, ?_, ?_⟩
      · rw [Str.length_append, Str.length_append]
        have := numl kx.2 (by omega)
        have e : (PySem.Str.ofString (toString ((kx.2 : Nat) : Int))).length = 1 := this
        omega
      · have hF2 := get_new (o := .tup [V.str kx.1, V.int (kx.2 : Int)]) hF nT
        refine ⟨_, hF2, ?_, same_new (s1.trans (same_upd nT)) nF, ?_⟩
        · rw [List.length_map, List.length_map, List.length_take]
          exact small1000 (by omega)
        · rw [upd_same, take_one hkx, List.map_append, List.map_append]
          rfl
    · rintro H1 ⟨s1, hF⟩
      rw [List.take_length] at hF
      dsimp only [gName]
      obtain ⟨tu, hRU, prU⟩ := sd.hU
      have ltu : tu.length = rules.length := Paired.length prU
      refine ⟨_, rfl, d, .ref RU, rfl, .inl ⟨_, .inr "rules", .inl (s1 _ _ sd.hd), rfl, rfl⟩, RU, rfl, ⟨_, SqL.of (s1 _ _ hRU)⟩, for_list (K := K) (xs := tu.map V.ref) (fun i σ H' => ∃ v2 v3 v4 v5 v6 : Option V, σ = [some (.ref d), some (.ref F), v2, v3, v4, v5, v6, none, none] ∧ Same H H' ∧ H' F = some (.lst ((ks.map keyLine ++ (rules.take i).map (ruleLine ks)).map V.str)))
        ⟨none, none, none, none, none, rfl, s1, by rw [List.take_zero, List.map_nil, List.append_nil]; exact hF⟩ (fun i σ H' _ ⟨_, _, _, _, _, _, z, _⟩ => SqL.of (z _ _ hRU)) ?_ ?_⟩
      · rintro i x σ HB hx ⟨v2, v3, v4, v5, v6, rfl, sB, hFB⟩
        rw [List.getElem?_map] at hx
        obtain ⟨t, ht, rfl⟩ := Option.map_eq_some_iff.mp hx
        obtain ⟨ls, hls1, htj, hls2⟩ := paired_get prU ht
        have ilt : i < tu.length := (List.getElem?_eq_some_iff.mp ht).1
        obtain ⟨q1, q3, qk⟩ := gl ls (List.mem_of_getElem? hls1)
        obtain ⟨tl, hL, prL⟩ := hls2
        have ltl : tl.length = ls.length := Paired.length prL
        refine ⟨Nat.zero_le _, fun S nS => ?_⟩
        have sS := same_upd (o := .lst []) nS
        refine ⟨_, rfl, t, rfl, ⟨_, SqL.of ((sB.trans sS) _ _ hL)⟩, for_list (K := K) (xs := tl.map V.ref) (fun q σ H' => ∃ v4 v5 v6 : Option V, σ = [some (.ref d), some (.ref F), some (.ref t), some (.ref S), v4, v5, v6, none, none] ∧ Same HB H' ∧ H' S = some (.lst (((ls.take q).map (litText ks)).map V.str)))
          ⟨_, _, _, rfl, sS, upd_same⟩ (fun q σ H' _ ⟨_, _, _, _, z, _⟩ => SqL.of ((sB.trans z) _ _ hL)) ?_ ?_⟩
        · rintro q x σ HQ hx ⟨v4, v5, v6, rfl, sQ, hS⟩
          rw [List.getElem?_map] at hx
          obtain ⟨u, hu, rfl⟩ := Option.map_eq_some_iff.mp hx
          obtain ⟨l, hl1, hl2⟩ := paired_get prL hu
          have qlt : q < tl.length := (List.getElem?_eq_some_iff.mp hu).1
          have lok := qk l (List.mem_of_getElem? hl1)
          have tlen := (lit_len lok).1
          obtain ⟨kx, hkx, wlt, nm, kx3⟩ := lok.at_
          have sAll := sB.trans sQ
          refine ⟨u, _, rfl, SqT.of (sAll _ _ hl2), rfl, .int (l.1 : Int), _, rfl, .bl l.2.1, _, rfl, .int (l.2.2 : Int), _, rfl, rfl, ?_⟩
          have hat : atI (namesV ks) ((l.1 : Nat) : Int) = some (.str kx.1) := atI_nat (by
            unfold namesV
            rw [List.getElem?_map, hkx]
            rfl)
          have en : nameOf ks l.1 = kx.1 := by
            unfold nameOf
            rw [List.getD_eq_getElem?_getD, hkx]
            rfl
          refine ⟨_, rfl, .inl ⟨rfl, _, SqL.of hS⟩, _, rfl, d, .ref NA, rfl, .inl ⟨_, .inr "names", .inl (sAll _ _ sd.hd), rfl, rfl⟩, _, rfl, NA, _, _, _, rfl, rfl, SqL.of (sAll _ _ sd.hN), hat, ?_⟩
          have fin : ∀ s : Str, s = (if l.2.1 = true then (" = " : Str) else (" != " : Str)) → (∃ i j, V.str kx.1 = .str i ∧ V.str s = .str j ∧ i.length + j.length ≤ sizeLine ∧ ∃ v, ([some (V.ref d), some (V.ref F), some (V.ref t), some (V.ref S), some (.int (l.1 : Int)), some (.bl l.2.1), some (.int (l.2.2 : Int)), none, none] : L2.St)[6]? = some (some v) ∧ v = .int (l.2.2 : Int)) := fun s e => by
            refine ⟨_, _, rfl, rfl, ?_, _, rfl, rfl⟩
            rw [e]
            have := nm.len
            have le : (if l.2.1 = true then (" = " : Str) else (" != " : Str)).length ≤ 4 := by
              split
              · decide +kernel
              · decide +kernel
            omega
          have rest : ∀ s : Str, s = (if l.2.1 = true then (" = " : Str) else (" != " : Str)) → kx.1.length + s.length ≤ sizeLine ∧ (kx.1 ++ s).length + (numS l.2.2).length ≤ sizeLine ∧ (kx.1 ++ s) ++ numS l.2.2 = litText ks l := fun s e => by
            have et : (kx.1 ++ s) ++ numS l.2.2 = litText ks l := by
              unfold litText
              rw [en, e]
            rw [← et, Str.length_append, Str.length_append] at tlen
            rw [Str.length_append]
            exact ⟨by omega, by omega, et⟩
          have done : ∀ s : Str, s = (if l.2.1 = true then (" = " : Str) else (" != " : Str)) → ∃ v4 v5 v6 : Option V, [some (V.ref d), some (V.ref F), some (V.ref t), some (V.ref S), some (.int (l.1 : Int)), some (.bl l.2.1), some (.int (l.2.2 : Int)), none, none] = [some (.ref d), some (.ref F), some (.ref t), some (.ref S), v4, v5, v6, none, none] ∧ Same HB (upd HQ S (.lst (((ls.take q).map (litText ks)).map V.str ++ [V.str ((kx.1 ++ s) ++ numS l.2.2)]))) ∧ (upd HQ S (.lst (((ls.take q).map (litText ks)).map V.str ++ [V.str ((kx.1 ++ s) ++ numS l.2.2)]))) S = some (.lst (((ls.take (q + 1)).map (litText ks)).map V.str)) := fun s e => by
            refine ⟨_, _, _, rfl, same_new sQ nS, ?_⟩
            rw [upd_same, (rest s e).2.2, take_one hl1, List.map_append, List.map_append]
            rfl
          have sm : (((ls.take q).map (litText ks)).map V.str).length < sizeLine := by
            rw [List.length_map, List.length_map, List.length_take]
            exact small1000 (by omega)
          refine ⟨_, rfl, l.2.1, rfl, ?_⟩
          refine ite2 (fun hb => ?_) (fun hb => ?_)
          · have r := rest " = " (by rw [if_pos hb])
            exact ⟨_, _, rfl, rfl, r.1, _, rfl, _, rfl, lgs l.2.2 (by omega), _, _, rfl, rfl, r.2.1, S, _, _, rfl, rfl, hS, sm, done " = " (by rw [if_pos hb])⟩
          · have r := rest " != " (by rw [if_neg hb])
            exact ⟨_, _, rfl, rfl, r.1, _, rfl, _, rfl, lgs l.2.2 (by omega), _, _, rfl, rfl, r.2.1, S, _, _, rfl, rfl, hS, sm, done " != " (by rw [if_neg hb])⟩
        · rintro σ HQ ⟨v4, v5, v6, rfl, sQ, hS⟩
          rw [List.length_map, ltl, List.take_length] at hS
          have hFQ := sQ _ _ hFB
          have rok := (rule_ok q1 q3 qk).1
          have eru : ("rule " : Str) ++ Txt.join (" or " : Str) (ls.map (litText ks)) = ruleLine ks ls := rfl
          refine ⟨_, rfl, .inl ⟨rfl, _, SqL.of hFQ⟩, ⟨_, rfl⟩, _, rfl, _, S, ls.map (litText ks), rfl, rfl, .inl (SqL.of hS), ?_, _, _, rfl, rfl, ?_, F, _, _, rfl, rfl, hFQ, ?_, ?_⟩
          · have b := sum_le (m := 13) (xs := ls.map (litText ks)) fun x hx => by
              obtain ⟨l, hl, rfl⟩ := List.mem_map.mp hx
              exact (lit_len (qk l hl)).1
            rw [List.length_map] at b ⊢
            have e4 : (PySem.Str.ofString " or ").length = 4 := lor
            rw [e4]
            omega
          · rw [← Str.length_append]
            exact Nat.le_trans rok (by decide)
          · rw [List.length_map, List.length_append, List.length_map, List.length_map, List.length_take]
            exact small1000 (by omega)
          · refine ⟨_, _, _, _, _, rfl, same_new (sB.trans sQ) nF, ?_⟩
            rw [upd_same, take_one hls1]
            simp only [List.map_append, List.append_assoc]
            rfl
      · rintro σ HB ⟨v2, v3, v4, v5, v6, rfl, sB, hFB⟩
        rw [List.length_map, ltu, List.take_length] at hFB
        exact ⟨_, rfl, k HB F sB nF hFB⟩
end
end K03

/-! sorted of pairs of a text and an int -/
namespace SVPair
open PySem PySem.Spec PyProof.Rows
def IsSP (h : Heap) (v : Value) (x : Str) (y : Int) : Prop := ∃ a o t u n, v = .ref a ∧ h.get? a = some o ∧ o.cls = .type "tuple" ∧ o.data = .seq #[.str x t, .int y u] n
theorem IsSP.keeps {h h' : Heap} {v : Value} {x : Str} {y : Int} (p : IsSP h v x y) (k : ∀ b o, h.get? b = some o → o.cls = .type "tuple" → h'.get? b = some o) : IsSP h' v x y := by
  obtain ⟨a, o, t, u, n, e, ho, hc, hd⟩ := p
  exact ⟨a, o, t, u, n, e, k _ _ ho hc, hc, hd⟩
abbrev cs (x : Str) : List Nat := x.cps.toList
theorem cs_inj {x y : Str} (h : cs x = cs y) : x = y := TL.ext_tl h
def lexS (p q : Str × Int) : Bool := if p.1 = q.1 then decide (p.2 < q.2) else decide (cs p.1 < cs q.1)
theorem lexS_iff {p q : Str × Int} : lexS p q = true ↔ cs p.1 < cs q.1 ∨ (p.1 = q.1 ∧ p.2 < q.2) := by
  unfold lexS
  by_cases h : p.1 = q.1
  · rw [if_pos h, h, decide_eq_true_eq]
    exact ⟨fun z => .inr ⟨rfl, z⟩, fun z => z.elim (fun y => absurd y (List.lt_irrefl _)) fun y => y.2⟩
  · rw [if_neg h, decide_eq_true_eq]
    exact ⟨.inl, fun z => z.elim id fun y => absurd y.1 h⟩
theorem lexS_no {p q : Str × Int} : lexS p q = false ↔ ¬ (cs p.1 < cs q.1 ∨ (p.1 = q.1 ∧ p.2 < q.2)) := by
  rw [← lexS_iff, Bool.not_eq_true]
theorem lt_le {a b c : List Nat} (h1 : a < b) (h2 : ¬ c < b) : a < c := by
  have h3 := List.not_lt.mp h2
  by_cases e : a < c
  · exact e
  · exact absurd (List.lt_of_le_of_lt (List.not_lt.mp e) h1) h2
theorem swo_S {α : Type} (k : α → Str × Int) : SrtO.Swo fun v u => lexS (k v) (k u) := by
  refine ⟨fun x y h => ?_, fun x y z h1 h2 => ?_⟩
  · refine lexS_no.mpr fun q => ?_
    rcases lexS_iff.mp h with a | ⟨a, b⟩
    · rcases q with c | ⟨c, d⟩
      · exact List.lt_irrefl _ (List.lt_trans a c)
      · rw [c] at a
        exact List.lt_irrefl _ a
    · rcases q with c | ⟨c, d⟩
      · rw [a] at c
        exact List.lt_irrefl _ c
      · omega
  · have a := lexS_no.mp h1
    have b := lexS_no.mp h2
    refine lexS_no.mpr fun q => ?_
    rcases q with c | ⟨c, d⟩
    · exact b (.inl (lt_le c fun z => a (.inl z)))
    · have e : cs (k x).1 = cs (k y).1 := List.le_antisymm (List.not_lt.mp fun z => a (.inl z)) (List.not_lt.mp fun z => b (.inl (by rw [c]; exact z)))
      have e1 : (k y).1 = (k x).1 := (cs_inj e).symm
      have a2 : ¬ (k y).2 < (k x).2 := fun z => a (.inr ⟨e1, z⟩)
      have b2 : ¬ (k z).2 < (k y).2 := fun w => b (.inr ⟨c.trans e1.symm, w⟩)
      omega
section
variable {prog : Program} {w : World} {A : Around} {E : Value → Shared → Prop} {s : Shared}
theorem firsts_of {h : Heap} : ∀ {vs : List Value}, (∀ v ∈ vs, ∃ x y, IsSP h v x y) → ∃ fs : List Value, PySem.W.KatTups h vs fs ∧ fs.length = vs.length ∧ ∀ f ∈ fs, ∃ x t, f = Value.str x t
  | [], _ => ⟨[], PySem.W.KatTups.nil, rfl, fun _ hm => by simp at hm⟩
  | v :: vs, hp => by
    obtain ⟨fs, h1, h2, h3⟩ := firsts_of (vs := vs) fun v' hm => hp v' (List.mem_cons_of_mem _ hm)
    obtain ⟨x, y, a, o, t, u, n, e, ho, hc, hd⟩ := hp v (List.mem_cons_self ..)
    subst e
    refine ⟨.str x t :: fs, PySem.W.KatTups.cons ho hc hd rfl h1, by rw [List.length_cons, List.length_cons, h2], fun f hm => ?_⟩
    (rcases List.mem_cons.mp hm with rfl | hm)
    · exact ⟨x, t, rfl⟩
    · exact h3 f hm
theorem sp_cmp {vs : List Value} {k : Value → Str × Int} (hp : ∀ v ∈ vs, IsSP s.heap v (k v).1 (k v).2) : SrtO.Cmp prog w A s (tuples' true) (fun p => p.1 ∈ vs) (SrtO.lt2 fun v u => lexS (k v) (k u)) := by
  intro p q hm hm'
  have h1 := hp _ hm
  have h2 := hp _ hm'
  show wpAny (model prog w) A (keyLt' (tuples' true) p.1 q.1) (fun r s' => s' = s ∧ r = lexS (k p.1) (k q.1)) (fun _ _ => False) s
  unfold lexS
  generalize (k p.1).1 = x at h1 ⊢
  generalize (k p.1).2 = y at h1 ⊢
  generalize (k q.1).1 = x' at h2 ⊢
  generalize (k q.1).2 = y' at h2 ⊢
  obtain ⟨a, o, t, u, n, e, ho, hc, hd⟩ := h1
  obtain ⟨a', o', t', u', n', e', ho', hc', hd'⟩ := h2
  rw [e, e']
  refine PySem.W.kat_lt ho hd ho' hd' ?_
  show PySem.W.KatLex prog w A true (decide (2 < 2)) _ [(.str x t, .str x' t'), (.int y u, .int y' u')] 0 s
  refine PySem.W.kat_cons (SeqAt.EqAt.str_str x t x' t' prog w _ _ ?_)
  refine PySem.W.kat_go (fun e1 => ?_) (fun e1 => ?_)
  · have ex : x = x' := by simpa using e1
    refine PySem.W.kat_yes (PySem.W.kat_cons (SeqAt.EqAt.int_int y u y' u' prog w _ _ ?_))
    refine PySem.W.kat_go (fun e2 => ?_) (fun e2 => ?_)
    · have ey : y = y' := by simpa using e2
      have e3 : (if x = x' then decide (y < y') else decide (cs x < cs x')) = false := by
        rw [if_pos ex, ey]
        exact decide_eq_false (Int.lt_irrefl _)
      exact PySem.W.kat_yes (PySem.W.kat_nil ⟨rfl, e3.symm⟩)
    · have e3 : (if x = x' then decide (y < y') else decide (cs x < cs x')) = decide (y < y') := if_pos ex
      refine PySem.W.kat_no (PySem.W.kat_one _ _ (PyProof.Rows.lt_int ?_))
      exact (show s = s ∧ decide (y < y') = (if x = x' then decide (y < y') else decide (cs x < cs x')) from ⟨rfl, e3.symm⟩)
  · have ex : ¬ x = x' := by simpa using e1
    have e3 : (if x = x' then decide (y < y') else decide (cs x < cs x')) = decide (cs x < cs x') := if_neg ex
    exact PySem.W.kat_no (oneLt_str ⟨rfl, e3.symm⟩)
theorem sp_sortable {a : Addr} {vs : List Value} {k : Value → Str × Int} (h0 : 0 < vs.length) (hp : ∀ v ∈ vs, IsSP s.heap v (k v).1 (k v).2) (ha : ∀ o, s.heap.get? a = some o → o.cls ≠ .type "tuple") : SrtO.SortableO prog w A s a vs fun v u => lexS (k v) (k u) := by
  intro h' keep
  have hp' : ∀ v ∈ vs, IsSP h' v (k v).1 (k v).2 := fun v hm => (hp v hm).keeps fun b o e c => keep b o (fun z => by subst z; exact ha o e c) e
  obtain ⟨fs, h1, h2, h3⟩ := firsts_of fun v hm => ⟨_, _, hp' v hm⟩
  refine ⟨tuples' true, fun Q E hq => ?_, sp_cmp hp'⟩
  refine PySem.W.kat_kind (T := .type "str") h1 (by omega) (fun f hm => ?_) (by rfl) ?_
  · obtain ⟨x, t, rfl⟩ := h3 f hm
    exact PySem.W.Looks.now
  · have e : (Value.type "str" != Value.type "tuple") = true := by first | decide +kernel | rfl | decide
    rw [e]
    exact hq
theorem sorted_sp {l : Addr} {vs : List Value} {k : Value → Str × Int} {Q : Value → Shared → Prop} (hl : s.heap.IsList l vs.toArray) (hz : vs.length ≤ sizeLine) (hp : ∀ v ∈ vs, IsSP s.heap v (k v).1 (k v).2)
    (h : ∀ (h' : Heap) (d : Addr) (out : List Value), SrtO.Srtd (fun v u => lexS (k v) (k u)) out → SrtO.Stb (fun v u => lexS (k v) (k u)) out vs → (∀ b o, s.heap.get? b = some o → h'.get? b = some o) → s.heap.objs.size ≤ d → (∃ n, h'.get? d = some (seqObj "list" out.toArray n)) → Q (.ref d) { s with heap := h' }) :
    wpAny (model prog w) A (call (.builtin "sorted") [.ref l]) Q E s := by
  refine SrtO.sorted_ord (swo_S k) hl hz (fun h2 h₁ a ha kk => ?_) fun out hs hb => ?_
  · refine sp_sortable (s := { s with heap := h₁ }) (by omega) (fun v hm => (hp v hm).keeps fun b o e _ => (kk b o e).2) fun o e => ?_
    have e' : some o = some (seqObj "list" vs.toArray 0) := e.symm.trans ha
    cases e'
    intro c
    exact absurd (Value.type.inj c) (by decide)
  · exact h _ _ out hs hb (fun b o e => sortedAll_old e) (Nat.le_succ _) (sortedAll_at s.heap vs out.toArray)
end
end SVPair
namespace L2
open PySem PySem.Spec PyProof.Rows
/-- sorted(xs), xs a list of pairs (text, int): a new list, sorted -/
def rSortedSP (K : PySem.W.Frag) : List V → Hp → VK → Prop := fun vs H Q => ∃ (a : Addr) (xs : List V) (k : V → Str × Int), vs = [V.ref a] ∧ SqL K H a xs ∧ (∀ x ∈ xs, ∃ t, x = V.ref t ∧ H t = some (.tup [.str (k x).1, .int (k x).2])) ∧
  ∀ ys p, SrtO.Srtd (fun x y => SVPair.lexS (k x) (k y)) ys → ys.Perm xs → H p = none → Q (.ref p) (upd H p (.lst ys))
section
variable {X : Cx}
theorem cr_sortedSP : CallR X (.builtin "sorted") (rSortedSP X.K) := by
  intro pins s σ H vs us Q I r h
  obtain ⟨a, xs, k, rfl, hs, hx, q⟩ := h
  obtain ⟨its, rv, hl, hz⟩ := I.list hs
  obtain ⟨u, rfl, ru⟩ := vals1 r
  obtain rfl : u = Value.ref a := ru
  obtain ⟨e1, e2⟩ := refs_back rv fun x m => by
    obtain ⟨t, e, _⟩ := hx x m
    exact ⟨t, e⟩
  refine SVPair.sorted_sp (k := fun u => k (backV u)) hl.isList (by rw [← rv.length]; exact hz) (fun v hv => ?_) fun h' d out h1 h2 kp hd hn => ?_
  · obtain ⟨t, rfl⟩ := e2 v hv
    have hm : V.ref t ∈ xs := by rw [e1]; exact List.mem_map.mpr ⟨_, hv, rfl⟩
    obtain ⟨t', e, ht⟩ := hx _ hm
    cases e
    obtain ⟨_, its2, r2, o, ho, hc, n, hd⟩ := I.hok _ _ ht
    obtain ⟨u1, u2, rfl, ri, rj⟩ := vals2 r2
    obtain ⟨t1, rfl⟩ := ri
    obtain ⟨t2, rfl⟩ := rj
    exact ⟨t, o, t1, t2, n, rfl, ho, hc, hd⟩
  · have h3 : ∀ u ∈ out, ∃ a, u = Value.ref a := fun u hu => e2 u (h2.perm.mem_iff.mp hu)
    obtain ⟨n, hn⟩ := hn
    have hb : (out.map backV).Perm xs := by
      rw [e1]
      exact h2.perm.map backV
    refine ⟨.ref d, upd H d (.lst (out.map backV)), I.laid (t' := s.toks) kp hd ⟨?_, out, n, vals_back h3, hn⟩, rfl, q _ d (SrtO.srtd_map h1) hb (I.hok.fresh hd)⟩
    rw [hb.length_eq]
    exact hz
end
end L2

/-! operators of a class of the package: x op y of two of one class, x != y by an own ==, x[k], k in x, len(x) -/
namespace PySem.W
open PySem PySem.Calls PyProof.Rows
section
variable {prog : Program} {w : World} {A : Around} {E : Value → Shared → Prop} {s : Shared} {K : Frag} {x b C L f : Addr} {h₀ : Heap} {m : Str → Option Value} {ox ob : Obj} {od od2 : Option Obj}
theorem bin_same {op : Operator} {Q : Value → Shared → Prop} (F : Fr h₀ L s.heap m) (X₀ : K.In h₀) (I : InstAt s.heap x ox C od) (I2 : InstAt s.heap b ob C od2) (hc : selfFirst K C = true)
    (hs : findIn K (.ref C) (PySem.dunder op.info.2) = some (some (.ref f))) (hf : isFn K (.ref f) = true) (h : wpAny (model prog w) A (call (.ref f) [.ref x, .ref b]) (CmpBack Q) E s) : wpAny (model prog w) A (binaryOp op (.ref x) (.ref b)) Q E s := by
  have X := X₀.keeps F.keep
  obtain ⟨cd, rest, hcd, hm⟩ := ksp_first hc
  rcases hi : op.info with ⟨sym, nm'⟩
  rw [hi] at hs
  dsimp only at hs
  have one := ksp_try X I hs hf h
  obtain ⟨hh, g, d, tt, os⟩ := s
  have L1 : Looks (model prog w) hh (typeOf (.ref x)) (.ref C) := I.type
  have L2 : Looks (model prog w) hh (typeOf (.ref b)) (.ref C) := I2.type
  have L3 : Looks (model prog w) hh (fillsNumberSlot (.ref C) nm') true := fills_K X hcd hm hs
  simp only [binaryOp, hi]
  refine wpAny_holding (wpAny_bind ?_)
  unfold binaryOp1
  refine wpAny_bind (L1.at (wpAny_bind (L2.at (wpAny_bind (L3.at ?_)))))
  simp only [beq_self_eq_true, if_true, Bool.and_false, Bool.false_and, Bool.false_eq_true, if_false]
  ksp_lk
  refine wpAny_mono one (fun r s' hr' => ?_) fun _ _ e => e
  obtain ⟨v, rfl, hq⟩ := hr'
  ksp_lk
  exact hq
/-- x != y, where the class tells == and not != -/
theorem ne_own {tb : Value} {Q : Value → Shared → Prop} (hu : A.units + 1 < cLine) (F : Fr h₀ L s.heap m) (X₀ : K.In h₀) (I : InstAt s.heap x ox C od) (hb : Looks (model prog w) s.heap (typeOf (.ref b)) tb) (hn : notFirst K C tb = true)
    (hs : findIn K (.ref C) "__eq__" = some (some (.ref f))) (hf : isFn K (.ref f) = true) (hne : findIn K (.ref C) "__ne__" = some (some (.builtin "object.__ne__"))) (ho : mroIn K C (.type "object") = some true)
    (h : wpAny (model prog w) A.in1 (call (.ref f) [.ref x, .ref b]) (fun v s' => ∃ k, v = .bool k ∧ Q (.bool (!k)) s') E s) : wpAny (model prog w) A (richCompare .NotEq (.ref x) (.ref b)) Q E s := by
  have X := X₀.keeps F.keep
  have ty : Looks (model prog w) s.heap (typeOf (.ref x)) (.ref C) := I.type
  have sp : Looks (model prog w) s.heap (specialOf (.ref x) "__ne__") (some (.builtin "object.__ne__")) := ty.andThen (looks_findIn X hne)
  have iv : Looks (model prog w) s.heap (isInstance (.ref x) (.type "object")) true := ty.andThen (looks_mroIn X ho)
  have body : wpAny (model prog w) A.in1 (Builtin.«object.__ne__» ⟨[.ref x, .ref b], []⟩) (fun r s' => ∃ k, r = .done (.ret (.bool k)) ∧ Q (.bool k) s') E s := by
    unfold Builtin.«object.__ne__»
    refine wpAny_bind (m := slotArgs "__ne__" 1 _) (wpAny_pure ?_)
    refine wpAny_bind (wpAny_cRoomFor (by exact hu) ?_)
    refine wpAny_bind (ifBound_K X I hs hf (wpAny_mono h (fun v s' hv => ?_) fun _ _ e => e))
    obtain ⟨k, rfl, q⟩ := hv
    refine wpAny_bind (wpAny_truthy_bool ?_)
    exact wpAny_pure ⟨_, rfl, q⟩
  have callNe : wpAny (model prog w) A (call (.builtin "object.__ne__") [.ref x, .ref b]) (fun v s' => ∃ k, v = .bool k ∧ Q (.bool k) s') E s := by
    refine wpAny_call (codeAny_call_builtin (by decide +kernel) PySem.F.cmpEntry_ne (@check_slot (model prog w) _ _ _ "object.__ne__" "object" "__ne__" (.ref x) [.ref b] [] _ (by decide +kernel) (by decide +kernel) iv (PySem.F.cmpArgs_ne _ _) ?_))
    refine wpAny_mono body (fun r s' q => ?_) fun _ _ z => z
    obtain ⟨k, rfl, q⟩ := q
    exact ⟨k, rfl, q⟩
  have one : wpAny (model prog w) A (tryCompare (.ref x) "__ne__" (.ref b)) (fun r s' => ∃ v, r = some v ∧ Q v s') E s := by
    unfold tryCompare
    refine wpAny_bind (NtL.csib sp (by rfl) (wpAny_mono callNe (fun v s' q => ?_) fun _ _ e => e))
    obtain ⟨k, rfl, q⟩ := q
    exact wpAny_pure ⟨_, rfl, q⟩
  unfold richCompare
  simp only [oneThing_ref]
  refine wpAny_holding (wpAny_bind (wpAny_cRoomFor (by omega) ?_))
  refine wpAny_bind (I.type.here (wpAny_bind (hb.here ?_)))
  split
  · rename_i q
    have e : subIn K tb (.ref C) = some false := by
      rcases Bool.or_eq_true_iff.mp hn with e | e
      · rw [beq_iff_eq.mp e] at q; simp at q
      · exact beq_iff_eq.mp e
    refine wpAny_bind ((looks_subIn X e).here ?_)
    simp only [Bool.false_eq_true, if_false]
    refine wpAny_bind (wpAny_mono one (fun r s' z => ?_) fun _ _ e => e)
    obtain ⟨v, rfl, hq⟩ := z
    exact wpAny_pure hq
  · refine wpAny_bind (wpAny_pure ?_)
    simp only [Bool.false_eq_true, if_false]
    refine wpAny_bind (wpAny_mono one (fun r s' z => ?_) fun _ _ e => e)
    obtain ⟨v, rfl, hq⟩ := z
    exact wpAny_pure hq
end
end PySem.W

namespace L2
open PySem PySem.Spec PyProof.Rows
/-- a def of a class, under a name that its operators look for -/
def HasD (CX : CXT) (P : Program) (w : World) (K : PySem.W.Frag) (mg : Str → Option Value) (base : Heap) (C : Addr) (nm : Str) (k : Nat) (ps : List Str) (sp : Sp) : Prop :=
  ∃ (f : Addr) (fd : FuncData), PySem.W.findIn K (.ref C) nm = some (some (.ref f)) ∧ PySem.W.isFn K (.ref f) = true ∧ FnOk P w K mg base CX k f fd ps sp ∧ Binds K fd ps []
def InsA (H : Hp) (C p : Addr) : Prop := ∃ dx fs, H p = some (.ins C dx fs)
theorem relV_back {v : V} {u : Value} {Q : Value → Shared → Prop} {s : Shared} (r : RelV v u) (h : Q u s) : PySem.W.CmpBack Q u s := by
  cases v with
  | non => cases r; exact h
  | bl b => cases r; exact h
  | int i => obtain ⟨t, rfl⟩ := r; exact h
  | str x => obtain ⟨t, rfl⟩ := r; exact h
  | byt b => obtain ⟨t, rfl⟩ := r; exact h
  | flt b => obtain ⟨t, rfl⟩ := r; exact h
  | ref a => cases r; exact h
  | ty n => cases r; exact h
section
variable {X : Cx} {k : Nat} {C : Addr} {ps : List Str} {sp : Sp} {CX : CXT}
theorem own_at {pins : List (Addr × Obj)} {σ : St} {H : Hp} {s : Shared} {p : Addr} (I : Inv X pins σ H s) (h : InsA H C p) : ∃ ob od, PySem.W.InstAt s.heap p ob C od := by
  obtain ⟨dx, fs, e⟩ := h
  obtain ⟨mA, J, _⟩ := ins_get I.hok e
  obtain ⟨od, J, _⟩ := J.look
  exact ⟨_, od, J⟩
/-- x op y, two of one class, by its own def -/
def tOwnBin (C : Addr) (sp : Sp) (E : St → XK) (ta tb : TE) : TE := fun σ H Q => ta σ H fun x H1 => tb σ H1 fun y H2 => (∃ p, x = .ref p ∧ InsA H2 C p) ∧ (∃ q, y = .ref q ∧ InsA H2 C q) ∧ sp [x, y] H2 Q (E σ)
theorem pe_ownBin {op : Operator} {a b : Expr} {ta tb : TE} {pos : Pos} {E : St → XK} (hd : HasD CX X.prog X.w X.K X.mg X.base C (PySem.dunder op.info.2) k ps sp) (hc : PySem.W.selfFirst X.K C = true) (hr : Room k X.A) (hx : ∀ σ, PassesAt CX X σ (E σ)) (ha : PE X a ta) (hb : PE X b tb) :
    PE X (.BinOp a op b pos) (tOwnBin C sp E ta tb) := by
  obtain ⟨f, fd, hs, hf, F, hbd⟩ := hd
  refine ⟨fun pins s σ H Q I h => ?_⟩
  refine wpAny_BinOp (binT ha hb I h fun v u s2 x y H2 I2 rx ry q => ?_)
  obtain ⟨⟨p, rfl, ip⟩, ⟨q', rfl, iq⟩, hsp⟩ := q
  cases rx
  cases ry
  obtain ⟨ob, od, J⟩ := own_at I2 ip
  obtain ⟨ob2, od2, J2⟩ := own_at I2 iq
  obtain ⟨m, hF⟩ := I2.fr
  refine PySem.W.bin_same hF I2.ok.mod.kin J J2 hc hs hf (wpAny_mono (run_fnS F hr hbd (hx σ) I2 (show Vals [V.ref p, V.ref q'] [Value.ref p, Value.ref q'] from .cons rfl (.cons rfl .nil)) hsp) (fun z s' hz => ?_) fun _ _ e => e)
  obtain ⟨v, H', I', rv, q'⟩ := hz
  exact relV_back rv ⟨v, H', I', rv, q'⟩
/-- a def called one step deeper in C's own calls -/
theorem run_in1 {pins : List (Addr × Obj)} {σ : St} {H : Hp} {s : Shared} {Q : VK} {f : Addr} {fd : FuncData} {us : List Value} {vs : List V} (F : FnOk X.prog X.w X.K X.mg X.base CX0 k f fd ps sp) (hr : Room (k + 1) X.A) (hb : Binds X.K fd ps [])
    (I : Inv X pins σ H s) (r : Vals vs us) (h : sp vs H Q E0) : wpAny (model X.prog X.w) X.A.in1 (call (.ref f) us) (EP X pins σ Q) X.xe s := by
  have hl : us.length = ps.length := by rw [← r.length]; exact F.len _ _ _ _ h
  have b := hb s us I.kIn (by rw [List.append_nil]; exact hl)
  rw [List.append_nil] at b
  have e0 : Env0 X.prog X.w X.K X.mg X.base X.A.in1 X.stack s H := by
    have e := I.env0
    exact ⟨e.frames, e.mod, e.bs, e.bsz, e.funs, e.frf, e.hok, e.bare⟩
  refine wpAny_call (codeAny_mono (F.run X.A.in1 X.stack s H ⟨us, []⟩ us vs Q E0 hr.in1 e0 b r h) fun res s' hq => ?_)
  cases res with
  | error e => exact False.elim hq
  | ok fl =>
    cases fl with
    | ret w' => exact I.after hq
    | next => exact False.elim hq
    | brk => exact False.elim hq
    | cont => exact False.elim hq
/-- x[k] by an own __getitem__ -/
def tOwnGet (C : Addr) (sp : Sp) (ta tb : TE) : TE := tOp (fun x y H Q => (∃ p, x = .ref p ∧ InsA H C p) ∧ sp [x, y] H Q E0) ta tb
theorem pe_ownGet {a b : Expr} {ta tb : TE} {pos : Pos} (hd : HasD CX0 X.prog X.w X.K X.mg X.base C "__getitem__" k ps sp) (hfn : ∀ f, PySem.W.findIn X.K (.ref C) "__getitem__" = some (some (.ref f)) → PySem.W.fnIn X.K f = true) (hr : Room (k + 1) X.A) (ha : PE X a ta) (hb : PE X b tb)
    (hsl : ∀ o i, subscripted b true o i = runValue (.builtin "lifetime.subscript" ⟨[o, i], []⟩) := by intro _ _; rfl) : PE X (.Subscript a b pos) (tOwnGet C sp ta tb) := by
  obtain ⟨f, fd, hs, hf, F, hbd⟩ := hd
  refine ⟨fun pins s σ H Q I h => ?_⟩
  refine Subscript_ (binT ha hb I h fun v u s2 x y H2 I2 rx ry q => ?_)
  obtain ⟨⟨p, rfl, ip⟩, hsp⟩ := q
  cases rx
  obtain ⟨ob, od, J⟩ := own_at I2 ip
  obtain ⟨m, hF⟩ := I2.fr
  exact PySem.W.sub_K hF I2.ok.mod.kin J hs (hfn f hs) hf (run_in1 F hr hbd I2 (show Vals [V.ref p, y] [Value.ref p, u] from .cons rfl (.cons ry .nil)) hsp) (hsl _ _)
/-- k in x by an own __contains__ that tells a bool -/
def rOwnIn (C : Addr) (sp : Sp) (neg : Bool) : R2 := fun y x H Q => (∃ p, x = .ref p ∧ InsA H C p) ∧ sp [x, y] H (fun v H' => ∃ c, v = .bl c ∧ Q (.bl (if neg then !c else c)) H') E0
theorem op_ownIn (hd : HasD CX0 X.prog X.w X.K X.mg X.base C "__contains__" k ps sp) (hr : Room k X.A) : OpR X (compareOp .In) (rOwnIn C sp false) := by
  obtain ⟨f, fd, hs, hf, F, hbd⟩ := hd
  intro pins s σ H x y v u Q I rx ry h
  obtain ⟨⟨p, rfl, ip⟩, hsp⟩ := h
  cases ry
  obtain ⟨ob, od, J⟩ := own_at I ip
  obtain ⟨m, hF⟩ := I.fr
  refine PySem.W.in_K hF I.ok.mod.kin J hs hf (wpAny_mono (run_fn (ds := []) (dvs := []) F hr hbd .nil pass0 I (show Vals [V.ref p, x] [Value.ref p, v] from .cons rfl (.cons rx .nil)) (by rw [List.append_nil]; exact hsp)) (fun z s' hz => ?_) fun _ _ e => e)
  obtain ⟨w', H', I', rw', c, rfl, q'⟩ := hz
  cases rw'
  exact wpAny_truthy_bool ⟨.bl c, H', I', rfl, q'⟩
theorem op_ownNotIn (hd : HasD CX0 X.prog X.w X.K X.mg X.base C "__contains__" k ps sp) (hr : Room k X.A) : OpR X (compareOp .NotIn) (rOwnIn C sp true) := by
  obtain ⟨f, fd, hs, hf, F, hbd⟩ := hd
  intro pins s σ H x y v u Q I rx ry h
  obtain ⟨⟨p, rfl, ip⟩, hsp⟩ := h
  cases ry
  obtain ⟨ob, od, J⟩ := own_at I ip
  obtain ⟨m, hF⟩ := I.fr
  refine PySem.W.notIn_K hF I.ok.mod.kin J hs hf (wpAny_mono (run_fn (ds := []) (dvs := []) F hr hbd .nil pass0 I (show Vals [V.ref p, x] [Value.ref p, v] from .cons rfl (.cons rx .nil)) (by rw [List.append_nil]; exact hsp)) (fun z s' hz => ?_) fun _ _ e => e)
  obtain ⟨w', H', I', rw', c, rfl, q'⟩ := hz
  cases rw'
  exact wpAny_truthy_bool ⟨.bl (!c), H', I', rfl, q'⟩
/-- len(x) by an own __len__ that tells a small int -/
def rOwnLen (C : Addr) (sp : Sp) : List V → Hp → VK → Prop := fun xs H Q => ∃ p, xs = [.ref p] ∧ InsA H C p ∧ sp [.ref p] H (fun v H' => ∃ n : Nat, v = .int (n : Int) ∧ n ≤ 1000 ∧ Q (.int (n : Int)) H') E0
theorem call_ownLen (hd : HasD CX0 X.prog X.w X.K X.mg X.base C "__len__" k ps sp) (hr : Room (k + 1) X.A) : CallR X (.builtin "len") (rOwnLen C sp) := by
  obtain ⟨f, fd, hs, hf, F, hbd⟩ := hd
  intro pins s σ H xs us Q I r h
  obtain ⟨p, rfl, ip, hsp⟩ := h
  obtain ⟨u, rfl, rx⟩ := vals1 r
  cases rx
  obtain ⟨ob, od, J⟩ := own_at I ip
  obtain ⟨m, hF⟩ := I.fr
  refine PySem.W.len_K hF I.ok.mod.kin J hs hf (wpAny_mono (run_in1 F hr hbd I (show Vals [V.ref p] [Value.ref p] from .cons rfl .nil) hsp) (fun z s' hz => ?_) fun _ _ e => e)
  obtain ⟨w', H', I', rw', n, rfl, hn, q'⟩ := hz
  obtain ⟨t, rfl⟩ := rw'
  refine ⟨⟨by omega, by omega⟩, ?_⟩
  exact ⟨.int (n : Int), H', I'.tok _, ⟨_, rfl⟩, q'⟩
/-- x != y by an own == that tells a bool -/
def rOwnNe (K : PySem.W.Frag) (C : Addr) (sp : Sp) : R2 := fun x y H Q => ∃ p q t, x = .ref p ∧ y = .ref q ∧ InsA H C p ∧ TyX K H y t ∧ PySem.W.notFirst K C t = true ∧ sp [x, y] H (fun v H' => ∃ c, v = .bl c ∧ Q (.bl (!c)) H') E0
theorem op_ownNe (hd : HasD CX0 X.prog X.w X.K X.mg X.base C "__eq__" k ps sp) (hne : PySem.W.findIn X.K (.ref C) "__ne__" = some (some (.builtin "object.__ne__"))) (ho : PySem.W.mroIn X.K C (.type "object") = some true) (hr : Room (k + 1) X.A) : OpR X (compareOp .NotEq) (rOwnNe X.K C sp) := by
  obtain ⟨f, fd, hs, hf, F, hbd⟩ := hd
  intro pins s σ H x y v u Q I rx ry h
  obtain ⟨p, q, t, rfl, rfl, ip, ty, hn, hsp⟩ := h
  cases rx
  cases (show u = Value.ref q from ry)
  obtain ⟨ob, od, J⟩ := own_at I ip
  obtain ⟨m, hF⟩ := I.fr
  obtain ⟨Pz, Z, pz, _⟩ := kit_of I (show RelV (.ref q) (.ref q) from rfl) ty
  have hu := hr.un
  show wpAny (model X.prog X.w) X.A (richCompare .NotEq (.ref p) (.ref q)) (EP X pins σ Q) X.xe s
  refine PySem.W.ne_own (tb := t) (by omega) hF I.ok.mod.kin J (Z.ty _ _ I.kIn pz) hn hs hf hne ho (wpAny_mono (run_in1 F hr hbd I (show Vals [V.ref p, V.ref q] [Value.ref p, Value.ref q] from .cons rfl (.cons rfl .nil)) hsp) (fun z s' hz => ?_) fun _ _ e => e)
  obtain ⟨w', H', I', rw', c, rfl, q'⟩ := hz
  cases rw'
  exact ⟨c, rfl, .bl (!c), H', I', rfl, q'⟩
/-- x == y by an own == that tells a bool, any y -/
def rOwnEqS (K : PySem.W.Frag) (C : Addr) (sp : Sp) : R2 := fun x y H Q => ∃ p t, x = .ref p ∧ InsA H C p ∧ TyX K H y t ∧ PySem.W.notFirst K C t = true ∧ sp [x, y] H (fun v H' => ∃ c, v = .bl c ∧ Q (.bl c) H') E0
theorem op_ownEqS (hd : HasD CX0 X.prog X.w X.K X.mg X.base C "__eq__" k ps sp) (hr : Room k X.A) : OpR X (compareOp .Eq) (rOwnEqS X.K C sp) := by
  obtain ⟨f, fd, hs, hf, F, hbd⟩ := hd
  intro pins s σ H x y v u Q I rx ry h
  obtain ⟨p, t, rfl, ip, ty, hn, hsp⟩ := h
  cases rx
  obtain ⟨ob, od, J⟩ := own_at I ip
  obtain ⟨m, hF⟩ := I.fr
  obtain ⟨Pz, Z, pz, _⟩ := kit_of I ry ty
  show wpAny (model X.prog X.w) X.A (richCompare .Eq (.ref p) u) (EP X pins σ Q) X.xe s
  refine PySem.W.cmp_K (op := .Eq) (tb := t) hr.units0 hF I.ok.mod.kin J (Z.ty _ _ I.kIn pz) hn hs hf (wpAny_mono (run_fn (ds := []) (dvs := []) F hr hbd .nil pass0 I (show Vals [V.ref p, y] [Value.ref p, u] from .cons rfl (.cons ry .nil)) (by rw [List.append_nil]; exact hsp)) (fun z s' hz => ?_) fun _ _ e => e)
  obtain ⟨w', H', I', rw', c, rfl, q'⟩ := hz
  cases rw'
  exact ⟨.bl c, H', I', rfl, q'⟩
end
end L2

/-! list(zip(a, b)) of two tuples of one length -/
namespace ZLs
open PySem RZ
theorem zip_no_len : typeLookup (.type "zip") "__len__" = pure none := by rw [typeLookup_type, builtinLookup_eq_fast]; kernel_rfl
theorem zip_no_hint : typeLookup (.type "zip") "__length_hint__" = pure none := by rw [typeLookup_type, builtinLookup_eq_fast]; kernel_rfl
section
variable {prog : Program} {w : World} {A : Around} {E : Value → Shared → Prop} {s : Shared}
/-- one turn of a zip whose pair is out -/
theorem held_item {z TI TO T i1 i2 l1 l2 : Addr} {f : Bool} {oT : Obj} {k1 k2 : Nat} {xs ys : Array Value} {x y : Value} {Q : Option Value → Shared → Prop} (D : ZipApart z TI TO i1 i2 l1 l2)
    (hz : IsZipHeld s.heap z TI TO T f) (hT : s.heap.get? T = some oT) (hTI : IsPair s.heap TI (.ref i1) (.ref i2))
    (h1 : s.heap.IsTupleIter i1 l1 k1) (h2 : s.heap.IsTupleIter i2 l2 k2) (hl1 : s.heap.IsTuple l1 xs) (hl2 : s.heap.IsTuple l2 ys) (hx : xs[k1]? = some x) (hy : ys[k2]? = some y)
    (hQ : ∀ h', IsZipHeld h' z TI TO T true → h'.IsTupleIter i1 l1 (k1 + 1) → h'.IsTupleIter i2 l2 (k2 + 1) → IsPair h' s.heap.objs.size x y → h'.objs.size = s.heap.objs.size + 1 →
      (∀ c o, c ≠ z → c ≠ i1 → c ≠ i2 → s.heap.get? c = some o → h'.get? c = some o) → Q (some (.ref s.heap.objs.size)) { s with heap := h' }) :
    wpAny (model prog w) A (pyNext (.ref z)) Q E s := by
  have hTy : s.TypeIs (.ref z) "zip" := ⟨_, hz, rfl⟩
  unfold pyNext
  refine wpAny_bind (wpAny_attempt (wpAny_callSpecial?_slot (name := Str.ofString "__next__") hTy F.slot_zip_next
    (wpAny_call_entry (Q := fun v s' => wpAny (model prog w) A (pure (some v)) Q E s') F.slot_zip_next hTy F.entry_zip_next ?_ (F.args_zip_next_1 _))))
  show wpAny _ _ (field (.ref z) 2 >>= _) _ _ _
  refine wpAny_bind (wpAny_field hz rfl (x := .bool false) rfl ?_)
  show wpAny _ _ (field (.ref z) 3 >>= _) _ _ _
  refine wpAny_bind (wpAny_field hz rfl (x := .ref TI) rfl ?_)
  refine wpAny_bind (wpAny_seqItems hTI rfl ?_)
  show wpAny _ _ (Builtin.SmallTypes.ownedTupleIsFree (.ref z) >>= _) _ _ _
  refine wpAny_bind (wpAny_tupleHeld_zip hz hT fun h₁ hz₁ hs₁ => ?_)
  simp only [Bool.false_eq_true, if_false]
  refine wpAny_bind ?_
  rw [← Array.forIn_toList]
  simp only [List.forIn_cons, List.forIn_nil]
  refine wpAny_bind (wpAny_bind (wpAny_holding ?_))
  show wpAny _ _ (Builtin.SmallTypes.nextOf (.ref i1) >>= _) _ _ _
  refine wpAny_bind (nextOf_tuple_item (s := { s with heap := h₁ }) (h1.extBut hs₁.extBut D.i1z) (hl1.extBut hs₁.extBut D.l1z) hx fun h₂ h1₂ hs₂ => wpAny_pure ?_)
  refine wpAny_pure ?_
  refine wpAny_bind (wpAny_bind (wpAny_holding ?_))
  show wpAny _ _ (Builtin.SmallTypes.nextOf (.ref i2) >>= _) _ _ _
  refine wpAny_bind (nextOf_tuple_item (s := { s with heap := h₂ }) ((h2.extBut hs₁.extBut D.i2z).extBut hs₂.extBut D.i12.symm) ((hl2.extBut hs₁.extBut D.l2z).extBut hs₂.extBut D.l2i1) hy fun h₃ h2₃ hs₃ => wpAny_pure ?_)
  refine wpAny_pure (wpAny_pure ?_)
  show wpAny _ _ (newTuple [x, y] >>= _) _ _ _
  refine wpAny_bind (wpAny_newTuple ?_)
  have hsz : h₃.objs.size = s.heap.objs.size := by rw [hs₃.1, hs₂.1, hs₁.1]
  have hz₃ : IsZipHeld h₃ z TI TO T true := hs₃.extBut _ _ D.i2z.symm (hs₂.extBut _ _ D.i1z.symm hz₁)
  have hk : ∀ c o, c ≠ z → c ≠ i1 → c ≠ i2 → s.heap.get? c = some o → h₃.get? c = some o := fun c o c1 c2 c3 e => hs₃.extBut _ _ c3 (hs₂.extBut _ _ c2 (hs₁.extBut _ _ c1 e))
  have h1₃ : h₃.IsTupleIter i1 l1 (k1 + 1) := h1₂.extBut hs₃.extBut D.i12
  refine wpAny_pure ⟨_, rfl, wpAny_pure ?_⟩
  have hp : IsPair (h₃.push { cls := .type "tuple", data := .seq #[x, y] }) h₃.objs.size x y := Heap.get?_push_size _ rfl
  have hz4 : (h₃.push { cls := .type "tuple", data := .seq #[x, y] }).objs.size = h₃.objs.size + 1 := Heap.size_push ..
  show Q (some (.ref h₃.objs.size)) _
  rw [hsz] at hp hz4 ⊢
  exact hQ _ (Heap.get?_push_of_some _ hz₃) (h1₃.at fun o e => Heap.get?_push_of_some _ e) (h2₃.at fun o e => Heap.get?_push_of_some _ e) hp hz4 fun c o c1 c2 c3 e => Heap.get?_push_of_some _ (hk c o c1 c2 c3 e)
/-- its end -/
theorem held_end {z TI TO T i1 i2 l1 l2 : Addr} {f : Bool} {oT : Obj} {k1 : Nat} {xs : Array Value} {Q : Option Value → Shared → Prop} (hh : A.handled = none) (D : ZipApart z TI TO i1 i2 l1 l2)
    (hz : IsZipHeld s.heap z TI TO T f) (hT : s.heap.get? T = some oT) (hTI : IsPair s.heap TI (.ref i1) (.ref i2))
    (h1 : s.heap.IsTupleIter i1 l1 k1) (hl1 : s.heap.IsTuple l1 xs) (hend : xs[k1]? = none)
    (hQ : ∀ h', (∀ c o, c ≠ z → c ≠ i1 → s.heap.get? c = some o → h'.get? c = some o) → Q none { s with heap := h' }) : wpAny (model prog w) A (pyNext (.ref z)) Q E s := by
  have hTy : s.TypeIs (.ref z) "zip" := ⟨_, hz, rfl⟩
  unfold pyNext
  have body : ∀ {B : Around} {Q' : Fin → Shared → Prop} {E' : Value → Shared → Prop}, B.handled = none → (∀ h' e, (∀ c o, c ≠ z → c ≠ i1 → s.heap.get? c = some o → h'.get? c = some o) → (∃ o, h'.get? e = some o ∧ o.cls = .type "StopIteration") → E' (.ref e) { s with heap := h' }) →
      wpAny (model prog w) B (Builtin.«zip.__next__» ⟨[.ref z], []⟩) Q' E' s := fun {B Q' E'} hB hE => by
    show wpAny _ _ (field (.ref z) 2 >>= _) _ _ _
    refine wpAny_bind (wpAny_field hz rfl (x := .bool false) rfl ?_)
    show wpAny _ _ (field (.ref z) 3 >>= _) _ _ _
    refine wpAny_bind (wpAny_field hz rfl (x := .ref TI) rfl ?_)
    refine wpAny_bind (wpAny_seqItems hTI rfl ?_)
    show wpAny _ _ (Builtin.SmallTypes.ownedTupleIsFree (.ref z) >>= _) _ _ _
    refine wpAny_bind (wpAny_tupleHeld_zip hz hT fun h₁ hz₁ hs₁ => ?_)
    simp only [Bool.false_eq_true, if_false]
    refine wpAny_bind ?_
    rw [← Array.forIn_toList]
    simp only [List.forIn_cons, List.forIn_nil]
    refine wpAny_bind (wpAny_bind (wpAny_holding ?_))
    show wpAny _ _ (Builtin.SmallTypes.nextOf (.ref i1) >>= _) _ _ _
    refine wpAny_bind (nextOf_tuple_end (s := { s with heap := h₁ }) hB (h1.extBut hs₁.extBut D.i1z) (hl1.extBut hs₁.extBut D.l1z) hend fun h₂ e hs₂ he => ?_)
    exact hE h₂ e (fun c o c1 c2 x => hs₂ _ _ c2 (hs₁.extBut _ _ c1 x)) he
  refine wpAny_bind (wpAny_attempt (wpAny_callSpecial?_slot (name := Str.ofString "__next__") hTy F.slot_zip_next
    (wpAny_call_entry F.slot_zip_next hTy F.entry_zip_next (body (by exact hh) fun h' e hk he => ?_) (F.args_zip_next_1 _))))
  obtain ⟨o, ho, hc⟩ := he
  refine wpAny_bind (wpAny_isInstance (T := "StopIteration") (b := true) ⟨o, ho, hc⟩ isSubtype_stop ?_)
  exact wpAny_pure (hQ _ hk)
/-- a zip of two tuples amid the filling of the list at S -/
structure ZT (h : Heap) (S z TI TO i1 i2 l1 l2 : Addr) (xs ys : Array Value) (k : Nat) : Prop where
  zz : (IsZip h z TI TO .none ∧ ∃ a b, IsPair h TO a b) ∨ ∃ (T : Addr) (f : Bool) (oT : Obj), IsZipHeld h z TI TO T f ∧ h.get? T = some oT ∧ T ≠ S ∧ T ≠ z ∧ T ≠ i1 ∧ T ≠ i2
  TI : IsPair h TI (.ref i1) (.ref i2)
  i1 : h.IsTupleIter i1 l1 k
  i2 : h.IsTupleIter i2 l2 k
  l1 : h.IsTuple l1 xs
  l2 : h.IsTuple l2 ys
variable {S z TI TO i1 i2 l1 l2 : Addr} {xs ys : Array Value} {k : Nat}
structure SApart (S z TI TO i1 i2 l1 l2 : Addr) : Prop where
  z : z ≠ S
  TI : TI ≠ S
  TO : TO ≠ S
  i1 : i1 ≠ S
  i2 : i2 ≠ S
  l1 : l1 ≠ S
  l2 : l2 ≠ S
theorem ZT.keep {h h' : Heap} (Z : ZT h S z TI TO i1 i2 l1 l2 xs ys k) (d : SApart S z TI TO i1 i2 l1 l2) (e : ∀ b o, b ≠ S → h.get? b = some o → h'.get? b = some o) : ZT h' S z TI TO i1 i2 l1 l2 xs ys k := by
  refine ⟨?_, e _ _ d.TI Z.TI, Z.i1.at fun o q => e _ o d.i1 q, Z.i2.at fun o q => e _ o d.i2 q, Z.l1.at fun o q => e _ o d.l1 q, Z.l2.at fun o q => e _ o d.l2 q⟩
  rcases Z.zz with ⟨a, x, y, b⟩ | ⟨T, f, oT, a, b, c, c2⟩
  · exact .inl ⟨e _ _ d.z a, x, y, e _ _ d.TO b⟩
  · exact .inr ⟨T, f, oT, e _ _ d.z a, e _ _ c b, c, c2⟩
theorem zt_item {x y : Value} {Q : Option Value → Shared → Prop} (D : ZipApart z TI TO i1 i2 l1 l2) (Z : ZT s.heap S z TI TO i1 i2 l1 l2 xs ys k) (hS : S < s.heap.objs.size) (hx : xs[k]? = some x) (hy : ys[k]? = some y)
    (TIl2 : l2 ≠ TI)
    (hQ : ∀ h', ZT h' S z TI TO i1 i2 l1 l2 xs ys (k + 1) → IsPair h' s.heap.objs.size x y → h'.objs.size = s.heap.objs.size + 1 → (∀ c o, c ≠ z → c ≠ TO → c ≠ i1 → c ≠ i2 → s.heap.get? c = some o → h'.get? c = some o) → Q (some (.ref s.heap.objs.size)) { s with heap := h' }) :
    wpAny (model prog w) A (pyNext (.ref z)) Q E s := by
  rcases Z.zz with ⟨hz, a, b, hTO⟩ | ⟨T, f, oT, hz, hT, n1, n2, n3, n4⟩
  · have zl : z < s.heap.objs.size := Heap.lt_size hz
    obtain ⟨_, e1, _⟩ := id Z.i1
    obtain ⟨_, e2, _⟩ := id Z.i2
    have l1' := Heap.lt_size e1
    have l2' := Heap.lt_size e2
    refine pyNext_zipT_item D hz Z.TI hTO Z.i1 Z.i2 Z.l1 Z.l2 hx hy fun h' a1 a2 a3 a4 a5 a6 a7 => hQ h' ⟨.inr ⟨_, false, _, a1, a5, Nat.ne_of_gt hS, Nat.ne_of_gt zl, Nat.ne_of_gt l1', Nat.ne_of_gt l2'⟩, a7 _ _ D.TIz D.TITO D.TIi1 D.TIi2 Z.TI, a3, a4, Z.l1.at fun o q => a7 _ o D.l1z D.l1TO D.l1i1 D.l1i2 q, Z.l2.at fun o q => a7 _ o D.l2z D.l2TO D.l2i1 D.l2i2 q⟩ a5 a6 a7
  · refine held_item D hz hT Z.TI Z.i1 Z.i2 Z.l1 Z.l2 hx hy fun h' a1 a3 a4 a5 a6 a7 => hQ h' ⟨.inr ⟨T, true, oT, a1, a7 _ _ n2 n3 n4 hT, n1, n2, n3, n4⟩, a7 _ _ D.TIz D.TIi1 D.TIi2 Z.TI, a3, a4, Z.l1.at fun o q => a7 _ o D.l1z D.l1i1 D.l1i2 q, Z.l2.at fun o q => a7 _ o D.l2z D.l2i1 D.l2i2 q⟩ a5 a6 fun c o c1 _ c3 c4 q => a7 c o c1 c3 c4 q
theorem zt_end {Q : Option Value → Shared → Prop} (hh : A.handled = none) (D : ZipApart z TI TO i1 i2 l1 l2) (Z : ZT s.heap S z TI TO i1 i2 l1 l2 xs ys k) (hx : xs[k]? = none)
    (hQ : ∀ h', (∀ c o, c ≠ z → c ≠ TO → c ≠ i1 → c ≠ i2 → s.heap.get? c = some o → h'.get? c = some o) → Q none { s with heap := h' }) : wpAny (model prog w) A (pyNext (.ref z)) Q E s := by
  rcases Z.zz with ⟨hz, a, b, hTO⟩ | ⟨T, f, oT, hz, hT, n1, n2, n3, n4⟩
  · exact pyNext_zipT_end hh D hz Z.TI hTO Z.i1 Z.i2 Z.l1 Z.l2 (.inl hx) hQ
  · exact held_end hh D hz hT Z.TI Z.i1 Z.l1 hx fun h' k => hQ h' fun c o c1 _ c3 _ q => k c o c1 c3 q
/-- the pairs that were made -/
structure Prs (h : Heap) (S : Addr) (xs ys : Array Value) (ts : List Addr) : Prop where
  rise : ts.Pairwise (· < ·)
  above : ∀ t ∈ ts, S < t ∧ t < h.objs.size
  pair : ∀ (j : Nat) (t : Addr), ts[j]? = some t → ∃ x y, xs[j]? = some x ∧ ys[j]? = some y ∧ IsPair h t x y
theorem ext_loop {R : Result → Shared → Prop} {res : Value} (hh : A.handled = none) (D : ZipApart z TI TO i1 i2 l1 l2) (d : SApart S z TI TO i1 i2 l1 l2) (lo : z < S ∧ TO < S ∧ i1 < S ∧ i2 < S) (TIl2 : l2 ≠ TI) (hxy : xs.size = ys.size) (hn : xs.size ≤ sizeLine) :
    ∀ (m k : Nat) (ts : List Addr) (c : Nat) (s : Shared), k + m = xs.size → ts.length = k → ZT s.heap S z TI TO i1 i2 l1 l2 xs ys k → s.heap.get? S = some { cls := .type "list", dict := none, data := .seq (ts.map Value.ref).toArray c, slots := #[] } → Prs s.heap S xs ys ts →
      (∀ h' ts' c', ts'.length = xs.size → h'.get? S = some { cls := .type "list", dict := none, data := .seq (ts'.map Value.ref).toArray c', slots := #[] } → Prs h' S xs ys ts' → (∀ b o, b ≠ S → b ≠ z → b ≠ TO → b ≠ i1 → b ≠ i2 → s.heap.get? b = some o → h'.get? b = some o) → R (.ok (.ret res)) { s with heap := h' }) →
      codeAny (model prog w) A (.builtin "list.extend.loop" ⟨[.ref S, .ref z, res], []⟩) R s := by
  intro m
  induction m with
  | zero =>
    intro k ts c s hk hl Z hS P hR
    refine codeAny_builtin F.entry_extend_loop ?_
    rw [Around.under_plainId F.plain_extend_loop _]
    show wpAny _ A.in1 (pyNext (.ref z) >>= _) _ _ s
    refine wpAny_bind (zt_end (A := A.in1) hh D Z (Array.getElem?_eq_none (by omega)) fun h' kp => ?_)
    have up : ∀ t ∈ ts, t ≠ z ∧ t ≠ TO ∧ t ≠ i1 ∧ t ≠ i2 := fun t ht => by
      have := (P.above t ht).1
      have q := Nat.lt_trans lo.1 this
      exact ⟨Nat.ne_of_gt (Nat.lt_trans lo.1 this), Nat.ne_of_gt (Nat.lt_trans lo.2.1 this), Nat.ne_of_gt (Nat.lt_trans lo.2.2.1 this), Nat.ne_of_gt (Nat.lt_trans lo.2.2.2 this)⟩
    refine wpAny_pure (hR h' ts c (by omega) (kp _ _ d.z.symm d.TO.symm d.i1.symm d.i2.symm hS) ⟨P.rise, fun t ht => ⟨(P.above t ht).1, ?_⟩, fun j t hj => ?_⟩ fun b o _ b1 b2 b3 b4 e => kp b o b1 b2 b3 b4 e)
    · obtain ⟨j, hj⟩ := List.getElem?_of_mem ht
      obtain ⟨x, y, _, _, hp⟩ := P.pair j t hj
      obtain ⟨n1, n2, n3, n4⟩ := up t ht
      exact Heap.lt_size (kp _ _ n1 n2 n3 n4 hp)
    · obtain ⟨x, y, e1, e2, hp⟩ := P.pair j t hj
      obtain ⟨n1, n2, n3, n4⟩ := up t (List.mem_of_getElem? hj)
      exact ⟨x, y, e1, e2, kp _ _ n1 n2 n3 n4 hp⟩
  | succ m ih =>
    intro k ts c s hk hl Z hS P hR
    obtain ⟨x, hx⟩ : ∃ x, xs[k]? = some x := ⟨xs[k]'(by omega), Array.getElem?_eq_getElem (by omega)⟩
    obtain ⟨y, hy⟩ : ∃ y, ys[k]? = some y := ⟨ys[k]'(by omega), Array.getElem?_eq_getElem (by omega)⟩
    refine codeAny_builtin F.entry_extend_loop ?_
    rw [Around.under_plainId F.plain_extend_loop _]
    show wpAny _ A.in1 (pyNext (.ref z) >>= _) _ _ s
    have hSl := Heap.lt_size hS
    refine wpAny_bind (zt_item (A := A.in1) D Z hSl hx hy TIl2 fun h1 Z1 hp1 sz1 kp => ?_)
    have hS1 := kp _ _ d.z.symm d.TO.symm d.i1.symm d.i2.symm hS
    show wpAny _ A.in1 (updateSeq S (·.push (.ref s.heap.objs.size)) >>= _) _ _ _
    have up : ∀ t ∈ ts, t ≠ z ∧ t ≠ TO ∧ t ≠ i1 ∧ t ≠ i2 ∧ t ≠ S := fun t ht => by
      have := (P.above t ht).1
      exact ⟨Nat.ne_of_gt (Nat.lt_trans lo.1 this), Nat.ne_of_gt (Nat.lt_trans lo.2.1 this), Nat.ne_of_gt (Nat.lt_trans lo.2.2.1 this), Nat.ne_of_gt (Nat.lt_trans lo.2.2.2 this), Nat.ne_of_gt this⟩
    have kS : ∀ (f : Obj → Obj) b o, b ≠ S → h1.get? b = some o → (h1.update S f).get? b = some o := fun f b o hb e => (Heap.get?_update_other _ _ (Ne.symm hb)).trans e
    have szS : ∀ f : Obj → Obj, (h1.update S f).objs.size = h1.objs.size := fun f => by exact (Heap.SameBut.update ..).1
    obtain ⟨c2, hc2⟩ : ∃ c2, (h1.update S (Obj.mapSeq (·.push (Value.ref s.heap.objs.size)))).get? S = some { cls := .type "list", dict := none, data := .seq ((ts ++ [s.heap.objs.size]).map Value.ref).toArray c2, slots := #[] } := by
      have e : ((ts ++ [s.heap.objs.size]).map Value.ref).toArray = ((ts.map Value.ref).toArray).push (.ref s.heap.objs.size) := by rw [List.map_append]; simp
      rw [e]
      exact ⟨_, Heap.get?_update_self _ hS1 rfl⟩
    refine wpAny_bind ?_
    refine wpAny_updateSeq hS1 rfl (wpAny_pure ⟨plainId_quiet F.plain_extend_loop _, ih (k + 1) (ts ++ [s.heap.objs.size]) c2 { s with heap := h1.update S (Obj.mapSeq (·.push (.ref s.heap.objs.size))) } (by omega) (by rw [List.length_append, hl]; rfl) (Z1.keep d (kS _)) hc2 ⟨?_, fun t ht => ?_, fun j t hj => ?_⟩ fun h' ts' c' q1 q2 q3 q4 => ?_⟩) ?_ ?_
    · rw [List.pairwise_append]
      refine ⟨P.rise, List.pairwise_singleton _ _, fun a ha b hb => ?_⟩
      rw [List.mem_singleton.mp hb]
      exact (P.above a ha).2
    · show S < t ∧ t < (h1.update S _).objs.size
      rw [szS, sz1]
      rcases List.mem_append.mp ht with ht | ht
      · exact ⟨(P.above t ht).1, Nat.lt_succ_of_lt (P.above t ht).2⟩
      · rw [List.mem_singleton.mp ht]
        exact ⟨hSl, Nat.lt_succ_self _⟩
    · rw [List.getElem?_append] at hj
      split at hj
      · obtain ⟨x', y', e1, e2, hp⟩ := P.pair j t hj
        obtain ⟨n1, n2, n3, n4, n5⟩ := up t (List.mem_of_getElem? hj)
        exact ⟨x', y', e1, e2, kS _ _ _ n5 (kp _ _ n1 n2 n3 n4 hp)⟩
      · have ej : j = k := by
          have := (List.getElem?_eq_some_iff.mp hj).1
          simp at this
          omega
        subst ej
        have et : s.heap.objs.size = t := by rw [hl, Nat.sub_self] at hj; exact Option.some.inj hj
        subst et
        exact ⟨x, y, hx, hy, kS _ _ _ (Nat.ne_of_gt hSl) hp1⟩
    · refine hR h' ts' c' q1 q2 q3 fun b o b1 b2 b3 b4 b5 e => q4 b o b1 b2 b3 b4 b5 (kS _ _ _ b1 (kp b o b2 b3 b4 b5 e))
    · show (ts.map Value.ref).toArray.size ≤ sizeLine
      simp
      omega
    · show ((ts.map Value.ref).toArray.push _).size ≤ sizeLine + 1
      simp
      omega

theorem list_zip {l1 l2 : Addr} {Q : Value → Shared → Prop} (hh : A.handled = none) (D : ZipApart z TI TO i1 i2 l1 l2) (TIl2 : l2 ≠ TI) (hxy : xs.size = ys.size) (hn : xs.size ≤ sizeLine)
    (hz : IsZip s.heap z TI TO .none) (hTI : IsPair s.heap TI (.ref i1) (.ref i2)) {a b : Value} (hTO : IsPair s.heap TO a b) (h1 : s.heap.IsTupleIter i1 l1 0) (h2 : s.heap.IsTupleIter i2 l2 0) (hl1 : s.heap.IsTuple l1 xs) (hl2 : s.heap.IsTuple l2 ys)
    (hQ : ∀ h' ts c, ts.length = xs.size → h'.get? s.heap.objs.size = some { cls := .type "list", dict := none, data := .seq (ts.map Value.ref).toArray c, slots := #[] } → Prs h' s.heap.objs.size xs ys ts →
      (∀ b o, b ≠ z → b ≠ TO → b ≠ i1 → b ≠ i2 → s.heap.get? b = some o → h'.get? b = some o) → Q (.ref s.heap.objs.size) { s with heap := h' }) :
    wpAny (model prog w) A (call (.type "list") [.ref z]) Q E s := by
  have lt1 : ∀ {b : Addr} {o : Obj}, s.heap.get? b = some o → b < s.heap.objs.size := fun e => Heap.lt_size e
  obtain ⟨o1, e1, _⟩ := id h1
  obtain ⟨o2, e2, _⟩ := id h2
  obtain ⟨o3, e3, _⟩ := id hl1
  obtain ⟨o4, e4, _⟩ := id hl2
  have d : SApart s.heap.objs.size z TI TO i1 i2 l1 l2 := ⟨Nat.ne_of_lt (lt1 hz), Nat.ne_of_lt (lt1 hTI), Nat.ne_of_lt (lt1 hTO), Nat.ne_of_lt (lt1 e1), Nat.ne_of_lt (lt1 e2), Nat.ne_of_lt (lt1 e3), Nat.ne_of_lt (lt1 e4)⟩
  refine callType_codes (Q₁ := fun obj s₁ => obj = .ref s.heap.objs.size ∧ s₁ = { s with heap := s.heap.push { cls := .type "list", data := .seq #[] } }) F.called_list (F.typeCall_list_1 _) F.entry_list_init
    (code_list_new _ ⟨rfl, rfl⟩) fun obj s₁ h₁ => ?_
  obtain ⟨rfl, rfl⟩ := h₁
  have hS : (s.heap.push { cls := .type "list", data := .seq #[] }).get? s.heap.objs.size = some { cls := .type "list", data := .seq #[] } := Heap.get?_push_size _ rfl
  refine ⟨⟨_, hS, rfl⟩, F.args_list_init_2 _ _, ?_⟩
  show wpAny _ A.in1.in1 (do let old ← Builtin.List.listItems (.ref s.heap.objs.size); Builtin.List.listUpdate (.ref s.heap.objs.size) (fun _ => #[]); letGo old.toList.reverse; Builtin.List.listExtendWith (.ref s.heap.objs.size) (.ref z) .none) _ _ _
  refine wpAny_bind ?_
  unfold Builtin.List.listItems
  refine wpAny_bind (wpAny_seqItems hS rfl (wpAny_pure ?_))
  show wpAny _ A.in1.in1 (updateSeq s.heap.objs.size (fun _ => #[]) >>= fun _ => letGo (#[] : Array Value).toList.reverse >>= fun _ => Builtin.List.listExtendWith (.ref s.heap.objs.size) (.ref z) .none) _ _ _
  refine wpAny_bind (wpAny_updateSeq hS rfl ?_)
  have hS2 := Heap.get?_update_self (Obj.mapSeq (fun _ => (#[] : Array Value))) hS rfl
  refine wpAny_bind (wpAny_letGo ?_)
  unfold Builtin.List.listExtendWith
  have up : ∀ (h : Heap) (f : Obj → Obj), (∀ b o, s.heap.get? b = some o → h.get? b = some o) → ∀ b o, s.heap.get? b = some o → (h.update s.heap.objs.size f).get? b = some o := fun h f q b o e =>
    (Heap.get?_update_other _ _ (Ne.symm (Nat.ne_of_lt (Heap.lt_size e)))).trans (q b o e)
  have k1 : ∀ b o, s.heap.get? b = some o → (s.heap.push { cls := .type "list", data := .seq #[] }).get? b = some o := fun b o e => Heap.get?_push_of_some _ e
  have k2 := up _ (Obj.mapSeq (fun _ => (#[] : Array Value))) k1
  have zty : ∀ {h : Heap} {g d t o}, (∀ b o, s.heap.get? b = some o → h.get? b = some o) → (⟨h, g, d, t, o⟩ : Shared).TypeIs (.ref z) "zip" := fun {h} {g d t o} q => ⟨_, q _ _ hz, rfl⟩
  refine wpAny_bind (wpAny_typeOf (zty k2) ?_)
  have q1 : Builtin.List.listSameRef (.ref s.heap.objs.size) (.ref z) = false := by simp [Builtin.List.listSameRef, Ne.symm d.z]
  have q2 : (Value.type "zip" == Value.type "list") = false := by decide
  have q3 : (Value.type "zip" == Value.type "tuple") = false := by decide
  simp only [q1, q2, q3, Bool.or_false, Bool.false_eq_true, if_false]
  refine wpAny_bind (wpAny_pyIter_zip (s := { s with heap := _ }) (k2 _ _ hz) ?_)
  refine wpAny_bind (wpAny_holding ?_)
  unfold Builtin.List.listLengthHint
  refine wpAny_bind (wpAny_specialOf (zty k2) zip_no_len ?_)
  show wpAny _ A.in1.in1 (specialOf (Value.ref z) (Str.ofString "__length_hint__") >>= _) _ _ _
  refine wpAny_bind (wpAny_specialOf (zty k2) zip_no_hint ?_)
  refine wpAny_pure ?_
  show wpAny _ A.in1.in1 (rule "list.extend.makes-room" >>= fun _ => Builtin.List.listTouch (.ref s.heap.objs.size) >>= fun _ =>
    again (.builtin "list.extend.loop" ⟨[.ref s.heap.objs.size, .ref z, .none], []⟩)) _ _ _
  refine wpAny_bind (wpAny_rule ?_)
  refine wpAny_bind ?_
  show wpAny _ A.in1.in1 (updateSeq s.heap.objs.size (·.push .none) >>= fun _ => updateSeq s.heap.objs.size (·.pop)) _ _ _
  refine wpAny_bind (wpAny_updateSeq hS2 rfl ?_)
  have hS3 := Heap.get?_update_self (Obj.mapSeq (·.push Value.none)) hS2 rfl
  refine wpAny_updateSeq (hz := by seq_fits) hS3 rfl ?_
  have hS4 := Heap.get?_update_self (Obj.mapSeq (·.pop)) hS3 rfl
  have k4 := up _ (Obj.mapSeq (·.pop)) (up _ (Obj.mapSeq (·.push Value.none)) k2)
  refine wpAny_pure ⟨plainId_quiet F.plain_extend_loop _, ?_⟩
  refine ext_loop (A := A.in1) hh D d ⟨lt1 hz, lt1 hTO, lt1 e1, lt1 e2⟩ TIl2 hxy hn xs.size 0 [] _ _ (Nat.zero_add _) rfl ⟨.inl ⟨k4 _ _ hz, a, b, k4 _ _ hTO⟩, k4 _ _ hTI, h1.at fun o q => k4 _ o q, h2.at fun o q => k4 _ o q, hl1.at fun o q => k4 _ o q, hl2.at fun o q => k4 _ o q⟩ hS4 ⟨.nil, (fun t ht => nomatch ht), (fun j t hj => nomatch (show (none : Option Addr) = some t from hj))⟩ fun h' ts c q1 q2 q3 q4 => ?_
  exact ⟨rfl, hQ h' ts c q1 q2 q3 fun b o b1 b2 b3 b4 e => q4 b o (Nat.ne_of_lt (Heap.lt_size e)) b1 b2 b3 b4 (k4 b o e)⟩
end
end ZLs
namespace L2
open PySem PySem.Spec PyProof.Rows RZ
/-- list(zip(a, b)), two tuples of one length -/
def tListZip (K : PySem.W.Frag) (ta : TA) : TE := fun σ H Q => ta σ H fun vs H1 => ∃ (a b : Addr) (xs ys : List V), vs = [.ref a, .ref b] ∧ SqT K H1 a xs ∧ SqT K H1 b ys ∧ xs.length = ys.length ∧
  ∀ (H' : Hp) (p : Addr) (ts : List Addr), (∀ b o, H1 b = some o → H' b = some o) → H1 p = none → H' p = some (.lst (ts.map V.ref)) → Paired (fun t (q : V × V) => H' t = some (.tup [q.1, q.2])) ts (xs.zip ys) → Q (.ref p) H'
theorem paired_zip {R : Addr → V × V → Prop} : ∀ {ts : List Addr} {xs ys : List V}, xs.length = ys.length → ts.length = xs.length → (∀ (j : Nat) (t : Addr), ts[j]? = some t → ∃ x y, xs[j]? = some x ∧ ys[j]? = some y ∧ R t (x, y)) → Paired R ts (xs.zip ys)
  | [], [], [], _, _, _ => .nil
  | t :: ts, x :: xs, y :: ys, h1, h2, h => by
    obtain ⟨x', y', e1, e2, r⟩ := h 0 t rfl
    cases e1
    cases e2
    exact .cons r (paired_zip (Nat.succ.inj h1) (Nat.succ.inj h2) fun j t hj => h (j + 1) t hj)
  | [], [], _ :: _, h, _, _ => nomatch h
  | [], _ :: _, _, _, h, _ => nomatch h
  | _ :: _, [], _, _, h, _ => nomatch h
  | _ :: _, _ :: _, [], h, _, _ => nomatch h
theorem refs_vals : ∀ ts : List Addr, Vals (ts.map V.ref) (ts.map Value.ref)
  | [] => .nil
  | t :: r => .cons rfl (refs_vals r)
theorem layP {X : Cx} {pins : List (Addr × Obj)} {σ : St} {H0 : Hp} {s : Shared} {h' : Heap} {tk : Nat} (I0 : Inv X pins σ H0 s) : ∀ (ts : List Addr) (qs : List (V × V)) (H1 : Hp), Inv X pins σ H1 { s with heap := h', toks := tk } → ts.Nodup → (∀ t ∈ ts, s.heap.objs.size ≤ t ∧ H1 t = none) →
    Paired (fun t (q : V × V) => ∀ H2, ObjOk X.prog X.w H2 h' t (.tup [q.1, q.2])) ts qs → ∃ H2, Inv X pins σ H2 { s with heap := h', toks := tk } ∧ (∀ b, b ∉ ts → H2 b = H1 b) ∧ Paired (fun t (q : V × V) => H2 t = some (.tup [q.1, q.2])) ts qs := by
  intro ts
  induction ts with
  | nil =>
    intro qs H1 I1 _ _ p
    cases p
    exact ⟨H1, I1, fun _ _ => rfl, .nil⟩
  | cons t ts ih =>
    intro qs H1 I1 nd hs p
    obtain ⟨q, qs, rfl⟩ : ∃ q r, qs = q :: r := by
      cases p with
      | cons a b => exact ⟨_, _, rfl⟩
    obtain ⟨ok, r⟩ : (∀ H2, ObjOk X.prog X.w H2 h' t (.tup [q.1, q.2])) ∧ Paired (fun t (q : V × V) => ∀ H2, ObjOk X.prog X.w H2 h' t (.tup [q.1, q.2])) ts qs := by
      cases p with
      | cons a b => exact ⟨a, b⟩
    obtain ⟨a, b⟩ := hs t List.mem_cons_self
    rw [List.nodup_cons] at nd
    have I2 : Inv X pins σ (upd H1 t (.tup [q.1, q.2])) { s with heap := h', toks := tk } := I1.take (h' := h') (t' := tk) (fun b ob _ e => e) (I0.fpOk a b) (ok _)
    obtain ⟨H2, I3, g, p⟩ := ih qs _ I2 nd.2 (fun c hc => ⟨(hs c (List.mem_cons_of_mem _ hc)).1, by rw [upd_ne (show c ≠ t from fun z => nd.1 (by rw [← z]; exact hc))]; exact (hs c (List.mem_cons_of_mem _ hc)).2⟩) r
    refine ⟨H2, I3, fun b hb => ?_, .cons ?_ p⟩
    · rw [g b fun z => hb (List.mem_cons_of_mem _ z), upd_ne (show b ≠ t from fun z => hb (by rw [z]; exact List.mem_cons_self))]
    · rw [g t nd.1, upd_same]
theorem pe_listZip {X : Cx} {x x2 : Str} {e e2 : Expr} {ta : TA} {p p2 pos pos2 : Pos} (hc : X.calm = true) (hg : Gl X x) (hm : X.mg x = none) (hv : bootBuiltins x = some (.type "list")) (hg2 : Gl X x2) (hm2 : X.mg x2 = none) (hv2 : bootBuiltins x2 = some (.type "zip")) (ha : PA X [e, e2] ta)
    (hn : x ≠ "__name__" := by decide) (hdb : (x == ("__debug__" : Str)) = false := by decide) (hn2 : x2 ≠ "__name__" := by decide) (hdb2 : (x2 == ("__debug__" : Str)) = false := by decide)
    (he : starEach [.Call (.Name x2 p2) [e, e2] [] pos2] X.env = (false, eval (.Call (.Name x2 p2) [e, e2] [] pos2) X.env) :: starEach [] X.env := by rfl)
    (hs : starEach [e, e2] X.env = (false, eval e X.env) :: starEach [e2] X.env := by rfl) (hpl : (backTo pos2 (starEach [e2] X.env)).any (·.1) = false := by rfl) :
    PE X (.Call (.Name x p) [.Call (.Name x2 p2) [e, e2] [] pos2] [] pos) (tListZip X.K ta) := by
  refine ⟨fun pins s σ H Q I h => ?_⟩
  refine wpAny_Call_Name_kw (ld_blt I hg hm hv ?_ hn hdb)
  refine PyProof.Rows.callWith_type1 ?_ he (by rfl)
  rw [he]
  show wpAny _ _ (spliced ((false, eval (.Call (.Name x2 p2) [e, e2] [] pos2) X.env) :: backTo pos (starEach [] X.env))) _ _ s
  refine Calls.spliced_cons ?_
  refine wpAny_Call_Name_kw (ld_blt I hg2 hm2 hv2 ?_ hn2 hdb2)
  refine PyProof.Rows.callWith_type1 (thn (ha.run pos2 pins s σ H _ I h) fun us s1 ⟨vs, H1, I1, r1, q1⟩ => ?_) hs hpl
  obtain ⟨a, b, xs, ys, rfl, ha1, hb1, hxy, k⟩ := q1
  obtain ⟨u1, u2, rfl, ra, rb⟩ := vals2 r1
  cases ra
  cases rb
  obtain ⟨its, rv, p1, hz1⟩ := I1.tuple ha1
  obtain ⟨its2, rv2, p2', hz2⟩ := I1.tuple hb1
  have l1 := rv.length
  have l2 := rv2.length
  have q1' : s1.heap.IsTuple a its.toArray := p1
  have q2' : s1.heap.IsTuple b its2.toArray := p2'
  obtain ⟨oa, ea, _⟩ := id q1'
  obtain ⟨ob, eb, _⟩ := id q2'
  refine call_zipT q1' q2' fun h' hz hTI hTO h1 h2 hsz hk => ?_
  refine Calls.spliced_nil ?_
  have D := PySem.W.ktu_apart s1.heap.objs.size a b (Heap.lt_size ea) (Heap.lt_size eb)
  have nb : b ≠ s1.heap.objs.size + 2 := Nat.ne_of_lt (Nat.lt_of_lt_of_le (Heap.lt_size eb) (Nat.le_add_right _ _))
  refine ZLs.list_zip (s := { s1 with heap := h' }) (I.ok.hd hc) D nb (by simp; omega) (by simp; omega) hz hTI hTO h1 h2 (q1'.at fun o q => hk _ o q) (q2'.at fun o q => hk _ o q) fun h2 ts c lt hS P kp => ?_
  have k02 : ∀ b o, s1.heap.get? b = some o → h2.get? b = some o := fun b o e => by
    have bl := Heap.lt_size e
    exact kp b o (Nat.ne_of_lt (Nat.lt_of_lt_of_le bl (Nat.le_add_right _ _))) (Nat.ne_of_lt (Nat.lt_of_lt_of_le bl (Nat.le_add_right _ _))) (Nat.ne_of_lt bl) (Nat.ne_of_lt (Nat.lt_of_lt_of_le bl (Nat.le_add_right _ _))) (hk b o e)
  have I2 : Inv X pins σ H1 { s1 with heap := h2 } := I1.kept (t' := s1.toks) k02
  have Sl : s1.heap.objs.size ≤ h'.objs.size := by rw [hsz]; exact Nat.le_add_right _ _
  have pv : ∀ (j : Nat) (t : Addr), ts[j]? = some t → ∃ x y, xs[j]? = some x ∧ ys[j]? = some y ∧ ∀ H2, ObjOk X.prog X.w H2 h2 t (.tup [x, y]) := fun j t hj => by
    obtain ⟨u, v, e1, e2, hp⟩ := P.pair j t hj
    have e1' : its[j]? = some u := by simpa using e1
    have e2' : its2[j]? = some v := by simpa using e2
    obtain ⟨x, ex⟩ : ∃ x, xs[j]? = some x := ⟨_, List.getElem?_eq_getElem (by have := (List.getElem?_eq_some_iff.mp e1').1; omega)⟩
    obtain ⟨y, ey⟩ : ∃ y, ys[j]? = some y := ⟨_, List.getElem?_eq_getElem (by have := (List.getElem?_eq_some_iff.mp e2').1; omega)⟩
    obtain ⟨u', eu, ru⟩ := rv.get ex
    obtain ⟨v', ev, rv'⟩ := rv2.get ey
    obtain rfl : u' = u := Option.some.inj (eu.symm.trans e1')
    obtain rfl : v' = v := Option.some.inj (ev.symm.trans e2')
    exact ⟨x, y, ex, ey, fun H2 => ⟨by show 2 ≤ sizeLine; decide, [u', v'], .cons ru (.cons rv' .nil), ⟨_, hp, rfl, _, rfl⟩⟩⟩
  have lts : ts.length = xs.length := by rw [lt]; simp; omega
  have lo : ∀ t ∈ ts, h'.objs.size < t ∧ s1.heap.objs.size ≤ t := fun t ht => ⟨(P.above t ht).1, Nat.le_trans Sl (Nat.le_of_lt (P.above t ht).1)⟩
  obtain ⟨H2, I3, g, q⟩ := layP (s := s1) (h' := h2) (tk := s1.toks) I1 ts (xs.zip ys) H1 I2 (P.rise.imp fun h => Nat.ne_of_lt h) (fun t ht => ⟨(lo t ht).2, I1.hok.fresh (lo t ht).2⟩) (paired_zip hxy lts pv)
  have nS1 : H1 h'.objs.size = none := I1.hok.fresh Sl
  have nS2 : H2 h'.objs.size = none := by
    rw [g _ fun z => absurd (lo _ z).1 (Nat.lt_irrefl _)]
    exact nS1
  have I4 : Inv X pins σ (upd H2 h'.objs.size (.lst (ts.map V.ref))) { s1 with heap := h2 } := I3.take (h' := h2) (t' := s1.toks) (fun b ob _ e => e) (I1.fpOk Sl nS2)
    ⟨by rw [List.length_map]; omega, ts.map Value.ref, c, refs_vals ts, hS⟩
  have g2 : ∀ b o, H1 b = some o → H2 b = some o := fun b o e => by
    rw [g b fun z => ?_]
    · exact e
    · rw [I1.hok.fresh (lo b z).2] at e
      cases e
  refine ⟨.ref h'.objs.size, _, I4, rfl, k _ h'.objs.size ts (fun b o e => ?_) nS1 upd_same (Paired.mapP q fun t q e => ?_)⟩
  · rw [upd_ne (ne_of_none (g2 b o e) nS2)]
    exact g2 b o e
  · rw [upd_ne (ne_of_none e nS2)]
    exact e
end L2

/-! zip of two, each a list or a tuple -/
namespace L2
open PySem PySem.Spec PyProof.Rows
/-- a list (true) or a tuple (false) -/
def SqB : Bool → PySem.W.Frag → Hp → Addr → List V → Prop
  | true => fun K H a xs => SqL K H a xs
  | false => fun K H a xs => SqT K H a xs
def ItB : Bool → Heap → Addr → Addr → Nat → Prop
  | true => fun h it a i => h.IsListIter it a i
  | false => fun h it a i => h.IsTupleIter it a i
def AtB : Bool → Heap → Addr → Array Value → Prop
  | true => fun h a its => h.IsList a its
  | false => fun h a its => h.IsTuple a its
def obB : Bool → Addr → Obj
  | true => fun a => { cls := .type "list_iterator", data := .fields #[.ref a, .int 0 0] }
  | false => fun a => { cls := .type "tuple_iterator", data := .fields #[.ref a, .int 0 0] }
theorem ItB.obj {k : Bool} {h : Heap} {it a : Addr} {i : Nat} (x : ItB k h it a i) : ∃ o, h.get? it = some o ∧ ∀ v, o.data ≠ .cell v := by
  cases k with
  | true => obtain ⟨o, e, _, d⟩ := x; exact ⟨o, e, fun v q => by rw [d] at q; cases q⟩
  | false => obtain ⟨o, e, _, d⟩ := x; exact ⟨o, e, fun v q => by rw [d] at q; cases q⟩
theorem ItB.at {k : Bool} {h h' : Heap} {it a : Addr} {i : Nat} (x : ItB k h it a i) (e : ∀ o, h.get? it = some o → h'.get? it = some o) : ItB k h' it a i := by
  cases k with
  | true => exact Heap.IsListIter.at (show h.IsListIter it a i from x) e
  | false => exact Heap.IsTupleIter.at (show h.IsTupleIter it a i from x) e
theorem AtB.at {k : Bool} {h h' : Heap} {a : Addr} {its : Array Value} (x : AtB k h a its) (e : ∀ o, h.get? a = some o → h'.get? a = some o) : AtB k h' a its := by
  cases k with
  | true => exact Heap.IsList.at (show h.IsList a its from x) e
  | false => exact Heap.IsTuple.at (show h.IsTuple a its from x) e
theorem AtB.lt {k : Bool} {h : Heap} {a : Addr} {its : Array Value} (x : AtB k h a its) : a < h.objs.size := by
  cases k with
  | true => obtain ⟨o, e, _⟩ := x; exact Heap.lt_size e
  | false => obtain ⟨o, e, _⟩ := x; exact Heap.lt_size e
theorem drawsB {prog : Program} {w : World} {A : Around} (k : Bool) (hh : A.handled = none) (it a : Addr) (hne : a ≠ it) (items : Array Value) :
    Draws prog w A it [it, a] items.size (fun i v => items[i]? = some v) (fun i h => ItB k h it a i ∧ AtB k h a items) := by
  cases k with
  | true => exact Draws.list hh it a hne items
  | false => exact Draws.tuple hh it a hne items
theorem beginsB (k : Bool) (a : Addr) (items : Array Value) : Begins (.ref a) (obB k a) fun h => AtB k h a items := by
  cases k with
  | true => exact begins_list a items
  | false => exact begins_tuple a items
theorem itB_new (k : Bool) {h : Heap} {it a : Addr} (e : h.get? it = some (obB k a)) : ItB k h it a 0 := by
  cases k with
  | true => exact ⟨_, e, rfl, rfl⟩
  | false => exact ⟨_, e, rfl, rfl⟩
section
variable {X : Cx} {pins : List (Addr × Obj)} {σ : St} {H : Hp} {s : Shared}
theorem Inv.sqB (I : Inv X pins σ H s) {k : Bool} {a : Addr} {xs : List V} (h : SqB k X.K H a xs) : ∃ its, Vals xs its ∧ AtB k s.heap a its.toArray ∧ xs.length ≤ sizeLine := by
  cases k with
  | true => obtain ⟨its, rv, p, z⟩ := I.list h; exact ⟨its, rv, p.isList, by rw [rv.length]; have := rv.length; omega⟩
  | false => obtain ⟨its, rv, p, z⟩ := I.tuple h; exact ⟨its, rv, p, by rw [rv.length]; have := rv.length; omega⟩
theorem Inv.sqB_inj (I : Inv X pins σ H s) {k : Bool} {a : Addr} {xs ys : List V} (h : SqB k X.K H a xs) (h' : SqB k X.K H a ys) : xs = ys := by
  cases k with
  | true => exact I.list_inj h h'
  | false => exact I.tuple_inj h h'
end
def ItzM (ka kb : Bool) (K : PySem.W.Frag) (a b : Addr) : It :=
  ⟨fun i H => ∃ (xs ys : List V) (x y : V), SqB ka K H a xs ∧ SqB kb K H b ys ∧ xs[i]? = some x ∧ ys[i]? = some y,
    fun i H v H' => ∃ T x y, v = .ref T ∧ H T = none ∧ H' = upd H T (.tup [x, y]) ∧ (∀ xs, SqB ka K H a xs → xs[i]? = some x) ∧ ∀ ys, SqB kb K H b ys → ys[i]? = some y,
    fun i H => ∃ xs ys : List V, SqB ka K H a xs ∧ SqB kb K H b ys ∧ i ≤ xs.length ∧ i ≤ ys.length ∧ (i = xs.length ∨ i = ys.length)⟩
theorem turn_zipM {P : Program} {w : World} {K : PySem.W.Frag} {elts : List Expr} {kk : Nat} {tpos : Pos} {ka kb : Bool} {a b z TI TO i1 i2 : Addr} (D : ZipSep2 z TI TO i1 i2 [i1, a] [i2, b]) (na : a ≠ i1) (nb : b ≠ i2) :
    Turn P w K (.Tuple elts kk tpos) (ItzM ka kb K a b) [z, TI, TO, i1, i2] z (fun i h => IsZip h z TI TO .none ∧ IsPair h TI (.ref i1) (.ref i2) ∧ (∃ x y, IsPair h TO x y) ∧ ItB ka h i1 a i ∧ ItB kb h i2 b i) where
  mem := by simp
  obj := fun i h st c hc => by
    obtain ⟨hz, hTI, ⟨x, y, hTO⟩, h1, h2⟩ := st
    have e' : c = z ∨ c = TI ∨ c = TO ∨ c = i1 ∨ c = i2 := by simpa using hc
    rcases e' with q | q | q | q | q
    · rw [q]; exact ⟨_, hz, fun v q => nomatch q⟩
    · rw [q]; exact ⟨_, hTI, fun v q => nomatch q⟩
    · rw [q]; exact ⟨_, hTO, fun v q => nomatch q⟩
    · rw [q]; exact h1.obj
    · rw [q]; exact h2.obj
  keep := fun i h h' st k => by
    obtain ⟨hz, hTI, ⟨x, y, hTO⟩, h1, h2⟩ := st
    exact ⟨k z (by simp) _ hz, k TI (by simp) _ hTI, ⟨x, y, k TO (by simp) _ hTO⟩, h1.at fun o q => k i1 (by simp) o q, h2.at fun o q => k i2 (by simp) o q⟩
  item := by
    intro X hP hw hK hc i pins s σ H E I hf st hg
    subst hP hw hK
    obtain ⟨hz, hTI, ⟨x0, y0, hTO⟩, h1, h2⟩ := st
    obtain ⟨xs, ys, x, y, hqx, hqy, hx, hy⟩ := hg
    obtain ⟨its, rv, p, _⟩ := I.sqB hqx
    obtain ⟨its2, rv2, p2, _⟩ := I.sqB hqy
    obtain ⟨u, hu, ru⟩ := rv.get hx
    obtain ⟨u2, hu2, ru2⟩ := rv2.get hy
    have hzl : z < s.heap.objs.size := Heap.lt_size hz
    have hh : X.A.in1.handled = none := I.ok.hd hc
    have q1 : i < its.toArray.size := by have := (List.getElem?_eq_some_iff.mp hu).1; simpa using this
    have q2 : i < its2.toArray.size := by have := (List.getElem?_eq_some_iff.mp hu2).1; simpa using this
    refine wpAny_pyNext_zipD2_item D (drawsB ka hh i1 a na its.toArray) (drawsB kb hh i2 b nb its2.toArray) hz hTI hTO ⟨h1, p⟩ ⟨h2, p2⟩ q1 q2 fun v1 v2 h' tk e1 e2 z' TO' h1' h2' hT hsz hk => ?_
    obtain rfl : u = v1 := Option.some.inj (hu.symm.trans (by simpa using e1))
    obtain rfl : u2 = v2 := Option.some.inj (hu2.symm.trans (by simpa using e2))
    refine ⟨_, rfl, wpAny_letOwnedTupleGo_zip (s := { s with heap := h', toks := tk }) z' fun h'' z'' sb => ?_⟩
    have hT2 : h''.get? s.heap.objs.size = some { cls := .type "tuple", data := .seq #[u, u2] } := (sb.2 _ (Nat.ne_of_gt hzl)).trans hT
    have new : ObjOk X.prog X.w (upd H s.heap.objs.size (.tup [x, y])) h'' s.heap.objs.size (.tup [x, y]) :=
      ⟨by show 2 ≤ sizeLine; decide, [u, u2], .cons ru (.cons ru2 .nil), ⟨_, hT2, rfl, _, rfl⟩⟩
    have I1 : Inv X pins σ (upd H s.heap.objs.size (.tup [x, y])) { s with heap := h'', toks := tk } :=
      I.turnedNew (t' := tk) (ch := [z, TI, TO, i1, i2]) (fun c o hb q => (sb.2 c (fun q' => hb (by simp [q']))).trans (hk c o (fun q' => hb (by simp [q'])) (fun q' => hb (by simp [q'])) (fun q' => hb (by simp [q'])) (fun q' => hb (by simp [q'])) q)) hf (Nat.le_refl _) new
    refine ⟨.ref s.heap.objs.size, _, I1, rfl, ⟨_, x, y, rfl, I.hok.fresh (Nat.le_refl _), rfl, fun l hl => by rw [I.sqB_inj hl hqx]; exact hx, fun l hl => by rw [I.sqB_inj hl hqy]; exact hy⟩, ⟨z'', ?_, ⟨u, u2, ?_⟩, ?_, ?_⟩, fun c hcm => ?_⟩
    · exact (sb.2 _ D.TIz).trans (hk _ _ D.TIz D.TITO D.TIi1 D.TIi2 hTI)
    · exact (sb.2 _ D.TOz).trans TO'
    · exact h1'.1.at fun o q => (sb.2 _ D.zi1.symm).trans q
    · exact h2'.1.at fun o q => (sb.2 _ D.zi2.symm).trans q
    · have hlt : c < s.heap.objs.size := by
        have e' : c = z ∨ c = TI ∨ c = TO ∨ c = i1 ∨ c = i2 := by simpa using hcm
        rcases e' with q | q | q | q | q
        · rw [q]; exact hzl
        · rw [q]; exact Heap.lt_size hTI
        · rw [q]; exact Heap.lt_size hTO
        · rw [q]; obtain ⟨_, e1, _⟩ := h1.obj; exact Heap.lt_size e1
        · rw [q]; obtain ⟨_, e2, _⟩ := h2.obj; exact Heap.lt_size e2
      rw [upd_ne (Nat.ne_of_lt hlt)]
      exact (hf c hcm).1
  done := by
    intro X hP hw hK hc i pins s σ H E I hf st hg
    subst hP hw hK
    obtain ⟨hz, hTI, ⟨x0, y0, hTO⟩, h1, h2⟩ := st
    obtain ⟨xs, ys, hqx, hqy, z1, z2, hend⟩ := hg
    obtain ⟨its, rv, p, _⟩ := I.sqB hqx
    obtain ⟨its2, rv2, p2, _⟩ := I.sqB hqy
    have l1 := rv.length
    have l2 := rv2.length
    have hh : X.A.in1.handled = none := I.ok.hd hc
    have m1 : i ≤ its.toArray.size := by rw [List.size_toArray]; omega
    have m2 : i ≤ its2.toArray.size := by rw [List.size_toArray]; omega
    have m3 : i = its.toArray.size ∨ i = its2.toArray.size := by rw [List.size_toArray, List.size_toArray]; omega
    exact wpAny_pyNext_zipD2_end D (drawsB ka hh i1 a na its.toArray) (drawsB kb hh i2 b nb its2.toArray) hz hTI hTO ⟨h1, p⟩ ⟨h2, p2⟩ m1 m2 m3 fun h' tk hk => ⟨rfl, I.turnedL (t' := tk) (ch := [z, TI, TO, i1, i2]) (fun c o hb q =>
      hk c o (fun q' => hb (by simp [q'])) (fun q' => hb (by simp [q'])) (fun q' => hb (by simp [q'])) (fun q' => hb (by simp [q'])) q) hf⟩
  self := fun A i s Q E st h => wpAny_pyIter_zip st.1 h
def iZipM (ka kb : Bool) (K : PySem.W.Frag) (ta : TA) : TI := fun σ H R => ta σ H fun vs H1 => ∃ a b xs ys, vs = [.ref a, .ref b] ∧ SqB ka K H1 a xs ∧ SqB kb K H1 b ys ∧ R (ItzM ka kb K a b) H1
theorem pi_zipM (ka kb : Bool) {X : Cx} {e e2 : Expr} {ta : TA} {p pos tpos : Pos} {elts : List Expr} {kk : Nat} (hg : Gl X "zip") (hm : X.mg "zip" = none) (ha : PA X [e, e2] ta)
    (hs : starEach [e, e2] X.env = (false, eval e X.env) :: starEach [e2] X.env := by rfl) (hpl : (backTo pos (starEach [e2] X.env)).any (·.1) = false := by rfl) :
    PI X (.Tuple elts kk tpos) (.Call (.Name "zip" p) [e, e2] [] pos) (iZipM ka kb X.K ta) := by
  refine ⟨fun pins s σ H R I h => ?_⟩
  refine Call_ (ld_blt I hg hm PyProof.Rows.boot_zip (PyProof.Rows.callWith_type1 (thn (ha.run pos pins s σ H _ I h) fun us s1 ⟨vs, H1, I1, r1, q1⟩ => ?_) hs hpl))
  obtain ⟨a, b, xs, ys, ex, hqx, hqy, q⟩ := q1
  subst ex
  obtain ⟨u1, u2, rfl, ra, rb⟩ := vals2 r1
  cases ra
  cases rb
  obtain ⟨its, rv, p1, _⟩ := I1.sqB hqx
  obtain ⟨its2, rv2, p2, _⟩ := I1.sqB hqy
  have la := p1.lt
  have lb := p2.lt
  refine zip_begins2 (beginsB ka a its.toArray) (beginsB kb b its2.toArray) p1 p2 fun h' hz hTI hTO h1 h2 hsz hk => wpAny_pyIter_zip hz ?_
  have I2 : Inv X pins σ H1 { s1 with heap := h' } := I1.kept (t' := s1.toks) hk
  have S := zip_sep2 (N := s1.heap.objs.size) (fp1 := [a]) (fp2 := [b]) (fun c hc => by rw [List.mem_singleton.mp hc]; exact la) (fun c hc => by rw [List.mem_singleton.mp hc]; exact lb)
  refine ⟨s1.heap.objs.size + 4, [s1.heap.objs.size + 4, s1.heap.objs.size + 2, s1.heap.objs.size + 3, s1.heap.objs.size, s1.heap.objs.size + 1], _, _, H1, rfl, I2, turn_zipM S (Nat.ne_of_lt la) (Nat.ne_of_lt (Nat.lt_succ_of_lt lb)), ⟨hz, hTI, ⟨_, _, hTO⟩, itB_new ka h1, itB_new kb h2⟩, fun c hcm => ?_, q⟩
  have e' : c = s1.heap.objs.size + 4 ∨ c = s1.heap.objs.size + 2 ∨ c = s1.heap.objs.size + 3 ∨ c = s1.heap.objs.size ∨ c = s1.heap.objs.size + 1 := by simpa using hcm
  have hle : s1.heap.objs.size ≤ c := by
    rcases e' with z | z | z | z | z
    · rw [z]; exact Nat.le_add_right _ _
    · rw [z]; exact Nat.le_add_right _ _
    · rw [z]; exact Nat.le_add_right _ _
    · rw [z]; exact Nat.le_refl _
    · rw [z]; exact Nat.le_add_right _ _
  exact I1.fpOk hle (I1.hok.fresh hle)
theorem walk_zipM {ka kb : Bool} {K : PySem.W.Frag} {a b : Addr} {xs ys : List V} {n : Nat} (hn : n = min xs.length ys.length) : Walk (ItzM ka kb K a b) n (fun H => SqB ka K H a xs ∧ SqB kb K H b ys) (YPair (fun i => xs[i]?) (fun i => ys[i]?)) := by
  subst hn
  refine ⟨fun i _ hi q => ?_, fun _ q => ⟨xs, ys, q.1, q.2, by omega, by omega, by omega⟩, fun i H v H' _ q y => ?_⟩
  · have h1 : i < xs.length := by omega
    have h2 : i < ys.length := by omega
    exact ⟨xs, ys, xs[i], ys[i], q.1, q.2, by simp [h1], by simp [h2]⟩
  · obtain ⟨T, x, z, h1, h2, h3, h4, h5⟩ := y
    exact ⟨T, x, z, h1, h2, h3, h4 xs q.1, h5 ys q.2⟩
end L2

namespace K03
open L2 PySem PySem.Spec PyProof.Rows
/-! ### what is known of the keys -/
abbrev Known := List (Option Nat)
def wV : Option Nat → V
  | none => .non
  | some w => .int (w : Int)
abbrev Pr := Str × Nat
def prsOf : List Key → Known → List Pr
  | k :: ks, some w :: os => (k.1, w) :: prsOf ks os
  | _ :: ks, none :: os => prsOf ks os
  | _, _ => []
def hNames : List Key → Known → List Str
  | k :: ks, some _ :: os => k.1 :: hNames ks os
  | _ :: ks, none :: os => hNames ks os
  | _, _ => []
def KnOk (ks : List Key) (kn : Known) : Prop := Paired (fun (k : Key) (o : Option Nat) => ∀ w, o = some w → w < k.2) ks kn
theorem KnOk.length {ks : List Key} {kn : Known} (h : KnOk ks kn) : ks.length = kn.length := Paired.length h
theorem hNames_eq : ∀ (ks : List Key) (kn : Known), hNames ks kn = (prsOf ks kn).map (·.1)
  | k :: ks, some w :: os => congrArg (k.1 :: ·) (hNames_eq ks os)
  | _ :: ks, none :: os => hNames_eq ks os
  | [], _ => by cases ‹Known› <;> rfl
  | _ :: _, [] => rfl
theorem mem_prs : ∀ {ks : List Key} {kn : Known} {a : Str} {w : Nat}, (a, w) ∈ prsOf ks kn → ∃ (i : Nat) (k : Key), ks[i]? = some k ∧ kn[i]? = some (some w) ∧ k.1 = a
  | k :: ks, some v :: os, a, w, h => by
    rcases List.mem_cons.mp h with h | h
    · cases h
      exact ⟨0, k, rfl, rfl, rfl⟩
    · obtain ⟨i, k', e1, e2, e3⟩ := mem_prs (ks := ks) (kn := os) h
      exact ⟨i + 1, k', e1, e2, e3⟩
  | _ :: ks, none :: os, a, w, h => by
    obtain ⟨i, k', e1, e2, e3⟩ := mem_prs (ks := ks) (kn := os) h
    exact ⟨i + 1, k', e1, e2, e3⟩
  | [], [], _, _, h => nomatch h
  | [], _ :: _, _, _, h => nomatch h
  | _ :: _, [], _, _, h => nomatch h
theorem prs_mem : ∀ {ks : List Key} {kn : Known} {i : Nat} {k : Key} {w : Nat}, ks[i]? = some k → kn[i]? = some (some w) → (k.1, w) ∈ prsOf ks kn
  | k0 :: ks, some v :: os, 0, k, w, h1, h2 => by
    cases h1
    cases h2
    exact List.mem_cons_self
  | _ :: ks, some v :: os, i + 1, k, w, h1, h2 => List.mem_cons_of_mem _ (prs_mem (ks := ks) (kn := os) (i := i) h1 h2)
  | _ :: ks, none :: os, i + 1, k, w, h1, h2 => prs_mem (ks := ks) (kn := os) (i := i) h1 h2
  | _ :: ks, none :: os, 0, k, w, h1, h2 => nomatch h2
  | [], _, _, _, _, h, _ => by simp at h
  | _ :: _, [], _, _, _, _, h => by simp at h
theorem prs_sub : ∀ (ks : List Key) (kn : Known), ((prsOf ks kn).map (·.1)).Sublist (ks.map (fun q : Key => q.1))
  | k :: ks, some w :: os => (prs_sub ks os).cons₂ _
  | k :: ks, none :: os => (prs_sub ks os).cons _
  | [], kn => by cases kn <;> exact List.Sublist.refl _
  | _ :: _, [] => List.nil_sublist _
theorem prs_nodup {ks : List Key} {kn : Known} (h : (ks.map (fun q : Key => q.1)).Nodup) : ((prsOf ks kn).map (·.1)).Nodup := List.Pairwise.sublist (prs_sub ks kn) h
theorem prs_len : ∀ (ks : List Key) (kn : Known), (prsOf ks kn).length ≤ ks.length
  | k :: ks, some w :: os => Nat.succ_le_succ (prs_len ks os)
  | k :: ks, none :: os => Nat.le_succ_of_le (prs_len ks os)
  | [], kn => by cases kn <;> exact Nat.le_refl _
  | _ :: _, [] => Nat.zero_le _
theorem keys_uniq {ks : List Key} (h : (ks.map (fun q : Key => q.1)).Nodup) {i j : Nat} {k k' : Key} (h1 : ks[i]? = some k) (h2 : ks[j]? = some k') (e : k.1 = k'.1) : i = j := by
  have a : (ks.map (fun q : Key => q.1))[i]? = some k.1 := by rw [List.getElem?_map, h1]; rfl
  have b : (ks.map (fun q : Key => q.1))[j]? = some k.1 := by rw [List.getElem?_map, h2, e]; rfl
  have li := (List.getElem?_eq_some_iff.mp a).1
  exact (List.getElem?_inj li h).mp (a.trans b.symm)
/-! ### the pairs in their sequence -/
abbrev ltS (a b : Str) : Prop := a.cps.toList < b.cps.toList
structure SPok (ks : List Key) (kn : Known) (sp : List Pr) : Prop where
  perm : sp.Perm (prsOf ks kn)
  asc : sp.Pairwise fun a b => ltS a.1 b.1
theorem SPok.uniq {ks : List Key} {kn : Known} {sp sp' : List Pr} (h : SPok ks kn sp) (h' : SPok ks kn sp') : sp = sp' :=
  List.Perm.eq_of_pairwise (fun a b _ _ h1 h2 => absurd (List.lt_trans h1 h2) (List.lt_irrefl _)) h.asc h'.asc (h.perm.trans h'.perm.symm)
theorem SPok.mem {ks : List Key} {kn : Known} {sp : List Pr} (h : SPok ks kn sp) {a : Str} {w : Nat} : (a, w) ∈ sp ↔ ∃ (i : Nat) (k : Key), ks[i]? = some k ∧ kn[i]? = some (some w) ∧ k.1 = a :=
  ⟨fun z => mem_prs (h.perm.mem_iff.mp z), fun ⟨i, k, e1, e2, e3⟩ => e3 ▸ h.perm.mem_iff.mpr (prs_mem e1 e2)⟩
theorem SPok.len {ks : List Key} {kn : Known} {sp : List Pr} (h : SPok ks kn sp) : sp.length = (prsOf ks kn).length := h.perm.length_eq
/-- unlike things known have unlike pairs -/
theorem SPok.inj {ks : List Key} {kn kn' : Known} {sp : List Pr} (hn : (ks.map (fun q : Key => q.1)).Nodup) (o : KnOk ks kn) (o' : KnOk ks kn') (h : SPok ks kn sp) (h' : SPok ks kn' sp) : kn = kn' := by
  have l := o.length
  have l' := o'.length
  have key : ∀ {kn kn' : Known}, kn.length = ks.length → kn'.length = ks.length → SPok ks kn sp → SPok ks kn' sp → ∀ (i w : Nat), kn[i]? = some (some w) → kn'[i]? = some (some w) := by
    intro kn kn' l l' h h' i w e
    have li := (List.getElem?_eq_some_iff.mp e).1
    obtain ⟨k, hk⟩ : ∃ k, ks[i]? = some k := ⟨_, List.getElem?_eq_getElem (by omega)⟩
    obtain ⟨j, k', e1, e2, e3⟩ := h'.mem.mp (h.mem.mpr ⟨i, k, hk, e, rfl⟩)
    rw [keys_uniq hn hk e1 e3.symm]
    exact e2
  refine List.ext_getElem? fun i => ?_
  by_cases hi : i < ks.length
  · obtain ⟨x, hx⟩ : ∃ x, kn[i]? = some x := ⟨_, List.getElem?_eq_getElem (by omega)⟩
    obtain ⟨y, hy⟩ : ∃ y, kn'[i]? = some y := ⟨_, List.getElem?_eq_getElem (by omega)⟩
    rw [hx, hy]
    cases x with
    | some w =>
      have := key l.symm l'.symm h h' i w hx
      rw [hy] at this
      exact this.symm
    | none =>
      cases y with
      | none => rfl
      | some w =>
        have := key l'.symm l.symm h' h i w hy
        rw [hx] at this
        exact this
  · rw [List.getElem?_eq_none (by omega), List.getElem?_eq_none (by omega)]
/-! ### the dict of the pairs -/
def kvsOf (sp : List Pr) : List (L2.Key × V) := sp.map fun q => (.inr q.1, .int (q.2 : Int))
theorem merge_new : ∀ (more acc : List (L2.Key × V)), (more.map (·.1)).Nodup → (∀ p ∈ more, ∀ q ∈ acc, q.1 ≠ p.1) → mergeK acc more = acc ++ more
  | [], acc, _, _ => (List.append_nil _).symm
  | p :: more, acc, hn, hd => by
    have e : valV acc p.1 = none := by
      have z : (valV acc p.1).isSome = false := by
        rw [← valV_any]
        refine List.any_eq_false.mpr fun q hq => ?_
        rw [decide_eq_true_eq]
        exact hd p List.mem_cons_self q hq
      cases h : valV acc p.1 with
      | none => rfl
      | some v =>
        rw [h] at z
        cases z
    show mergeK (putK acc p.1 p.2) more = _
    rw [List.map_cons, List.nodup_cons] at hn
    rw [putK_new p.2 e, merge_new more _ hn.2 fun q hq r hr => ?_, List.append_assoc]
    · rfl
    · rcases List.mem_append.mp hr with hr | hr
      · exact hd q (List.mem_cons_of_mem _ hq) r hr
      · rw [List.mem_singleton.mp hr]
        intro z
        exact hn.1 (z ▸ List.mem_map_of_mem hq)
theorem val_mem : ∀ {kvs : List (L2.Key × V)} {k : L2.Key} {v : V}, (kvs.map (·.1)).Nodup → (k, v) ∈ kvs → valV kvs k = some v
  | p :: r, k, v, hn, h => by
    rw [List.map_cons, List.nodup_cons] at hn
    rcases List.mem_cons.mp h with h | h
    · rw [← h]
      exact valV_pos rfl
    · rw [valV_neg fun z => hn.1 (by rw [z]; exact List.mem_map_of_mem (f := fun q : L2.Key × V => q.1) h)]
      exact val_mem hn.2 h
theorem val_none : ∀ {kvs : List (L2.Key × V)} {k : L2.Key}, (∀ p ∈ kvs, p.1 ≠ k) → valV kvs k = none
  | [], _, _ => rfl
  | p :: r, k, h => by
    rw [valV_neg (h p List.mem_cons_self)]
    exact val_none fun q hq => h q (List.mem_cons_of_mem _ hq)
theorem kvs_nodup {ks : List Key} {kn : Known} {sp : List Pr} (hn : (ks.map (fun q : Key => q.1)).Nodup) (h : SPok ks kn sp) : ((kvsOf sp).map (·.1)).Nodup := by
  have a : (sp.map (·.1)).Nodup := (h.perm.map _).nodup_iff.mpr (prs_nodup hn)
  have e : (kvsOf sp).map (·.1) = (sp.map (·.1)).map (Sum.inr : Str → L2.Key) := by
    unfold kvsOf
    rw [List.map_map, List.map_map]
    rfl
  rw [e]
  exact List.Pairwise.map _ (fun a b h z => h (Sum.inr.inj z)) a
theorem kvs_at {ks : List Key} {kn : Known} {sp : List Pr} (hn : (ks.map (fun q : Key => q.1)).Nodup) (h : SPok ks kn sp) {i : Nat} {k : Key} {o : Option Nat} (hk : ks[i]? = some k) (ho : kn[i]? = some o) :
    valV (kvsOf sp) (.inr k.1) = o.map fun w => V.int (w : Int) := by
  cases o with
  | some w => exact val_mem (kvs_nodup hn h) (List.mem_map.mpr ⟨(k.1, w), h.mem.mpr ⟨i, k, hk, ho, rfl⟩, rfl⟩)
  | none =>
    refine val_none fun p hp z => ?_
    obtain ⟨q, hq, rfl⟩ := List.mem_map.mp hp
    obtain ⟨j, k', e1, e2, e3⟩ := h.mem.mp (show (q.1, q.2) ∈ sp from hq)
    have ez : q.1 = k.1 := Sum.inr.inj z
    have := keys_uniq hn e1 hk (e3.trans ez)
    rw [this, ho] at e2
    cases e2
/-! ### a View -/
def vf (S p n w : V) : List (Str × V) := putF "_worths" w (putF "_names" n (putF "_pairs" p (putF "_sheet" S [])))
def PrAt (K : PySem.W.Frag) (H : Hp) (p : Addr) (sp : List Pr) : Prop := ∃ ts : List Addr, TupD H p (ts.map V.ref) ∧ Paired (fun (t : Addr) (q : Pr) => SqT K H t [.str q.1, .int (q.2 : Int)]) ts sp
structure ShAt (K : PySem.W.Frag) (C CR : Addr) (H : Hp) (S : Addr) (z : Str) (ks : List Key) (rows : List RuleL) (eds : List (List Nat)) : Prop where
  at_ : ∃ dx n s e r, H S = some (.ins C dx (sf z n s e r)) ∧ TupD H n (namesV ks) ∧ SqT K H s (sizesV ks) ∧ EdsAt K H e eds ∧ RulesOb CR S H r rows
structure VwAt (K : PySem.W.Frag) (CV : Addr) (H : Hp) (v S : Addr) (ks : List Key) (kn : Known) : Prop where
  at_ : ∃ dx pr nm wo sp, H v = some (.ins CV dx (vf (.ref S) (.ref pr) (.ref nm) (.ref wo))) ∧ PrAt K H pr sp ∧ SPok ks kn sp ∧ SqT K H nm ((hNames ks kn).map V.str) ∧ SqT K H wo (kn.map wV)
  ok : KnOk ks kn
theorem sf_ne {z : Str} {n s e r : Addr} : sf z n s e r ≠ [] := fun h => by
  have q : (sf z n s e r).lookup ("_text" : Str) = some (.str z) := rfl
  rw [h] at q
  cases q
theorem rf_ne {p z l : V} : rf p z l ≠ [] := fun h => by
  have q : (rf p z l).lookup ("_text" : Str) = some z := rfl
  rw [h] at q
  cases q
theorem vf_ne {S p n w : V} : vf S p n w ≠ [] := fun h => by
  have q : (vf S p n w).lookup ("_sheet" : Str) = some S := rfl
  rw [h] at q
  cases q
/-- all that is no list, no bare instance and no table of code stays -/
def Pres (H H' : Hp) : Prop := ∀ x o, H x = some o → (∀ xs, o ≠ .lst xs) → (∀ C dx, o ≠ .ins C dx []) → (∀ ps, o ≠ .tbl ps) → H' x = some o
theorem Pres.of {H H' : Hp} (s : Same H H') : Pres H H' := fun x o e _ _ _ => s x o e
theorem Pres.refl (H : Hp) : Pres H H := fun _ _ e _ _ _ => e
theorem Pres.trans {H H' H'' : Hp} (a : Pres H H') (b : Pres H' H'') : Pres H H'' := fun x o e n m t => b x o (a x o e n m t) n m t
theorem Pres.keep {H H' : Hp} {j : Addr} {n : Nat} (hj : Jar H j n) (k : Keep j H H') : Pres H H' := fun x o e no _ _ => k x o (not_jar hj e no) e
theorem Pres.keepv {H H' : Hp} {v C dx : Addr} (hv : H v = some (.ins C dx [])) (k : Keep v H H') : Pres H H' := fun x o e _ m _ => k x o (fun z => by
  rw [z, hv] at e
  exact m C dx (Option.some.inj e).symm) e
theorem Pres.ext {H H' : Hp} (k : LamX.ExtN H H') : Pres H H' := fun x o e _ _ t => k x o e t
theorem Pres.lst {H : Hp} {L : Addr} {xs ys : List V} (h : H L = some (.lst xs)) : Pres H (upd H L (.lst ys)) := fun x o e n _ _ => by
  rw [upd_ne (fun z => by rw [z, h] at e; exact n _ (Option.some.inj e).symm)]
  exact e
theorem Pres.tup {H H' : Hp} (s : Pres H H') {x : Addr} {xs : List V} (e : H x = some (.tup xs)) : H' x = some (.tup xs) := s _ _ e (fun _ z => nomatch z) (fun _ _ z => nomatch z) (fun _ z => nomatch z)
theorem Pres.frz {H H' : Hp} (s : Pres H H') {x : Addr} {o : Obj} {u : HO} (e : H x = some (.frz o u)) : H' x = some (.frz o u) := s _ _ e (fun _ z => nomatch z) (fun _ _ z => nomatch z) (fun _ z => nomatch z)
theorem Pres.dK {H H' : Hp} (s : Pres H H') {x : Addr} {kvs : List (L2.Key × V)} (e : H x = some (.dK kvs)) : H' x = some (.dK kvs) := s _ _ e (fun _ z => nomatch z) (fun _ _ z => nomatch z) (fun _ z => nomatch z)
theorem Pres.ins {H H' : Hp} (s : Pres H H') {x C dx : Addr} {fs : List (Str × V)} (e : H x = some (.ins C dx fs)) (n : fs ≠ []) : H' x = some (.ins C dx fs) := s _ _ e (fun _ z => nomatch z) (fun _ _ z => n (HO.ins.inj z).2.2) (fun _ z => nomatch z)
theorem TupD.pres {H H' : Hp} {p : Addr} {xs : List V} (h : TupD H p xs) (s : Pres H H') : TupD H' p xs := by
  obtain ⟨o, e, d⟩ := h
  exact ⟨o, s.frz e, d⟩
theorem sqT_pres {K : PySem.W.Frag} {H H' : Hp} {p : Addr} {xs : List V} (h : SqT K H p xs) (s : Pres H H') : SqT K H' p xs := by
  rcases h with (h | ⟨o, h⟩) | h
  · exact .inl (.inl (s.tup h))
  · exact .inl (.inr ⟨o, s.frz h⟩)
  · exact .inr h
theorem PrAt.pres {K : PySem.W.Frag} {H H' : Hp} {p : Addr} {sp : List Pr} (h : PrAt K H p sp) (s : Pres H H') : PrAt K H' p sp := by
  obtain ⟨ts, e, q⟩ := h
  exact ⟨ts, e.pres s, Paired.mapP q fun t r z => sqT_pres z s⟩
theorem litsAt_pres {H H' : Hp} {t : Addr} {ls : List Lit} (h : LitsAt H t ls) (s : Pres H H') : LitsAt H' t ls := by
  obtain ⟨ts, e, q⟩ := h
  exact ⟨ts, s.tup e, Paired.mapP q fun t l e => s.tup e⟩
theorem ruleAt_pres {CR p : Addr} {H H' : Hp} {t : Addr} {r : RuleL} (h : RuleAt CR p H t r) (s : Pres H H') : RuleAt CR p H' t r := by
  obtain ⟨dx, l, e, q⟩ := h
  exact ⟨dx, l, s.ins e rf_ne, litsAt_pres q s⟩
theorem ShAt.pres {K : PySem.W.Frag} {C CR : Addr} {H H' : Hp} {S : Addr} {z : Str} {ks : List Key} {rows : List RuleL} {eds : List (List Nat)} (h : ShAt K C CR H S z ks rows eds) (s : Pres H H') : ShAt K C CR H' S z ks rows eds := by
  obtain ⟨dx, n, q, e, r, h1, h2, h3, ⟨te, e1, e2⟩, tr, r1, r2⟩ := h.at_
  exact ⟨dx, n, q, e, r, s.ins h1 sf_ne, h2.pres s, sqT_pres h3 s, ⟨te, s.tup e1, Paired.mapP e2 fun t x z => sqT_pres z s⟩, tr, s.tup r1, Paired.mapP r2 fun t x z => ruleAt_pres z s⟩
theorem VwAt.pres {K : PySem.W.Frag} {CV : Addr} {H H' : Hp} {v S : Addr} {ks : List Key} {kn : Known} (h : VwAt K CV H v S ks kn) (s : Pres H H') : VwAt K CV H' v S ks kn := by
  obtain ⟨dx, pr, nm, wo, sp, h1, h2, h3, h4, h5⟩ := h.at_
  exact ⟨⟨dx, pr, nm, wo, sp, s.ins h1 vf_ne, h2.pres s, h3, sqT_pres h4 s, sqT_pres h5 s⟩, h.ok⟩
theorem paired_mapr {α β γ : Type} {R : α → β → Prop} {R' : α → γ → Prop} {f : β → γ} (h : ∀ x y, R x y → R' x (f y)) : ∀ {xs : List α} {ys : List β}, Paired R xs ys → Paired R' xs (ys.map f)
  | _, _, .nil => .nil
  | _, _, .cons a b => .cons (h _ _ a) (paired_mapr h b)
end K03

namespace K03
open L2 PySem PySem.Spec PyProof.Rows
abbrev sIsInt : Stmt := top 18
abbrev sFits : Stmt := top 27
abbrev sIsWorth : Stmt := top 30
abbrev sArePairs : Stmt := top 31
abbrev sVInit : Stmt := inClass (top 29) 0
theorem sf_names {z : Str} {n s e r : Addr} : (sf z n s e r).lookup ("_names" : Str) = some (.ref n) := rfl
theorem sf_sizes {z : Str} {n s e r : Addr} : (sf z n s e r).lookup ("_sizes" : Str) = some (.ref s) := rfl
theorem sf_eds {z : Str} {n s e r : Addr} : (sf z n s e r).lookup ("_editions" : Str) = some (.ref e) := rfl
theorem sf_rules {z : Str} {n s e r : Addr} : (sf z n s e r).lookup ("_rules" : Str) = some (.ref r) := rfl
theorem sf_text {z : Str} {n s e r : Addr} : (sf z n s e r).lookup ("_text" : Str) = some (.str z) := rfl
theorem vf_sheet {S p n w : V} : (vf S p n w).lookup ("_sheet" : Str) = some S := rfl
theorem vf_pairs {S p n w : V} : (vf S p n w).lookup ("_pairs" : Str) = some p := rfl
theorem vf_names {S p n w : V} : (vf S p n w).lookup ("_names" : Str) = some n := rfl
theorem vf_worths {S p n w : V} : (vf S p n w).lookup ("_worths" : Str) = some w := rfl
/-- a Sheet's class, as those that ask it know it -/
structure ShK (P : Program) (w : World) (K : PySem.W.Frag) (mg : Str → Option Value) (base : Heap) (C : Addr) : Prop where
  cl : Cls K C
  pN : HasP P w K mg base C "names" "_names"
  pS : HasP P w K mg base C "sizes" "_sizes"
  pE : HasP P w K mg base C "editions" "_editions"
  pR : HasP P w K mg base C "rules" "_rules"
structure Txt8 (K : PySem.W.Frag) (mg : Str → Option Value) : Prop extends Txt7 K mg where
  bool : mg "bool" = none
  dict : mg "dict" = none
  sorted : mg "sorted" = none
section
variable {base : Heap} {P : Program} {w : World} {K : PySem.W.Frag} {mg : Str → Option Value}
def spInt1 : Sp := fun vs H Q _ => ∃ i : Int, vs = [.int i] ∧ Q (.bl true) H
theorem scIsInt : FnScope ["value"] ["value"] (defScope sIsInt) := ⟨rfl, rfl, rfl, by decide +kernel, rfl, by decide +kernel, by decide +kernel⟩
theorem ok_int1 {f : Addr} {fd : FuncData} (F : Fun K "is_int" "is_int" sIsInt f fd) (T : Txt8 K mg) : FnOk P w K mg base CX0 1 f fd ["value"] spInt1 := by
  refine F.ok scIsInt (fun vs H Q E h => ?_) (fun cdv A outer s H vs Q E hr h => ?_)
  · obtain ⟨i, rfl, _⟩ := h
    rfl
  · obtain ⟨i, rfl, k⟩ := h
    refine ⟨_, pss_one (ps_ret (pe_and (pe_callB call_isi (by rfl) T.isinst (by decide +kernel) (pa_cons (pv 0) (pa_cons (pe_bltn (v := .ty "int") (by rfl) T.int (by decide +kernel) rfl) pa_nil)))
      (pe_one (pe_notT (pe_callB call_isi (by rfl) T.isinst (by decide +kernel) (pa_cons (pv 0) (pa_cons (pe_bltn (v := .ty "bool") (by rfl) T.bool (by decide +kernel) rfl) pa_nil))))))), ?_⟩
    exact ⟨_, rfl, _, _, _, _, true, rfl, .ty "int", .base (.int i), kit_ty (r := true) (by decide +kernel), true, rfl, _, rfl, _, _, _, _, false, rfl, .ty "bool", .base (.int i), kit_ty (r := false) (by decide +kernel), false, rfl, k⟩
/-! ### is_worth -/
def spIsW (K : PySem.W.Frag) (C CR : Addr) : Sp := fun vs H Q _ => ∃ (S : Addr) (z : Str) (ks : List Key) (rows : List RuleL) (eds : List (List Nat)) (i w : Nat) (k : Key), vs = [.ref S, .str k.1, .int (w : Int)] ∧ ShAt K C CR H S z ks rows eds ∧ (ks.map (fun q : Key => q.1)).Nodup ∧ ks[i]? = some k ∧ w < k.2 ∧ Q (.bl true) H
abbrev nIsWorth : List Str := ["sheet", "key", "worth"]
theorem scIsWorth : FnScope nIsWorth ["sheet", "key", "worth"] (defScope sIsWorth) := ⟨rfl, rfl, rfl, by decide +kernel, rfl, by decide +kernel, by decide +kernel⟩
theorem ok_isWorth {f C CR : Addr} {fd : FuncData} (F : Fun K "is_worth" "is_worth" sIsWorth f fd) (TS : ShK P w K mg base C) (GI : Has P w K mg base "is_int" 1 ["value"] spInt1) : FnOk P w K mg base CX0 3 f fd ["sheet", "key", "worth"] (spIsW K C CR) := by
  refine F.ok scIsWorth (fun vs H Q E h => ?_) (fun cdv A outer s H vs Q E hr h => ?_)
  · obtain ⟨S, z, ks, rows, eds, i, w, k, rfl, _⟩ := h
    rfl
  · obtain ⟨S, z, ks, rows, eds, i, wo, k, rfl, hS, hn, hk, hw, q⟩ := h
    have r1 : Room 1 _ := hr.mono (by decide)
    refine ⟨_, pss_cons (ps_if (PW.pt (pw_or (pt_cmpR op_notIn_seq (pv 1) (pe_get TS.pN TS.cl hr (pv 0)) (by rfl)) (pw_or1 (pt_not (pt_val (pe_has GI r1 (pa_cons (pv 2) pa_nil))))))) (pss_one (ps_ret pe_bl)) pss_nil)
      (pss_one (ps_ret (pe_chain op_le op_lt pe_int (pv 2) (pe_ix ix_tup (pe_get TS.pS TS.cl hr (pv 0)) (pe_mG ty_tupD PySem.F.plainAttrs_tuple PySem.F.slot_tuple_index PySem.F.type_tuple_index mt_tup_index (pe_get TS.pN TS.cl hr (pv 0)) (pa_cons (pv 1) pa_nil)) (fun _ _ => rfl))))), ?_⟩
    obtain ⟨dx, n, sz, e, r, h1, h2, h3, h4, h5⟩ := hS.at_
    have hmem : k.1 ∈ ks.map (fun q : Key => q.1) := List.mem_map_of_mem (List.mem_of_getElem? hk)
    refine ⟨_, rfl, _, rfl, S, dx, _, rfl, h1, S, dx, _, _, rfl, h1, sf_names, n, _, rfl, .inr h2.sq, rfl, flats_names ks, _, rfl, ?_⟩
    refine ite2 (fun z => ?_) (fun _ => ?_)
    · have z' : (!inV (.str k.1) (namesV ks)) = true := z
      rw [inV_names, decide_eq_true hmem] at z'
      cases z'
    refine ⟨_, rfl, _, rfl, _, rfl, ?_⟩
    refine ite2 (fun z => by cases z) (fun _ => ?_)
    have hat : (ks.map (fun q : Key => q.1))[i]? = some k.1 := by rw [List.getElem?_map, hk]; rfl
    have hn2 : SqT K H n ((ks.map (fun q : Key => q.1)).map V.str) := by
      have e : (ks.map (fun q : Key => q.1)).map V.str = namesV ks := by
        unfold namesV
        rw [List.map_map]
        rfl
      rw [e]
      exact h2.sq
    have hsz : atI (sizesV ks) ((i : Nat) : Int) = some (.int (k.2 : Int)) := atI_nat (by
      unfold sizesV
      rw [List.getElem?_map, hk]
      rfl)
    refine ⟨_, rfl, _, _, rfl, rfl, _, rfl, ?_⟩
    refine ite2 (fun _ => ?_) (fun z => absurd (decide_eq_true (by omega)) z)
    refine ⟨_, rfl, S, dx, _, rfl, h1, S, dx, _, _, rfl, h1, sf_sizes, _, rfl, S, dx, _, rfl, h1, S, dx, _, _, rfl, h1, sf_names, ⟨n, _, rfl, h2⟩, _, rfl, n, ks.map (fun q : Key => q.1), k.1, i, rfl, rfl, hn2, hat, fun m hm q => ?_, sz, _, _, _, rfl, rfl, h3, hsz, _, _, rfl, rfl, ?_⟩
    · have := keys_uniq (i := m) (j := i) hn (k := ks[m]'(by have := (List.getElem?_eq_some_iff.mp hk).1; omega)) (k' := k) (List.getElem?_eq_getElem _) hk ?_
      · omega
      · rw [List.getElem?_map, List.getElem?_eq_getElem (by have := (List.getElem?_eq_some_iff.mp hk).1; omega)] at q
        exact Option.some.inj q
    · show Q (.bl (decide ((wo : Int) < (k.2 : Int)))) H
      rw [decide_eq_true (by omega)]
      exact q
theorem sqT_ty {H : Hp} {t : Addr} {xs : List V} (h : SqT K H t xs) : TyX K H (.ref t) (.type "tuple") := by
  rcases h with (h | ⟨o, h⟩) | h
  · exact .base (.tup h)
  · exact .fTuple h
  · obtain ⟨o, _, _, e, c, _⟩ := h
    exact .kTuple e c
theorem paired_kn {ks : List Key} {kn : Known} (h : KnOk ks kn) {i : Nat} {k : Key} {w : Nat} (e1 : ks[i]? = some k) (e2 : kn[i]? = some (some w)) : w < k.2 := by
  obtain ⟨o, e, r⟩ := paired_get h e1
  rw [e] at e2
  exact r w (Option.some.inj e2)
/-- t[1:] -/
theorem tail_of {H1 : Hp} {p : Addr} {ts : List Addr} {Q : VK} (hp : SqT K H1 p (ts.map V.ref)) (k : ∀ q H2, Same H1 H2 → SqT K H2 q ((ts.drop 1).map V.ref) → Q (.ref q) H2) : rSlA K (.ref p) (some 1) none H1 Q := by
  refine ⟨p, _, rfl, hp, fun h => ?_, fun _ q nq => ?_⟩
  · have e : ts = [] := by
      have := h.1
      rw [show (some (1 : Int)) = some ((1 : Nat) : Int) from rfl, HT.sIx_nat, List.length_map] at this
      cases ts with
      | nil => rfl
      | cons a l => simp at this
    subst e
    exact k p H1 (Same.refl H1) hp
  · refine k q _ (same_upd nq) (SqT.of ?_)
    rw [upd_same]
    have e : cutV (ts.map V.ref) (some 1) none = (ts.drop 1).map V.ref := by
      unfold cutV
      rw [show (some (1 : Int)) = some ((1 : Nat) : Int) from rfl, HT.sIx_nat, HT.sIx_none, List.length_map]
      rw [List.map_drop]
      cases ts with
      | nil => rfl
      | cons a l =>
        rw [show min 1 (a :: l).length = 1 from by rw [List.length_cons]; omega]
        exact List.take_of_length_le (by simp)
    rw [e]
/-! ### are_pairs -/
def spArePairs (K : PySem.W.Frag) (C CR : Addr) : Sp := fun vs H Q _ => ∃ (S p : Addr) (z : Str) (ks : List Key) (rows : List RuleL) (eds : List (List Nat)) (kn : Known) (sp : List Pr), vs = [.ref S, .ref p] ∧ ShAt K C CR H S z ks rows eds ∧ (ks.map (fun q : Key => q.1)).Nodup ∧ ks.length ≤ 3 ∧ KnOk ks kn ∧ SPok ks kn sp ∧ PrAt K H p sp ∧
  ∀ H', Same H H' → Q (.bl true) H'
abbrev nArePairs : List Str := ["sheet", "pairs", "pair", "one", "other"]
theorem scArePairs : FnScope nArePairs ["sheet", "pairs"] (defScope sArePairs) := ⟨rfl, rfl, rfl, by decide +kernel, rfl, by decide +kernel, by decide +kernel⟩
theorem ok_arePairs {f C CR : Addr} {fd : FuncData} (F : Fun K "are_pairs" "are_pairs" sArePairs f fd) (T : Txt8 K mg) (GW : Has P w K mg base "is_worth" 3 ["sheet", "key", "worth"] (spIsW K C CR)) : FnOk P w K mg base CX0 4 f fd ["sheet", "pairs"] (spArePairs K C CR) := by
  refine F.ok scArePairs (fun vs H Q E h => ?_) (fun cdv A outer s H vs Q E hr h => ?_)
  · obtain ⟨S, p, z, ks, rows, eds, kn, sp, rfl, _⟩ := h
    rfl
  · obtain ⟨S, p, z, ks, rows, eds, kn, sp, rfl, hS, hn, h3, ok, so, ⟨ts, hp, pr⟩, k⟩ := h
    refine ⟨_, pss_cons (ps_if (pt_not (pt_val (pe_callB call_isi (by rfl) T.isinst (by decide +kernel) (pa_cons (pv 1) (pa_cons (pe_bltn (v := .ty "tuple") (by rfl) T.tuple PyProof.Rows.boot_tuple rfl) pa_nil))))) (pss_one (ps_ret pe_bl)) pss_nil)
      (pss_cons (ps_for PassesOwn.never rfl (pi_tup (pv 1)) (pg_name (i := 2) scArePairs.nd rfl (.inl rfl))
        (pss_one (ps_if (PW.pt (pw_or (pt_not (pt_val (pe_callB call_isi (by rfl) T.isinst (by decide +kernel) (pa_cons (pv 2) (pa_cons (pe_bltn (v := .ty "tuple") (by rfl) T.tuple PyProof.Rows.boot_tuple rfl) pa_nil)))))
          (pw_or (pt_cmpR op_ne (pe_callB call_len_seq (by rfl) T.len PySem.boot_len (pa_cons (pv 2) pa_nil)) pe_int (nomark _))
          (pw_or1 (pt_not (pt_val (pe_has GW hr (pa_cons (pv 0) (pa_cons (pe_ix ix_tup (pv 2) pe_int (fun _ _ => rfl)) (pa_cons (pe_ix ix_tup (pv 2) pe_int (fun _ _ => rfl)) pa_nil)))))))))) (pss_one (ps_ret pe_bl)) pss_nil)))
      (pss_one (ps_ret (pe_callB (cr_all rfl) (by rfl) T.all (by decide +kernel) (pa_cons (pe_lc (own := [("one", 3), ("other", 4)]) (g := gTup K 2 (gCons (gName 3) (gCons (gName 4) gNil))) (tt := tYes) rfl scArePairs.nd
            (pi_zipM false false (by rfl) T.zip (pa_cons (pv 1) (pa_cons (pe_slice (r := rSlA K) sl_tupA (pv 1) (po_some pe_int) po_none) pa_nil)))
            (blkOk_by (N := nArePairs) (sc := defScope sArePairs) (by decide +kernel)) (fun _ _ _ _ _ => pg_tup rfl (pgs_cons (pg_name (i := 3) scArePairs.nd rfl (Or.inl rfl)) (pgs_cons (pg_name (i := 4) scArePairs.nd rfl (Or.inl rfl)) pgs_nil))) (fun _ _ _ _ _ => pts_nil)
            (fun _ _ _ _ _ => pe_cmpR op_lt_str (pe_ix (r := rIxT K) ix_tup (pv 3) pe_int (fun _ _ => rfl)) (pe_ix (r := rIxT K) ix_tup (pv 4) pe_int (fun _ _ => rfl)) (nomark _))) pa_nil))))), ?_⟩
    refine ⟨_, rfl, _, _, _, _, true, rfl, .ty "tuple", sqT_ty hp.sq, kit_ty (r := true) (by decide +kernel), true, rfl, ?_⟩
    refine ite2 (fun z => by cases z) (fun _ => ?_)
    have lt : ts.length = sp.length := Paired.length pr
    have ls : sp.length ≤ 3 := by
      have := prs_len ks kn
      have := so.len
      omega
    refine ⟨_, rfl, p, rfl, ⟨_, hp.sq⟩, for_it (walk_tup (xs := ts.map V.ref)) (fun i σ H' => ∃ v2, σ = [some (.ref S), some (.ref p), v2, none, none] ∧ Same H H') ⟨none, rfl, Same.refl H⟩ (fun i σ H1 _ ⟨_, _, s1⟩ => sqT_same s1 hp.sq) ?_ ?_⟩
    · rintro i x σ H1 H2 hi ⟨v2, rfl, s1⟩ ⟨rfl, hx⟩
      rw [List.getElem?_map] at hx
      obtain ⟨t, ht, rfl⟩ := Option.map_eq_some_iff.mp hx
      obtain ⟨q, hq1, hq2⟩ := paired_get pr ht
      obtain ⟨i', k', e1, e2, e3⟩ := so.mem.mp (show (q.1, q.2) ∈ sp from List.mem_of_getElem? hq1)
      have sq2 := sqT_same s1 hq2
      refine ⟨_, rfl, _, _, _, _, true, rfl, .ty "tuple", sqT_ty sq2, kit_ty (r := true) (by decide +kernel), true, rfl, ?_⟩
      refine ite2 (fun z => by cases z) (fun _ => ?_)
      refine ⟨_, rfl, t, _, rfl, .inr sq2, rfl, _, rfl, ?_⟩
      refine ite2 (fun z => by cases z) (fun _ => ?_)
      refine ⟨_, rfl, _, rfl, t, _, 0, _, rfl, rfl, sq2, atI_nat (j := 0) rfl, _, rfl, t, _, 1, _, rfl, rfl, sq2, atI_nat (j := 1) rfl, S, z, ks, rows, eds, i', q.2, k', ?_, hS.pres (Pres.of s1), hn, e1, (paired_kn ok e1 e2), ?_⟩
      · rw [e3]
        rfl
      refine ⟨_, rfl, ?_⟩
      refine ite2 (fun z => by cases z) (fun _ => ?_)
      exact ⟨_, rfl, s1⟩
    · rintro σ H1 ⟨v2, rfl, s1⟩
      refine ⟨_, rfl, _, rfl, 1, rfl, ?_⟩
      dsimp only [tNoPart]
      refine tail_of (K := K) (ts := ts) (sqT_same s1 hp.sq) fun q H2 s2 hq => ?_
      have hp2 : SqT K H2 p (ts.map V.ref) := sqT_same (s1.trans s2) hp.sq
      have lm : ts.length - 1 = min (ts.map V.ref).length ((ts.drop 1).map V.ref).length := by
        rw [List.length_map, List.length_map, List.length_drop]
        omega
      refine ⟨p, q, _, _, rfl, hp2, hq, fun D nD => ?_⟩
      refine lc_it (walk_zipM (ka := false) (kb := false) (K := K) (xs := ts.map V.ref) (ys := (ts.drop 1).map V.ref) lm) (fun i H' => Same H2 H' ∧ H' D = some (.lst ((List.replicate i true).map V.bl))) ⟨same_upd nD, upd_same⟩ (fun i H' _ z => ⟨sqT_same z.1 hp2, sqT_same z.1 hq⟩) ?_ ?_
      · rintro i x H3 H4 hi ⟨s3, hD⟩ ⟨T1, x1, x2, rfl, nT, rfl, e1, e2⟩
        dsimp only at e1 e2
        rw [List.getElem?_map] at e1 e2
        obtain ⟨t1, ht1, rfl⟩ := Option.map_eq_some_iff.mp e1
        obtain ⟨t2, ht2, rfl⟩ := Option.map_eq_some_iff.mp e2
        rw [List.getElem?_drop] at ht2
        obtain ⟨q1, hq1, hr1⟩ := paired_get pr ht1
        obtain ⟨q2, hq2, hr2⟩ := paired_get pr ht2
        have s4 := ((s1.trans s2).trans s3).trans (same_upd (o := .tup [V.ref t1, V.ref t2]) nT)
        have lt12 : ltS q1.1 q2.1 := by
          have l1 := (List.getElem?_eq_some_iff.mp hq1)
          have l2 := (List.getElem?_eq_some_iff.mp hq2)
          have := List.pairwise_iff_getElem.mp so.asc i (1 + i) l1.1 l2.1 (by omega)
          rw [l1.2, l2.2] at this
          exact this
        have hD2 := get_new (o := .tup [V.ref t1, V.ref t2]) hD nT
        refine ⟨T1, _, rfl, SqT.of upd_same, rfl, .ref t1, _, rfl, .ref t2, _, rfl, rfl, ?_⟩
        refine ⟨rfl, _, rfl, t1, _, 0, _, rfl, rfl, sqT_same s4 hr1, atI_nat (j := 0) rfl, _, rfl, t2, _, 0, _, rfl, rfl, sqT_same s4 hr2, atI_nat (j := 0) rfl, _, _, rfl, rfl, _, hD2, ?_, same_new (s3.trans (same_upd nT)) nD, ?_⟩
        · rw [List.length_map, List.length_replicate]
          exact small1000 (by omega)
        · rw [upd_same, decide_eq_true lt12, List.replicate_succ', List.map_append]
          rfl
      · rintro H3 ⟨s3, hD⟩
        refine ⟨D, _, rfl, SqL.of hD, ?_⟩
        have ea : (List.replicate (ts.length - 1) true).all id = true := by simp
        rw [ea]
        exact k H3 ((s1.trans s2).trans s3)
end
end K03

namespace K03
open L2 PySem PySem.Spec PyProof.Rows
/-- a branch that is never taken -/
theorem ps_never {X : Cx} {st : Stmt} : PS X st (fun _ _ _ => False) := ⟨fun _ _ _ _ _ _ h => h.elim⟩
structure ViewT (K : PySem.W.Frag) (mg : Str → Option Value) (CV : Addr) : Prop where
  cl : Cls K CV
  gV : mg "View" = some (.ref CV)
  n1 : NoAttr K CV "_sheet"
  n2 : NoAttr K CV "_pairs"
  n3 : NoAttr K CV "_names"
  n4 : NoAttr K CV "_worths"
def oneP (k : Key) : Option Nat → List Pr
  | some w => [(k.1, w)]
  | none => []
theorem prs_take : ∀ {ks : List Key} {kn : Known} {i : Nat} {k : Key} {o : Option Nat}, ks[i]? = some k → kn[i]? = some o → prsOf (ks.take (i + 1)) (kn.take (i + 1)) = prsOf (ks.take i) (kn.take i) ++ oneP k o
  | k0 :: ks, o0 :: os, 0, k, o, h1, h2 => by
    cases h1
    cases h2
    cases o0 with
    | none => rfl
    | some w => rfl
  | k0 :: ks, some w :: os, i + 1, k, o, h1, h2 => congrArg ((k0.1, w) :: ·) (prs_take (ks := ks) (kn := os) (i := i) h1 h2)
  | k0 :: ks, none :: os, i + 1, k, o, h1, h2 => prs_take (ks := ks) (kn := os) (i := i) h1 h2
  | [], _, _, _, _, h, _ => by simp at h
  | _ :: _, [], _, _, _, _, h => by simp at h
theorem hn_take {ks : List Key} {kn : Known} {i : Nat} {k : Key} {o : Option Nat} (h1 : ks[i]? = some k) (h2 : kn[i]? = some o) : hNames (ks.take (i + 1)) (kn.take (i + 1)) = hNames (ks.take i) (kn.take i) ++ (oneP k o).map (·.1) := by
  rw [hNames_eq, hNames_eq, prs_take h1 h2, List.map_append]
theorem hn_len {ks : List Key} {kn : Known} : (hNames ks kn).length ≤ ks.length := by
  rw [hNames_eq, List.length_map]
  exact prs_len ks kn
abbrev nVInit : List Str := ["self", "sheet", "pairs", "held", "name"]
theorem scVInit : FnScope nVInit ["self", "sheet", "pairs"] (defScope sVInit) := ⟨rfl, rfl, rfl, by decide +kernel, rfl, by decide +kernel, by decide +kernel⟩
section
variable {base : Heap} {P : Program} {w : World} {K : PySem.W.Frag} {mg : Str → Option Value}
def spVI (K : PySem.W.Frag) (C CR CV : Addr) : Sp := fun vs H Q _ => ∃ (v dx S p : Addr) (z : Str) (ks : List Key) (rows : List RuleL) (eds : List (List Nat)) (kn : Known) (sp : List Pr), vs = [.ref v, .ref S, .ref p] ∧ H v = some (.ins CV dx []) ∧ ShAt K C CR H S z ks rows eds ∧ (ks.map (fun q : Key => q.1)).Nodup ∧ ks.length ≤ 3 ∧ KnOk ks kn ∧ SPok ks kn sp ∧ PrAt K H p sp ∧
  ∀ H', Keep v H H' → VwAt K CV H' v S ks kn → Q .non H'
theorem ok_vinit {f C CR CV : Addr} {fd : FuncData} (F : Fun K "__init__" "View.__init__" sVInit f fd) (T : Txt8 K mg) (TV : ViewT K mg CV) (TS : ShK P w K mg base C) (GA : Has P w K mg base "are_pairs" 4 ["sheet", "pairs"] (spArePairs K C CR)) : FnOk P w K mg base CX0 5 f fd ["self", "sheet", "pairs"] (spVI K C CR CV) := by
  refine F.ok scVInit (fun vs H Q E h => ?_) (fun cdv A outer s H vs Q E hr h => ?_)
  · obtain ⟨v, dx, S, p, z, ks, rows, eds, kn, sp, rfl, _⟩ := h
    rfl
  · obtain ⟨v, dx, S, p, z, ks, rows, eds, kn, sp, rfl, hv, hS, hn, h3, ok, so, hp, k⟩ := h
    have r2 : Room 2 _ := hr.mono (by decide)
    refine ⟨_, pss_cons (ps_if (pt_not (pt_val (pe_has GA hr (pa_cons (pv 1) (pa_cons (pv 2) pa_nil))))) (pss_one ps_never) pss_nil)
      (pss_cons (ps_set (i := 3) scVInit.nd rfl (.inr rfl) (pe_callTy (call_dictTP rfl) (by rfl) T.dict (by decide +kernel) (pa_cons (pv 2) pa_nil)))
      (pss_cons (ps_fld (pv 0) (pv 1) rfl) (pss_cons (ps_fld (pv 0) (pv 2) rfl)
      (pss_cons (ps_fld (pv 0) (pe_callTy call_tuple_of (by rfl) T.tuple (by decide +kernel) (pa_cons (pe_lc (own := [("name", 4)]) (g := gName 4) rfl scVInit.nd (pi_tup (pe_get TS.pN TS.cl r2 (pv 1)))
          (blkOk_by (N := nVInit) (sc := defScope sVInit) (by decide +kernel)) (fun _ _ _ _ _ => pg_name (i := 4) scVInit.nd rfl (Or.inl rfl)) (fun _ _ _ _ _ => pts_one (pt_cmp (pc_din (units1 hr) (pv 4) (pv 3)) (by rfl)))
          (fun _ _ _ _ _ => pv 4)) pa_nil)) rfl)
      (pss_one (ps_fld (pv 0) (pe_callTy call_tuple_of (by rfl) T.tuple (by decide +kernel) (pa_cons (pe_lc (own := [("name", 4)]) (g := gName 4) (tt := tYes) rfl scVInit.nd (pi_tup (pe_get TS.pN TS.cl r2 (pv 1)))
          (blkOk_by (N := nVInit) (sc := defScope sVInit) (by decide +kernel)) (fun _ _ _ _ _ => pg_name (i := 4) scVInit.nd rfl (Or.inl rfl)) (fun _ _ _ _ _ => pts_nil)
          (fun _ _ _ _ _ => pe_dget1 (units1 hr) (pv 3) (pv 4) ⟨rfl, rfl, rfl, rfl⟩)) pa_nil)) rfl)))))), ?_⟩
    refine ⟨_, rfl, _, rfl, S, p, z, ks, rows, eds, kn, sp, rfl, hS, hn, h3, ok, so, hp, fun H1 s1 => ⟨_, rfl, ?_⟩⟩
    refine ite2 (fun z => by cases z) (fun _ => ?_)
    obtain ⟨ts, hpt, pr⟩ := hp.pres (Pres.of s1)
    have prk : Paired (fun t (kv : L2.Key × V) => SqT K H1 t [kV kv.1, kv.2]) ts (kvsOf sp) := by
      exact paired_mapr (R' := fun t (kv : L2.Key × V) => SqT K H1 t [kV kv.1, kv.2]) (f := fun q : Pr => ((.inr q.1 : L2.Key), V.int (q.2 : Int))) (fun t q e => e) pr
    refine ⟨_, rfl, p, ts, kvsOf sp, rfl, hpt, prk, fun d nd => ?_⟩
    rw [merge_new _ [] (kvs_nodup hn so) (fun _ _ _ h => nomatch h), List.nil_append]
    have s2 := s1.trans (same_upd (o := .dK (kvsOf sp)) nd)
    have hd2 : (upd H1 d (.dK (kvsOf sp))) d = some (.dK (kvsOf sp)) := upd_same
    have hv2 := s2 _ _ hv
    generalize (upd H1 d (.dK (kvsOf sp))) = H2 at s2 hd2 hv2
    have dv : d ≠ v := ne_of hd2 hv2 (by simp)
    have l1 := putF_len (f := "_sheet") (y := .ref S) []
    have l2 := putF_len (f := "_pairs") (y := .ref p) (putF "_sheet" (.ref S) [])
    refine ⟨_, rfl, _, rfl, v, CV, dx, [], rfl, hv2, TV.cl, TV.n1, by decide, ?_⟩
    refine ⟨_, rfl, _, rfl, v, CV, dx, _, rfl, upd_same, TV.cl, TV.n2, Nat.lt_of_le_of_lt l1 (by decide), ?_⟩
    rw [upd_upd]
    have k3 : Keep v H (upd H2 v (.ins CV dx (putF "_pairs" (.ref p) (putF "_sheet" (.ref S) [])))) := (K03.Same.keep s2).trans Keep.put
    have hd3 : (upd H2 v (.ins CV dx (putF "_pairs" (.ref p) (putF "_sheet" (.ref S) [])))) d = some (.dK (kvsOf sp)) := by rw [upd_ne dv]; exact hd2
    have hv3 : (upd H2 v (.ins CV dx (putF "_pairs" (.ref p) (putF "_sheet" (.ref S) [])))) v = some (.ins CV dx (putF "_pairs" (.ref p) (putF "_sheet" (.ref S) []))) := upd_same
    generalize (upd H2 v (.ins CV dx (putF "_pairs" (.ref p) (putF "_sheet" (.ref S) [])))) = H3 at k3 hd3 hv3
    obtain ⟨dxs, n, sz, e, r, h1, hN, _, _, _⟩ := (hS.pres (Pres.keepv hv k3)).at_
    have lk : ks.length = kn.length := ok.length
    have ln : (namesV ks).length = ks.length := by unfold namesV; rw [List.length_map]
    have at_ : ∀ {i : Nat} {x : V}, (namesV ks)[i]? = some x → ∃ k o, ks[i]? = some k ∧ kn[i]? = some o ∧ x = .str k.1 := fun {i x} hx => by
      unfold namesV at hx
      rw [List.getElem?_map] at hx
      obtain ⟨k, hk, rfl⟩ := Option.map_eq_some_iff.mp hx
      have := (List.getElem?_eq_some_iff.mp hk).1
      exact ⟨k, kn[i]'(by omega), hk, List.getElem?_eq_getElem (by omega), rfl⟩
    refine ⟨_, rfl, S, dxs, _, rfl, h1, S, dxs, _, _, rfl, h1, sf_names, n, rfl, ⟨_, hN.sq⟩, fun D nD => ?_⟩
    refine lc_tup (K := K) (xs := namesV ks) (fun i H' => Same H3 H' ∧ H' D = some (.lst ((hNames (ks.take i) (kn.take i)).map V.str))) ⟨same_upd nD, upd_same⟩ (fun i H' _ z => sqT_same z.1 hN.sq) ?_ ?_
    · rintro i x H' hx ⟨s4, hD⟩
      obtain ⟨k, o, hk, ho, rfl⟩ := at_ hx
      have hle : (hNames (ks.take i) (kn.take i)).length ≤ 3 := by
        have a := hn_len (ks := ks.take i) (kn := kn.take i)
        rw [List.length_take] at a
        omega
      refine ⟨rfl, _, rfl, _, rfl, d, _, rfl, .inl ⟨kvsOf sp, .inr k.1, .inl (s4 _ _ hd3), rfl, (kvs_at hn so hk ho).symm⟩, _, rfl, ?_⟩
      cases o with
      | none =>
        refine ite2 (fun z => by cases z) (fun _ => ⟨s4, ?_⟩)
        rw [hn_take hk ho]
        simpa [oneP] using hD
      | some wo =>
        refine ite2 (fun _ => ⟨_, rfl, _, hD, ?_, same_new s4 nD, ?_⟩) (fun z => absurd rfl z)
        · rw [List.length_map]
          exact small1000 (by omega)
        · rw [upd_same, hn_take hk ho, List.map_append]
          rfl
    · rintro H' ⟨s4, hD⟩
      rw [ln, List.take_length, lk, List.take_length] at hD
      refine ⟨D, _, rfl, .inl ⟨SqL.of hD, fun nm nnm => ?_⟩⟩
      have s5 := s4.trans (same_upd (o := .tup ((hNames ks kn).map V.str)) nnm)
      have hv5 := s5 _ _ hv3
      have hd5 := s5 _ _ hd3
      have hnm5 : (upd H' nm (.tup ((hNames ks kn).map V.str))) nm = some (.tup ((hNames ks kn).map V.str)) := upd_same
      generalize (upd H' nm (.tup ((hNames ks kn).map V.str))) = H5 at s5 hv5 hd5 hnm5
      refine ⟨_, rfl, v, CV, dx, _, rfl, hv5, TV.cl, TV.n3, Nat.lt_of_le_of_lt l2 (Nat.lt_of_le_of_lt (Nat.succ_le_succ l1) (by decide)), ?_⟩
      have k6 : Keep v H (upd H5 v (.ins CV dx (putF "_names" (.ref nm) (putF "_pairs" (.ref p) (putF "_sheet" (.ref S) []))))) := (k3.trans (K03.Same.keep s5)).trans Keep.put
      have hv6 : (upd H5 v (.ins CV dx (putF "_names" (.ref nm) (putF "_pairs" (.ref p) (putF "_sheet" (.ref S) []))))) v = some (.ins CV dx (putF "_names" (.ref nm) (putF "_pairs" (.ref p) (putF "_sheet" (.ref S) [])))) := upd_same
      have hd6 : (upd H5 v (.ins CV dx (putF "_names" (.ref nm) (putF "_pairs" (.ref p) (putF "_sheet" (.ref S) []))))) d = some (.dK (kvsOf sp)) := by rw [upd_ne dv]; exact hd5
      have hnm6 : (upd H5 v (.ins CV dx (putF "_names" (.ref nm) (putF "_pairs" (.ref p) (putF "_sheet" (.ref S) []))))) nm = some (.tup ((hNames ks kn).map V.str)) := by
        rw [upd_ne (ne_of hnm5 hv5 (by simp))]
        exact hnm5
      generalize (upd H5 v (.ins CV dx (putF "_names" (.ref nm) (putF "_pairs" (.ref p) (putF "_sheet" (.ref S) []))))) = H6 at k6 hv6 hd6 hnm6
      obtain ⟨dxs6, n6, sz6, e6, r6, h16, hN6, _, _, _⟩ := (hS.pres (Pres.keepv hv k6)).at_
      refine ⟨_, rfl, S, dxs6, _, rfl, h16, S, dxs6, _, _, rfl, h16, sf_names, n6, rfl, ⟨_, hN6.sq⟩, fun D2 nD2 => ?_⟩
      refine lc_tup (K := K) (xs := namesV ks) (fun i H' => Same H6 H' ∧ H' D2 = some (.lst ((kn.take i).map wV))) ⟨same_upd nD2, upd_same⟩ (fun i H' _ z => sqT_same z.1 hN6.sq) ?_ ?_
      · rintro i x H7 hx ⟨s7, hD2⟩
        obtain ⟨k, o, hk, ho, rfl⟩ := at_ hx
        have ilt := (List.getElem?_eq_some_iff.mp hk).1
        refine ⟨rfl, _, rfl, d, rfl, .inl ⟨_, .inl (s7 _ _ hd6)⟩, _, rfl, _, .inl ⟨kvsOf sp, .inr k.1, .inl (s7 _ _ hd6), rfl, (kvs_at hn so hk ho).symm⟩, _, hD2, ?_, same_new s7 nD2, ?_⟩
        · rw [List.length_map, List.length_take]
          exact small1000 (by omega)
        · rw [upd_same, take_one ho, List.map_append]
          cases o with
          | none => rfl
          | some wo => rfl
      · rintro H7 ⟨s7, hD2⟩
        rw [ln, lk, List.take_length] at hD2
        refine ⟨D2, _, rfl, .inl ⟨SqL.of hD2, fun wo nwo => ?_⟩⟩
        have s8 := s7.trans (same_upd (o := .tup (kn.map wV)) nwo)
        have hv8 := s8 _ _ hv6
        have hnm8 := s8 _ _ hnm6
        have hwo8 : (upd H7 wo (.tup (kn.map wV))) wo = some (.tup (kn.map wV)) := upd_same
        generalize (upd H7 wo (.tup (kn.map wV))) = H8 at s8 hv8 hnm8 hwo8
        have l3 := putF_len (f := "_names") (y := .ref nm) (putF "_pairs" (.ref p) (putF "_sheet" (.ref S) []))
        refine ⟨_, rfl, v, CV, dx, _, rfl, hv8, TV.cl, TV.n4, Nat.lt_of_le_of_lt l3 (Nat.lt_of_le_of_lt (Nat.succ_le_succ (Nat.le_trans l2 (Nat.succ_le_succ l1))) (by decide)), ?_⟩
        have k9 : Keep v H (upd H8 v (.ins CV dx (vf (.ref S) (.ref p) (.ref nm) (.ref wo)))) := (k6.trans (K03.Same.keep s8)).trans Keep.put
        refine k _ k9 ⟨⟨dx, p, nm, wo, sp, upd_same, hp.pres (Pres.keepv hv k9), so, .inl (.inl ?_), .inl (.inl ?_)⟩, ok⟩
        · rw [upd_ne (ne_of hnm8 hv8 (by simp))]
          exact hnm8
        · rw [upd_ne (ne_of hwo8 hv8 (by simp))]
          exact hwo8
end
end K03

/-! a staticmethod called through its class -/
namespace L2
open PySem PySem.Spec PyProof.Rows ClX
structure SMet (K : PySem.W.Frag) (C : Addr) (mc : Value) (m : Str) (p g : Addr) : Prop where
  at_ : PySem.W.findCls K (.ref C) mc m = some (.get (.builtin "staticmethod.__get__") (.ref p) .none (.ref C))
  rc : ∃ rest, PySem.W.recIn K p "staticmethod" = some (.ref g :: rest)
  kp : PySem.W.keepIn K (.ref g) = true
def tSMeth (C : Addr) (sp : Sp) (ta : TE) (t : TA) : TE := fun σ H Q => ta σ H fun x H1 => x = .ref C ∧ t σ H1 fun vs H2 => sp vs H2 Q E0
section
variable {X : Cx} {k : Nat} {C p g : Addr} {fd : FuncData} {ps : List Str} {mc : Value} {sp : Sp} {o e : Expr} {es : List Expr} {m : Str} {pos apos : Pos} {ta : TE} {t : TA} {pl : Sem Bool}
theorem pe_smeth (he : PE X o ta) (r : CRead X.K C mc) (c : SMet X.K C mc m p g) (F : FnOk X.prog X.w X.K X.mg X.base CX0 k g fd ps sp) (hb : Binds X.K fd ps []) (hr : Room k X.A) (ha : PA X (e :: es) t)
    (hst : starEach (e :: es) X.env = (false, eval e X.env) :: starEach es X.env := by rfl) (hpl : (backTo pos (starEach es X.env)).any (·.1) = false := by rfl)
    (ht : eval (.Call (.Attribute o m apos) (e :: es) [] pos) X.env = (do
      let ov ← eval o X.env
      standAt apos.atName
      let (f, first) ← holding [ov] (getMethod ov m pl)
      callWith pos f first (backTo pos (starEach (e :: es) X.env)) (backToKw pos (keywordEach [] X.env))) := by rfl) :
    PE X (.Call (.Attribute o m apos) (e :: es) [] pos) (tSMeth C sp ta t) := by
  refine ⟨fun pins s σ H Q I h => ?_⟩
  refine PySem.W.methodCall_KW (pl := pl) (thn (he.run pins s σ H _ I h) fun u s1 ⟨x, H1, I1, rx, ex, q⟩ => ?_) ht
  subst ex
  obtain rfl : u = Value.ref C := rx
  obtain ⟨rest, hp⟩ := c.rc
  refine PySem.W.method_cls I1.kIn r.ga (PySem.W.cls_bind I1.kIn r.rd c.at_ (wpAny_call (PySem.W.sm_get (s := { s1 with toks := s1.toks + 1 }) I1.kIn hp (PySem.W.handed_on rfl ?_))))
  have I2 : Inv X pins σ H1 { s1 with toks := s1.toks + 1 } := I1.tok _
  refine PySem.W.callWith_K (h₀ := X.base) I2.ok.mod.kin c.kp (thn (ha.run pos pins _ σ H1 _ I2 q) fun us s3 ⟨vs, H2, I3, rv, q2⟩ => ⟨I3.kIn, ?_⟩) hst hpl
  exact run_fn (ds := []) (dvs := []) F hr hb .nil pass0 I3 rv (by rw [List.append_nil]; exact q2)
end
end L2

namespace K03
open L2 PySem PySem.Spec PyProof.Rows
abbrev sViewOf : Stmt := top 35
/-! ### pairs sorted -/
def hKey (H : Hp) : V → Str × Int
  | .ref t => match H t with
    | some (.tup [.str a, .int i]) => (a, i)
    | _ => ("", 0)
  | _ => ("", 0)
theorem hKey_at {H : Hp} {t : Addr} {a : Str} {i : Int} (h : H t = some (.tup [.str a, .int i])) : hKey H (.ref t) = (a, i) := by
  show (match H t with
    | some (.tup [.str a, .int i]) => (a, i)
    | _ => ("", 0)) = (a, i)
  rw [h]
def backA : V → Addr
  | .ref a => a
  | _ => 0
theorem back_ref : ∀ {ys : List V}, (∀ y ∈ ys, ∃ t, y = V.ref t) → ys = (ys.map backA).map V.ref
  | [], _ => rfl
  | y :: ys, h => by
    obtain ⟨t, rfl⟩ := h y List.mem_cons_self
    exact congrArg (V.ref t :: ·) (back_ref fun z hz => h z (List.mem_cons_of_mem _ hz))
def prKey (H : Hp) (t : Addr) : Pr := ((hKey H (.ref t)).1, (hKey H (.ref t)).2.toNat)
theorem prKey_map {H : Hp} : ∀ {ts : List Addr} {ps : List Pr}, Paired (fun (t : Addr) (q : Pr) => H t = some (.tup [.str q.1, .int (q.2 : Int)])) ts ps → ts.map (prKey H) = ps
  | _, _, .nil => rfl
  | _, _, .cons (b := q) h r => by
    rw [List.map_cons, prKey_map r]
    unfold prKey
    rw [hKey_at h]
    rfl
theorem paired_self {H : Hp} {f : Addr → Pr} : ∀ {ts : List Addr}, (∀ t ∈ ts, H t = some (.tup [.str (f t).1, .int ((f t).2 : Int)])) → Paired (fun (t : Addr) (q : Pr) => H t = some (.tup [.str q.1, .int (q.2 : Int)])) ts (ts.map f)
  | [], _ => .nil
  | t :: ts, h => .cons (h t List.mem_cons_self) (paired_self fun x hx => h x (List.mem_cons_of_mem _ hx))
theorem sort_ok {H : Hp} {ks : List Key} {kn : Known} {ts : List Addr} {ys : List V} (hn : (ks.map (fun q : Key => q.1)).Nodup) (pr : Paired (fun (t : Addr) (q : Pr) => H t = some (.tup [.str q.1, .int (q.2 : Int)])) ts (prsOf ks kn))
    (hs : SrtO.Srtd (fun x y => SVPair.lexS (hKey H x) (hKey H y)) ys) (hp : ys.Perm (ts.map V.ref)) : ∃ (ts' : List Addr) (sp : List Pr), ys = ts'.map V.ref ∧ SPok ks kn sp ∧ Paired (fun (t : Addr) (q : Pr) => H t = some (.tup [.str q.1, .int (q.2 : Int)])) ts' sp := by
  have hr : ∀ y ∈ ys, ∃ t, y = V.ref t := fun y hy => by
    obtain ⟨t, _, rfl⟩ := List.mem_map.mp (hp.mem_iff.mp hy)
    exact ⟨t, rfl⟩
  have ey := back_ref hr
  have pts : (ys.map backA).Perm ts := by
    have := hp.map backA
    rw [List.map_map] at this
    have e : ts.map (backA ∘ V.ref) = ts := by
      have : (backA ∘ V.ref) = (id : Addr → Addr) := rfl
      rw [this, List.map_id]
    rw [e] at this
    exact this
  generalize hts : ys.map backA = ts' at ey pts
  have all_ : ∀ t ∈ ts', H t = some (.tup [.str (prKey H t).1, .int ((prKey H t).2 : Int)]) := fun t ht => by
    obtain ⟨i, hi⟩ := List.getElem?_of_mem (pts.mem_iff.mp ht)
    obtain ⟨q, _, hq⟩ := paired_get pr hi
    rw [hq]
    unfold prKey
    rw [hKey_at hq]
    rfl
  have pm : (ts'.map (prKey H)).Perm (prsOf ks kn) := by
    rw [← prKey_map pr]
    exact pts.map _
  refine ⟨ts', ts'.map (prKey H), ey, ⟨pm, ?_⟩, paired_self all_⟩
  have nd : ((ts'.map (prKey H)).map (·.1)).Nodup := (pm.map _).nodup_iff.mpr (prs_nodup hn)
  rw [List.map_map] at nd
  have nd' : ts'.Pairwise fun a b => (prKey H a).1 ≠ (prKey H b).1 := List.pairwise_map.mp nd
  rw [ey] at hs
  have hs' : ts'.Pairwise fun a b => SVPair.lexS (hKey H (.ref b)) (hKey H (.ref a)) = false := List.pairwise_map.mp hs
  refine List.pairwise_map.mpr ((nd'.and hs').imp fun {a b} h => ?_)
  have h2 := SVPair.lexS_no.mp h.2
  by_cases e : ltS (prKey H a).1 (prKey H b).1
  · exact e
  · exfalso
    have h3 : ¬ SVPair.cs (hKey H (.ref b)).1 < SVPair.cs (hKey H (.ref a)).1 := fun z => h2 (.inl z)
    exact h.1 (SVPair.cs_inj (List.le_antisymm (List.not_lt.mp h3) (List.not_lt.mp e)))
abbrev nViewOf : List Str := ["sheet", "worths", "pairs", "name", "worth"]
theorem scViewOf : FnScope nViewOf ["sheet", "worths"] (defScope sViewOf) := ⟨rfl, rfl, rfl, by decide +kernel, rfl, by decide +kernel, by decide +kernel⟩
theorem same_mk {H : Hp} {x dx C : Addr} (nx : H x = none) (ndx : H dx = none) (ne : dx ≠ x) : Same H (upd (upd H dx (.own x)) x (.ins C dx [])) := (same_upd ndx).trans (same_upd (by rw [upd_ne ne.symm]; exact nx))
theorem mk_same {H H1 : Hp} {xp dx C : Addr} (nx : H xp = none) (ndx : H dx = none) (nex : dx ≠ xp) (k : Keep xp (upd (upd H dx (.own xp)) xp (.ins C dx [])) H1) : Same H H1 := fun b o q =>
  k b o (ne_of_none q nx) (same_mk nx ndx nex _ _ q)
theorem SqB.same {k : Bool} {K : PySem.W.Frag} {H H' : Hp} {a : Addr} {xs : List V} (s : Same H H') (h : SqB k K H a xs) : SqB k K H' a xs := by
  cases k with
  | true => 
    have h' : SqL K H a xs := h
    rcases h' with (h | ⟨o, h⟩) | h
    · exact (.inl (.inl (s _ _ h)) : SqL K H' a xs)
    · exact (.inl (.inr ⟨o, s _ _ h⟩) : SqL K H' a xs)
    · exact (.inr h : SqL K H' a xs)
  | false => exact sqT_same s (show SqT K H a xs from h)
section
variable {base : Heap} {P : Program} {w : World} {K : PySem.W.Frag} {mg : Str → Option Value}
/-- View's __init__, as makers know it -/
structure ViewC (P : Program) (w : World) (K : PySem.W.Frag) (mg : Str → Option Value) (base : Heap) (C CR CV : Addr) : Prop extends ViewT K mg CV where
  init : ∃ (fI : Addr) (fd : FuncData), Mk K CV fI ∧ FnOk P w K mg base CX0 5 fI fd ["self", "sheet", "pairs"] (spVI K C CR CV) ∧ Binds K fd ["self", "sheet", "pairs"] []
def spVO (kb : Bool) (K : PySem.W.Frag) (C CR CV : Addr) : Sp := fun vs H Q _ => ∃ (S wv : Addr) (z : Str) (ks : List Key) (rows : List RuleL) (eds : List (List Nat)) (kn : Known), vs = [.ref S, .ref wv] ∧ ShAt K C CR H S z ks rows eds ∧ (ks.map (fun q : Key => q.1)).Nodup ∧ ks.length ≤ 3 ∧ KnOk ks kn ∧ SqB kb K H wv (kn.map wV) ∧
  ∀ H' v, Same H H' → H v = none → VwAt K CV H' v S ks kn → Q (.ref v) H'
theorem ok_viewOf (kb : Bool) {f C CR CV : Addr} {fd : FuncData} (F : Fun K "view_of" "view_of" sViewOf f fd) (T : Txt8 K mg) (TV : ViewC P w K mg base C CR CV) (TS : ShK P w K mg base C) : FnOk P w K mg base CX0 7 f fd ["sheet", "worths"] (spVO kb K C CR CV) := by
  refine F.ok scViewOf (fun vs H Q E h => ?_) (fun cdv A outer s H vs Q E hr h => ?_)
  · obtain ⟨S, wv, z, ks, rows, eds, kn, rfl, _⟩ := h
    rfl
  · obtain ⟨S, wv, z, ks, rows, eds, kn, rfl, hS, hn, h3, ok, hw, k⟩ := h
    obtain ⟨fI, fdI, MI, FI, bI⟩ := TV.init
    have r2 : Room 2 _ := hr.mono (by decide)
    refine ⟨_, pss_cons (ps_setLc (i := 2) (own := [("name", 3), ("worth", 4)]) (g := gTup K 2 (gCons (gName 3) (gCons (gName 4) gNil))) rfl scViewOf.nd rfl rfl rfl
          (pi_zipM false kb (by rfl) T.zip (pa_cons (pe_get TS.pN TS.cl r2 (pv 0)) (pa_cons (pv 1) pa_nil)))
          (blkOk_by (N := nViewOf) (sc := defScope sViewOf) (by decide +kernel)) (fun _ _ _ _ _ => pg_tup rfl (pgs_cons (pg_name (i := 3) scViewOf.nd rfl (Or.inl rfl)) (pgs_cons (pg_name (i := 4) scViewOf.nd rfl (Or.inl rfl)) pgs_nil))) (fun _ _ _ _ _ => pts_one (pt_cmpR op_notN (pv 4) pe_non (nomark _)))
          (fun _ _ _ _ _ => pe_tup (pa_cons (pv 3) (pa_cons (pv 4) pa_nil))))
      (pss_one (ps_ret (pe_make (dvs := []) (ds := []) MI FI hr rfl TV.gV bI .nil pass0 (pa_cons (pv 0) (pa_cons (pe_callTy call_tupD (by rfl) T.tuple (by decide +kernel) (pa_cons (pe_callB cr_sortedSP (by rfl) T.sorted (by decide +kernel) (pa_cons (pv 2) pa_nil)) pa_nil)) pa_nil))))), ?_⟩
    obtain ⟨dxs, n, sz, e, r, h1, hN, _, _, _⟩ := hS.at_
    have lk : ks.length = kn.length := ok.length
    have ln : (namesV ks).length = ks.length := by unfold namesV; rw [List.length_map]
    have lm : ks.length = min (namesV ks).length (kn.map wV).length := by rw [ln, List.length_map]; omega
    refine ⟨_, rfl, S, dxs, _, rfl, h1, S, dxs, _, _, rfl, h1, sf_names, _, rfl, n, wv, _, _, rfl, hN.sq, hw, fun D nD => ?_⟩
    refine lc_it (walk_zipM (ka := false) (kb := kb) (K := K) (xs := namesV ks) (ys := kn.map wV) lm) (fun i H' => Same H H' ∧ ∃ ts : List Addr, H' D = some (.lst (ts.map V.ref)) ∧ Paired (fun (t : Addr) (q : Pr) => H' t = some (.tup [.str q.1, .int (q.2 : Int)])) ts (prsOf (ks.take i) (kn.take i))) ⟨same_upd nD, [], upd_same, .nil⟩ (fun i H' _ z => ⟨sqT_same z.1 hN.sq, SqB.same z.1 hw⟩) ?_ ?_
    · rintro i x H3 H4 hi ⟨s3, ts, hD, pr⟩ ⟨T1, x1, x2, rfl, nT, rfl, e1, e2⟩
      dsimp only at e1 e2
      unfold namesV at e1
      rw [List.getElem?_map] at e1 e2
      obtain ⟨k1, hk, rfl⟩ := Option.map_eq_some_iff.mp e1
      obtain ⟨o, ho, rfl⟩ := Option.map_eq_some_iff.mp e2
      have hlt : ts.length ≤ 3 := by
        have a := Paired.length pr
        have b := prs_len (ks.take i) (kn.take i)
        rw [List.length_take] at b
        omega
      have hD4 := get_new (o := .tup [V.str k1.1, wV o]) hD nT
      have s4 := s3.trans (same_upd (o := .tup [V.str k1.1, wV o]) nT)
      have pr4 := Paired.mapP pr fun t q e => get_new (o := .tup [V.str k1.1, wV o]) e nT
      refine ⟨T1, _, rfl, SqT.of upd_same, rfl, .str k1.1, _, rfl, wV o, _, rfl, rfl, ?_⟩
      refine ⟨rfl, _, rfl, rfl, _, rfl, ?_⟩
      cases o with
      | none =>
        refine ite2 (fun z => by cases z) (fun _ => ⟨s4, ts, hD4, ?_⟩)
        rw [prs_take hk ho]
        show Paired _ ts (_ ++ [])
        rw [List.append_nil]
        exact pr4
      | some wo =>
        refine ite2 (fun _ => ⟨_, rfl, _, rfl, (by show 2 ≤ sizeLine; decide), fun t nt => ⟨_, get_new hD4 nt, ?_, ?_⟩⟩) (fun z => absurd rfl z)
        · rw [List.length_map]
          exact small1000 (by omega)
        · have hD5 := get_new (o := .tup [V.str k1.1, V.int (wo : Int)]) hD4 nt
          refine ⟨same_new (s4.trans (same_upd nt)) nD, ts ++ [t], by rw [upd_same, List.map_append]; rfl, ?_⟩
          rw [prs_take hk ho]
          refine paired_snoc (Paired.mapP pr4 fun t' q e => ?_) ?_
          · have e5 := get_new (o := .tup [V.str k1.1, V.int (wo : Int)]) e nt
            rw [upd_ne (ne_of e5 hD5 (by simp))]
            exact e5
          · rw [upd_ne (ne_of (upd_same (o := .tup [V.str k1.1, V.int (wo : Int)])) hD5 (by simp)), upd_same]
            rfl
    · rintro H3 ⟨s3, ts, hD, pr⟩
      rw [List.take_length, lk, List.take_length] at pr
      refine ⟨_, rfl, _, rfl, D, ts.map V.ref, hKey H3, rfl, SqL.of hD, fun x hx => ?_, fun ys p hs hp np => ?_⟩
      · obtain ⟨t, ht, rfl⟩ := List.mem_map.mp hx
        obtain ⟨i, hi⟩ := List.getElem?_of_mem ht
        obtain ⟨q, _, hq⟩ := paired_get pr hi
        exact ⟨t, rfl, by rw [hKey_at hq]; exact hq⟩
      obtain ⟨ts', sp, rfl, so, pr'⟩ := sort_ok hn pr hs hp
      have s4 := s3.trans (same_upd (o := .lst (ts'.map V.ref)) np)
      refine ⟨p, _, rfl, SqL.of upd_same, fun l o nl od => ?_⟩
      have s5 := s4.trans (same_upd (o := .frz o (.tup (ts'.map V.ref))) nl)
      have pr5 : Paired (fun (t : Addr) (q : Pr) => SqT K (upd (upd H3 p (.lst (ts'.map V.ref))) l (.frz o (.tup (ts'.map V.ref)))) t [.str q.1, .int (q.2 : Int)]) ts' sp := Paired.mapP pr' fun t q e => SqT.of (get_new (get_new e np) nl)
      have hl5 : (upd (upd H3 p (.lst (ts'.map V.ref))) l (.frz o (.tup (ts'.map V.ref)))) l = some (.frz o (.tup (ts'.map V.ref))) := upd_same
      generalize (upd (upd H3 p (.lst (ts'.map V.ref))) l (.frz o (.tup (ts'.map V.ref)))) = H5 at s5 pr5 hl5
      intro x dx nx ndx ne
      have s6 := same_mk (C := CV) nx ndx ne
      refine ⟨x, dx, S, l, z, ks, rows, eds, kn, sp, rfl, upd_same, hS.pres (Pres.of (s5.trans s6)), hn, h3, ok, so, ⟨ts', ⟨o, s6 _ _ hl5, od⟩, Paired.mapP pr5 fun t q e => sqT_same s6 e⟩, fun H' kp hv => ⟨rfl, k H' x (s5.trans (mk_same nx ndx ne kp)) (s5.free nx) hv⟩⟩
end
end K03

namespace K03
open L2 PySem PySem.Spec PyProof.Rows
abbrev sVWhole : Stmt := inClass (top 29) 1
abbrev sVIsWhole : Stmt := inClass (top 29) 5
abbrev sVIsLawful : Stmt := inClass (top 29) 6
abbrev sVWithin : Stmt := inClass (top 29) 7
abbrev sVGet : Stmt := inClass (top 29) 8
abbrev sVHas : Stmt := inClass (top 29) 9
abbrev sVLen : Stmt := inClass (top 29) 10
abbrev sVEq : Stmt := inClass (top 29) 12
abbrev sVOr : Stmt := inClass (top 29) 13
abbrev sVAnd : Stmt := inClass (top 29) 14
abbrev sVSub : Stmt := inClass (top 29) 15
abbrev sCheckSheet : Stmt := top 33
abbrev sCheckParted : Stmt := top 34
abbrev sBeside : Stmt := top 36
abbrev sJoined : Stmt := top 37
def full (r : List Nat) : Known := r.map some
theorem full_wV (r : List Nat) : (full r).map wV = rowV r := by
  unfold full rowV
  rw [List.map_map]
  rfl
end K03

namespace K03
open L2 PySem PySem.Spec PyProof.Rows
/-! ### what fits -/
def fit1 (a b : Option Nat) : Bool := decide (a = none) || decide (a = b)
def fitsK (kn ot : Known) : Bool := (kn.zip ot).all fun p => fit1 p.1 p.2
theorem wV_eq (a b : Option Nat) : decide (wV a = wV b) = decide (a = b) := by
  refine decide_eq_decide.mpr ⟨fun h => ?_, fun h => by rw [h]⟩
  cases a with
  | none =>
    cases b with
    | none => rfl
    | some w => cases h
  | some v =>
    cases b with
    | none => cases h
    | some w =>
      have := V.int.inj h
      rw [show v = w by omega]
theorem wV_non (a : Option Nat) : decide (wV a = .non) = decide (a = none) := wV_eq a none
theorem wV_flat (a : Option Nat) : flatV (wV a) = true := by cases a <;> rfl
theorem wVs_flat : ∀ kn : Known, (kn.map wV).all flatV = true
  | [] => rfl
  | a :: r => by
    show (flatV (wV a) && (r.map wV).all flatV) = true
    rw [wV_flat, wVs_flat r]
    rfl
def allK (kn : Known) : Bool := kn.all Option.isSome
theorem inV_wV : ∀ kn : Known, inV .non (kn.map wV) = !allK kn
  | [] => rfl
  | a :: r => by
    show (eqV (wV a) .non || inV .non (r.map wV)) = !(a.isSome && allK r)
    rw [inV_wV r]
    cases a with
    | none => rfl
    | some w =>
      show (false || !allK r) = !(true && allK r)
      rw [Bool.false_or, Bool.true_and]
def prD (sp : List Pr) : PyData := .tuple (sp.map fun q => .tuple [.str q.1, .int (q.2 : Int)])
theorem prD_eq : ∀ a b : List Pr, PyData.eqvAll (a.map fun q => PyData.tuple [.str q.1, .int (q.2 : Int)]) (b.map fun q => PyData.tuple [.str q.1, .int (q.2 : Int)]) = decide (a = b)
  | [], [] => rfl
  | [], _ :: _ => rfl
  | _ :: _, [] => rfl
  | x :: l, y :: m => by
    show (((x.1 == y.1) && (((x.2 : Int) == (y.2 : Int)) && true)) && PyData.eqvAll (l.map _) (m.map _)) = _
    rw [prD_eq l m, Bool.eq_iff_iff]
    simp only [Bool.and_eq_true, beq_iff_eq, decide_eq_true_eq, Bool.and_true, List.cons.injEq]
    constructor
    · rintro ⟨⟨a, b⟩, c⟩
      exact ⟨Prod.ext a (by omega), c⟩
    · rintro ⟨a, c⟩
      rw [a]
      exact ⟨⟨rfl, rfl⟩, c⟩
theorem prD_eqv (a b : List Pr) : PyData.eqv (prD a) (prD b) = decide (a = b) := prD_eq a b
theorem pr_dp {K : PySem.W.Frag} {H : Hp} : ∀ {ts : List Addr} {sp : List Pr}, Paired (fun (t : Addr) (q : Pr) => SqT K H t [.str q.1, .int (q.2 : Int)]) ts sp → DpAll K H (ts.map V.ref) (sp.map fun q => PyData.tuple [.str q.1, .int (q.2 : Int)])
  | _, _, .nil => .nil
  | _, _, .cons h r => .cons (.tup h (.cons (.str _) (.cons (.int _) .nil))) (pr_dp r)
theorem PrAt.dp {K : PySem.W.Frag} {H : Hp} {p : Addr} {sp : List Pr} (h : PrAt K H p sp) : Dp K H (.ref p) (prD sp) := by
  obtain ⟨ts, e, r⟩ := h
  exact .tup e.sq (pr_dp r)
theorem prs_lay : ∀ sp : List Pr, (∀ q ∈ sp, PyData.strOk q.1 = true) → PyData.canLayAll0 (sp.map fun q => PyData.tuple [.str q.1, .int (q.2 : Int)]) = true ∧ PyData.depthAll (sp.map fun q => PyData.tuple [.str q.1, .int (q.2 : Int)]) ≤ 1
  | [], _ => ⟨rfl, by decide⟩
  | q :: l, h => by
    obtain ⟨h1, h2⟩ := prs_lay l fun x hx => h x (List.mem_cons_of_mem _ hx)
    refine ⟨?_, ?_⟩
    · show ((PyData.strOk q.1 && (true && true)) && PyData.canLayAll0 (l.map _)) = true
      rw [h1, h q List.mem_cons_self]
      rfl
    · show max 1 (PyData.depthAll (l.map _)) ≤ 1
      omega
theorem prD_shaped {sp : List Pr} (h : ∀ q ∈ sp, PyData.strOk q.1 = true) : SeqAt.shaped (prD sp) = true := by
  obtain ⟨h1, h2⟩ := prs_lay sp h
  show (PyData.canLayAll0 (sp.map _) && decide (PyData.depthAll (sp.map _) + 1 ≤ 64)) = true
  rw [h1, decide_eq_true (by omega)]
  rfl
/-! ### what a sheet is of which views are made -/
structure SG (ks : List Key) (eds : List (List Nat)) : Prop where
  nd : (ks.map (fun q : Key => q.1)).Nodup
  le : ks.length ≤ 3
  ed : ∀ r ∈ eds, KnOk ks (full r)
  few : eds.length ≤ 27
  nm : ∀ k ∈ ks, PyData.strOk k.1 = true
theorem SPok.strs {ks : List Key} {eds : List (List Nat)} {kn : Known} {sp : List Pr} (g : SG ks eds) (h : SPok ks kn sp) : ∀ q ∈ sp, PyData.strOk q.1 = true := fun q hq => by
  obtain ⟨i, k, e1, _, e3⟩ := h.mem.mp (show (q.1, q.2) ∈ sp from hq)
  rw [← e3]
  exact g.nm k (List.mem_of_getElem? e1)
/-- a Sheet's ==, as those that ask it know it -/
structure SEqK (P : Program) (w : World) (K : PySem.W.Frag) (mg : Str → Option Value) (base : Heap) (C : Addr) : Prop where
  cC : PySem.W.kitOne K (.ref C) (.ref C) = some true
  ti : ∀ {H : Hp} {a dx : Addr} {fs : List (Str × V)}, H a = some (.ins C dx fs) → TyX K H (.ref a) (.ref C)
  fC : PySem.W.notFirst K C (.ref C) = true
  eq : HasD CX0 P w K mg base C "__eq__" 1 ["self", "other"] (spSEq K C)
  ne : PySem.W.findIn K (.ref C) "__ne__" = some (some (.builtin "object.__ne__"))
  ob : PySem.W.mroIn K C (.type "object") = some true
/-- what isinstance tells of a View -/
structure VwK (K : PySem.W.Frag) (CV : Addr) : Prop where
  cV : PySem.W.kitOne K (.ref CV) (.ref CV) = some true
  ti : ∀ {H : Hp} {a dx : Addr} {fs : List (Str × V)}, H a = some (.ins CV dx fs) → TyX K H (.ref a) (.ref CV)
def HasQ (P : Program) (w : World) (K : PySem.W.Frag) (mg : Str → Option Value) (base : Heap) (C : Addr) (nm : Str) (k : Nat) (sp : Sp) : Prop :=
  ∃ (p g : Addr) (fd : FuncData), PropOf K C nm p g ∧ FnOk P w K mg base CX0 k g fd ["self"] sp ∧ Binds K fd ["self"] []
theorem pe_getQ {X : Cx} {C : Addr} {nm : Str} {k : Nat} {sp : Sp} {e : Expr} {te : TE} {pos : Pos} (h : HasQ X.prog X.w X.K X.mg X.base C nm k sp) (c : Cls X.K C) (hr : Room (k + 1) X.A) (he : PE X e te) (hab : attributeBase e nm X.env (eval e X.env) = eval e X.env := by rfl) :
    PE X (.Attribute e nm pos) (tProp C sp [] E0 te) := by
  obtain ⟨p, g, fd, hp, F, hb⟩ := h
  exact pe_prop he c hp F hr hb .nil pass0 hab
section
variable {base : Heap} {P : Program} {w : World} {K : PySem.W.Frag} {mg : Str → Option Value}
/-! ### fits -/
def spFits (K : PySem.W.Frag) : Sp := fun vs H Q _ => ∃ (a b : Addr) (kn ot : Known), vs = [.ref a, .ref b] ∧ SqT K H a (kn.map wV) ∧ SqT K H b (ot.map wV) ∧ kn.length = ot.length ∧ kn.length ≤ 3 ∧ ∀ H', Same H H' → Q (.bl (fitsK kn ot)) H'
abbrev nFits : List Str := ["worths", "edition", "worth", "other"]
theorem scFits : FnScope nFits ["worths", "edition"] (defScope sFits) := ⟨rfl, rfl, rfl, by decide +kernel, rfl, by decide +kernel, by decide +kernel⟩
theorem ok_fits {f : Addr} {fd : FuncData} (F : Fun K "fits" "fits" sFits f fd) (T : Txt8 K mg) : FnOk P w K mg base CX0 1 f fd ["worths", "edition"] (spFits K) := by
  refine F.ok scFits (fun vs H Q E h => ?_) (fun cdv A outer s H vs Q E hr h => ?_)
  · obtain ⟨a, b, kn, ot, rfl, _⟩ := h
    rfl
  · obtain ⟨a, b, kn, ot, rfl, ha, hb, hl, h3, k⟩ := h
    refine ⟨_, pss_one (ps_ret (pe_callB (cr_all rfl) (by rfl) T.all (by decide +kernel) (pa_cons (pe_lc (own := [("worth", 2), ("other", 3)]) (g := gTup K 2 (gCons (gName 2) (gCons (gName 3) gNil))) (tt := tYes) rfl scFits.nd
          (pi_zipM false false (by rfl) T.zip (pa_cons (pv 0) (pa_cons (pv 1) pa_nil)))
          (blkOk_by (N := nFits) (sc := defScope sFits) (by decide +kernel)) (fun _ _ _ _ _ => pg_tup rfl (pgs_cons (pg_name (i := 2) scFits.nd rfl (Or.inl rfl)) (pgs_cons (pg_name (i := 3) scFits.nd rfl (Or.inl rfl)) pgs_nil))) (fun _ _ _ _ _ => pts_nil)
          (fun _ _ _ _ _ => pe_or (pe_cmpR op_isN (pv 2) pe_non (nomark _)) (pe_one (pe_cmpR op_eq (pv 2) (pv 3) (nomark _))))) pa_nil))), ?_⟩
    have lm : kn.length = min (kn.map wV).length (ot.map wV).length := by rw [List.length_map, List.length_map]; omega
    refine ⟨_, rfl, _, rfl, a, b, _, _, rfl, ha, hb, fun D nD => ?_⟩
    refine lc_it (walk_zipM (ka := false) (kb := false) (K := K) (xs := kn.map wV) (ys := ot.map wV) lm) (fun i H' => Same H H' ∧ H' D = some (.lst ((((kn.zip ot).take i).map fun p => fit1 p.1 p.2).map V.bl))) ⟨same_upd nD, upd_same⟩ (fun i H' _ z => ⟨sqT_same z.1 ha, sqT_same z.1 hb⟩) ?_ ?_
    · rintro i x H3 H4 hi ⟨s3, hD⟩ ⟨T1, x1, x2, rfl, nT, rfl, e1, e2⟩
      dsimp only at e1 e2
      rw [List.getElem?_map] at e1 e2
      obtain ⟨o1, h1, rfl⟩ := Option.map_eq_some_iff.mp e1
      obtain ⟨o2, h2, rfl⟩ := Option.map_eq_some_iff.mp e2
      have hz : (kn.zip ot)[i]? = some (o1, o2) := by rw [List.getElem?_zip_eq_some]; exact ⟨h1, h2⟩
      have hD4 := get_new (o := .tup [wV o1, wV o2]) hD nT
      have s4 := s3.trans (same_upd (o := .tup [wV o1, wV o2]) nT)
      refine ⟨T1, _, rfl, SqT.of upd_same, rfl, wV o1, _, rfl, wV o2, _, rfl, rfl, ?_⟩
      have fin : ∀ b, b = fit1 o1 o2 → ∃ acc, (upd H3 T1 (.tup [wV o1, wV o2])) D = some (.lst acc) ∧ acc.length < sizeLine ∧ Same H (upd (upd H3 T1 (.tup [wV o1, wV o2])) D (.lst (acc ++ [.bl b]))) ∧ (upd (upd H3 T1 (.tup [wV o1, wV o2])) D (.lst (acc ++ [.bl b]))) D = some (.lst ((((kn.zip ot).take (i + 1)).map fun p => fit1 p.1 p.2).map V.bl)) := fun b eb => by
        refine ⟨_, hD4, ?_, same_new s4 nD, ?_⟩
        · rw [List.length_map, List.length_map, List.length_take]
          exact small1000 (by omega)
        · rw [upd_same, take_one hz, List.map_append, List.map_append, eb]
          rfl
      refine ⟨rfl, _, rfl, rfl, _, rfl, ?_⟩
      refine ite2 (fun z => ?_) (fun z => ?_)
      · refine fin true ?_
        rw [wV_non] at z
        unfold fit1
        rw [z]
        rfl
      · refine ⟨_, rfl, _, rfl, ?_, ?_⟩
        · cases o1 <;> cases o2 <;> rfl
        · refine fin _ ?_
          rw [wV_non, Bool.not_eq_true] at z
          rw [wV_eq]
          unfold fit1
          rw [z]
          rfl
    · rintro H3 ⟨s3, hD⟩
      have lz : (kn.zip ot).length = kn.length := by rw [List.length_zip]; omega
      rw [← lz, List.take_length] at hD
      refine ⟨D, _, rfl, SqL.of hD, ?_⟩
      have ea : ((kn.zip ot).map fun p => fit1 p.1 p.2).all id = fitsK kn ot := by
        rw [List.all_map]
        rfl
      rw [ea]
      exact k H3 s3
end
end K03

namespace K03
open L2 PySem PySem.Spec PyProof.Rows
theorem pe_fldK {K : PySem.W.Frag} {X : Cx} {e : Expr} {f : Str} {pos : Pos} {ta : TE} (he : PE X e ta) (hb : attributeBase e f X.env (eval e X.env) = eval e X.env := by rfl) (hK : X.K = K := by rfl) : PE X (.Attribute e f pos) (tFld K ta f) := by
  subst hK
  exact pe_fld he hb
section
variable {base : Heap} {P : Program} {w : World} {K : PySem.W.Frag} {mg : Str → Option Value}
theorem scSelf1 (st : Stmt) (h : defScope st = defScope sSText) : FnScope ["self"] ["self"] (defScope st) := scSelf st h
/-! ### check_sheet -/
def spCheckS (K : PySem.W.Frag) (C CR CV : Addr) : Sp := fun vs H Q _ => ∃ (v S S' : Addr) (z : Str) (ks : List Key) (rows : List RuleL) (eds : List (List Nat)) (kn : Known), vs = [.ref S, .ref v] ∧ ShAt K C CR H S z ks rows eds ∧ ShAt K C CR H S' z ks rows eds ∧ VwAt K CV H v S' ks kn ∧ ∀ H', Same H H' → Q .non H'
theorem scCheckS : FnScope ["sheet", "value"] ["sheet", "value"] (defScope sCheckSheet) := ⟨rfl, rfl, rfl, by decide +kernel, rfl, by decide +kernel, by decide +kernel⟩
theorem ok_checkS {f C CR CV : Addr} {fd : FuncData} (F : Fun K "check_sheet" "check_sheet" sCheckSheet f fd) (T : Txt8 K mg) (TV : ViewT K mg CV) (VK' : VwK K CV) (SE : SEqK P w K mg base C) (pS : HasP P w K mg base CV "sheet" "_sheet") : FnOk P w K mg base CX0 3 f fd ["sheet", "value"] (spCheckS K C CR CV) := by
  refine F.ok scCheckS (fun vs H Q E h => ?_) (fun cdv A outer s H vs Q E hr h => ?_)
  · obtain ⟨v, S, S', z, ks, rows, eds, kn, rfl, _⟩ := h
    rfl
  · obtain ⟨v, S, S', z, ks, rows, eds, kn, rfl, hS, hS', hv, k⟩ := h
    refine ⟨_, pss_one (ps_if (PW.pt (pw_or (pt_not (pt_val (pe_callB call_isi (by rfl) T.isinst (by decide +kernel) (pa_cons (pv 1) (pa_cons (pe_glob (v := .ref CV) (by rfl) TV.gV rfl) pa_nil)))))
        (pw_or1 (pt_cmpR (op_ownNe SE.eq SE.ne SE.ob hr) (pe_get pS TV.cl hr (pv 1)) (pv 0) (nomark _))))) (pss_one ps_never) pss_nil), ?_⟩
    obtain ⟨dx, pr, nm, wo, sp, h1, _, _, _, _⟩ := hv.at_
    obtain ⟨dxs, n, sz, e, q, s1, _⟩ := hS.at_
    obtain ⟨dxs', n', sz', e', q', s1', _⟩ := hS'.at_
    refine ⟨_, rfl, _, _, _, _, true, rfl, .own CV, VK'.ti h1, VK'.cV, true, rfl, ?_⟩
    refine ite2 (fun z => by cases z) (fun _ => ?_)
    refine ⟨_, rfl, v, dx, _, rfl, h1, v, dx, _, _, rfl, h1, vf_sheet, _, rfl, S', S, .ref C, rfl, rfl, ⟨dxs', _, s1'⟩, SE.ti s1, SE.fC, S', dxs', _, z, _, rfl, s1', sf_text, .inr ⟨S, dxs, _, z, .ref C, rfl, s1, sf_text, SE.ti s1, SE.cC, fun H1 e1 => ⟨_, rfl, _, rfl, ?_⟩⟩⟩
    rw [decide_eq_true rfl]
    exact ite2 (fun z => by cases z) (fun _ => k H1 e1)
end
end K03

namespace K03
open L2 PySem PySem.Spec PyProof.Rows
section
variable {base : Heap} {P : Program} {w : World} {K : PySem.W.Frag} {mg : Str → Option Value}
/-! ### is_within -/
theorem hn_mem {ks : List Key} {kn : Known} {a : Str} : a ∈ hNames ks kn ↔ ∃ (i : Nat) (k : Key) (w : Nat), ks[i]? = some k ∧ kn[i]? = some (some w) ∧ k.1 = a := by
  rw [hNames_eq]
  constructor
  · intro h
    obtain ⟨q, hq, rfl⟩ := List.mem_map.mp h
    obtain ⟨i, k, e1, e2, e3⟩ := mem_prs (show (q.1, q.2) ∈ prsOf ks kn from hq)
    exact ⟨i, k, q.2, e1, e2, e3⟩
  · rintro ⟨i, k, w, e1, e2, rfl⟩
    exact List.mem_map.mpr ⟨(k.1, w), prs_mem e1 e2, rfl⟩
theorem hn_at {ks : List Key} {kn : Known} (hn : (ks.map (fun q : Key => q.1)).Nodup) {i : Nat} {k : Key} {o : Option Nat} (hk : ks[i]? = some k) (ho : kn[i]? = some o) : decide (k.1 ∈ hNames ks kn) = o.isSome := by
  cases o with
  | some w => exact decide_eq_true (hn_mem.mpr ⟨i, k, w, hk, ho, rfl⟩)
  | none =>
    refine decide_eq_false fun h => ?_
    obtain ⟨j, k', w, e1, e2, e3⟩ := hn_mem.mp h
    rw [keys_uniq hn e1 hk e3, ho] at e2
    cases e2
theorem inV_strs (b : Str) : ∀ l : List Str, inV (.str b) (l.map V.str) = decide (b ∈ l)
  | [] => rfl
  | r :: l => by
    show ((r == b) || inV (.str b) (l.map V.str)) = _
    rw [inV_strs b l, Bool.eq_iff_iff]
    simp only [Bool.or_eq_true, beq_iff_eq, decide_eq_true_eq, List.mem_cons]
    exact ⟨fun h => h.imp Eq.symm id, fun h => h.imp Eq.symm id⟩
theorem strs_flat : ∀ l : List Str, (l.map V.str).all flatV = true
  | [] => rfl
  | a :: r => by
    show (flatV (.str a) && (r.map V.str).all flatV) = true
    rw [strs_flat r]
    rfl
def spVHas (K : PySem.W.Frag) (CV : Addr) : Sp := fun vs H Q _ => ∃ (v S : Addr) (ks : List Key) (kn : Known) (i : Nat) (k : Key) (o : Option Nat), vs = [.ref v, .str k.1] ∧ (ks.map (fun q : Key => q.1)).Nodup ∧ VwAt K CV H v S ks kn ∧ ks[i]? = some k ∧ kn[i]? = some o ∧ Q (.bl o.isSome) H
theorem scVHas : FnScope ["self", "key"] ["self", "key"] (defScope sVHas) := ⟨rfl, rfl, rfl, by decide +kernel, rfl, by decide +kernel, by decide +kernel⟩
theorem ok_vhas {f CV : Addr} {fd : FuncData} (F : Fun K "__contains__" "View.__contains__" sVHas f fd) (TV : ViewT K mg CV) : FnOk P w K mg base CX0 1 f fd ["self", "key"] (spVHas K CV) := by
  refine F.ok scVHas (fun vs H Q E h => ?_) (fun cdv A outer s H vs Q E hr h => ?_)
  · obtain ⟨v, S, ks, kn, i, k, o, rfl, _⟩ := h
    rfl
  · obtain ⟨v, S, ks, kn, i, k, o, rfl, hn, hv, hk, ho, q⟩ := h
    refine ⟨_, pss_one (ps_ret (pe_cmpR op_in_seq (pv 1) (pe_fld (pv 0) rfl) (by rfl))), ?_⟩
    obtain ⟨dx, pr, nm, wo, sp, h1, _, _, hm, _⟩ := hv.at_
    refine ⟨_, rfl, _, rfl, v, CV, dx, _, _, rfl, h1, TV.cl, TV.n3, vf_names, nm, _, rfl, .inr hm, rfl, strs_flat _, ?_⟩
    show Q (.bl (inV (.str k.1) ((hNames ks kn).map V.str))) H
    rw [inV_strs, hn_at hn hk ho]
    exact q
def spVGet (K : PySem.W.Frag) (C CR CV : Addr) : Sp := fun vs H Q _ => ∃ (v S : Addr) (z : Str) (ks : List Key) (rows : List RuleL) (eds : List (List Nat)) (kn : Known) (i : Nat) (k : Key) (w : Nat), vs = [.ref v, .str k.1] ∧ ShAt K C CR H S z ks rows eds ∧ (ks.map (fun q : Key => q.1)).Nodup ∧ VwAt K CV H v S ks kn ∧ ks[i]? = some k ∧ kn[i]? = some (some w) ∧ Q (.int (w : Int)) H
theorem scVGet : FnScope ["self", "key"] ["self", "key"] (defScope sVGet) := ⟨rfl, rfl, rfl, by decide +kernel, rfl, by decide +kernel, by decide +kernel⟩
theorem ok_vget {f C CR CV : Addr} {fd : FuncData} (F : Fun K "__getitem__" "View.__getitem__" sVGet f fd) (TV : ViewT K mg CV) (TS : ShK P w K mg base C) : FnOk P w K mg base CX0 3 f fd ["self", "key"] (spVGet K C CR CV) := by
  refine F.ok scVGet (fun vs H Q E h => ?_) (fun cdv A outer s H vs Q E hr h => ?_)
  · obtain ⟨v, S, z, ks, rows, eds, kn, i, k, w, rfl, _⟩ := h
    rfl
  · obtain ⟨v, S, z, ks, rows, eds, kn, i, k, w, rfl, hS, hn, hv, hk, ho, q⟩ := h
    refine ⟨_, pss_cons (ps_if (pt_cmpR op_notIn_seq (pv 1) (pe_fld (pv 0) rfl) (by rfl)) (pss_one ps_never) pss_nil)
      (pss_one (ps_ret (pe_ix ix_tup (pe_fld (pv 0) rfl) (pe_mG ty_tupD PySem.F.plainAttrs_tuple PySem.F.slot_tuple_index PySem.F.type_tuple_index mt_tup_index (pe_get TS.pN TS.cl hr (pe_fld (pv 0) rfl)) (pa_cons (pv 1) pa_nil)) (fun _ _ => rfl)))), ?_⟩
    obtain ⟨dx, pr, nm, wo, sp, h1, _, _, hm, hw⟩ := hv.at_
    obtain ⟨dxs, n, sz, e, r, s1, hN, _⟩ := hS.at_
    refine ⟨_, rfl, _, rfl, v, CV, dx, _, _, rfl, h1, TV.cl, TV.n3, vf_names, nm, _, rfl, .inr hm, rfl, strs_flat _, _, rfl, ?_⟩
    refine ite2 (fun z => ?_) (fun _ => ?_)
    · have z' : (!inV (.str k.1) ((hNames ks kn).map V.str)) = true := z
      rw [inV_strs, hn_at hn hk ho] at z'
      cases z'
    have hat : (ks.map (fun q : Key => q.1))[i]? = some k.1 := by rw [List.getElem?_map, hk]; rfl
    have hn2 : SqT K H n ((ks.map (fun q : Key => q.1)).map V.str) := by
      have e : (ks.map (fun q : Key => q.1)).map V.str = namesV ks := by
        unfold namesV
        rw [List.map_map]
        rfl
      rw [e]
      exact hN.sq
    have hwo : atI (kn.map wV) ((i : Nat) : Int) = some (.int (w : Int)) := atI_nat (by rw [List.getElem?_map, ho]; rfl)
    refine ⟨_, rfl, v, CV, dx, _, _, rfl, h1, TV.cl, TV.n4, vf_worths, _, rfl, v, CV, dx, _, _, rfl, h1, TV.cl, TV.n1, vf_sheet, S, dxs, _, rfl, s1, S, dxs, _, _, rfl, s1, sf_names, ⟨n, _, rfl, hN⟩, _, rfl, n, ks.map (fun q : Key => q.1), k.1, i, rfl, rfl, hn2, hat, fun m hm q => ?_, wo, _, _, _, rfl, rfl, hw, hwo, q⟩
    have := keys_uniq (i := m) (j := i) hn (k := ks[m]'(by have := (List.getElem?_eq_some_iff.mp hk).1; omega)) (k' := k) (List.getElem?_eq_getElem _) hk ?_
    · omega
    · rw [List.getElem?_map, List.getElem?_eq_getElem (by have := (List.getElem?_eq_some_iff.mp hk).1; omega)] at q
      exact Option.some.inj q
def cntK (kn : Known) : Nat := kn.countP Option.isSome
theorem prs_cnt : ∀ (ks : List Key) (kn : Known), ks.length = kn.length → (prsOf ks kn).length = cntK kn
  | [], [], _ => rfl
  | k :: ks, some w :: os, h => by
    show (prsOf ks os).length + 1 = cntK (some w :: os)
    rw [prs_cnt ks os (Nat.succ.inj h)]
    unfold cntK
    rw [List.countP_cons_of_pos rfl]
  | k :: ks, none :: os, h => by
    show (prsOf ks os).length = cntK (none :: os)
    rw [prs_cnt ks os (Nat.succ.inj h)]
    unfold cntK
    rw [List.countP_cons_of_neg (by decide)]
  | [], _ :: _, h => nomatch h
  | _ :: _, [], h => nomatch h
def spVLen (K : PySem.W.Frag) (CV : Addr) : Sp := fun vs H Q _ => ∃ (v S : Addr) (ks : List Key) (kn : Known), vs = [.ref v] ∧ VwAt K CV H v S ks kn ∧ Q (.int (cntK kn : Int)) H
theorem scVLen : FnScope ["self"] ["self"] (defScope sVLen) := ⟨rfl, rfl, rfl, by decide +kernel, rfl, by decide +kernel, by decide +kernel⟩
theorem ok_vlen {f CV : Addr} {fd : FuncData} (F : Fun K "__len__" "View.__len__" sVLen f fd) (T : Txt8 K mg) (TV : ViewT K mg CV) : FnOk P w K mg base CX0 1 f fd ["self"] (spVLen K CV) := by
  refine F.ok scVLen (fun vs H Q E h => ?_) (fun cdv A outer s H vs Q E hr h => ?_)
  · obtain ⟨v, S, ks, kn, rfl, _⟩ := h
    rfl
  · obtain ⟨v, S, ks, kn, rfl, hv, q⟩ := h
    refine ⟨_, pss_one (ps_ret (pe_callB call_len_seq (by rfl) T.len PySem.boot_len (pa_cons (pe_fld (pv 0) rfl) pa_nil))), ?_⟩
    obtain ⟨dx, pr, nm, wo, sp, h1, ⟨ts, hp, pp⟩, so, _, _⟩ := hv.at_
    refine ⟨_, rfl, v, CV, dx, _, _, rfl, h1, TV.cl, TV.n2, vf_pairs, pr, _, rfl, .inr hp.sq, ?_⟩
    have e : (ts.map V.ref).length = cntK kn := by
      rw [List.length_map, Paired.length pp, so.len, prs_cnt ks kn hv.ok.length]
    rw [e]
    exact q
/-! ### v == u, of one sheet -/
def spVEq (K : PySem.W.Frag) (C CR CV : Addr) : Sp := fun vs H Q _ => ∃ (v u S S' : Addr) (z : Str) (ks : List Key) (rows : List RuleL) (eds : List (List Nat)) (kn ot : Known), vs = [.ref v, .ref u] ∧ ShAt K C CR H S z ks rows eds ∧ SG ks eds ∧ VwAt K CV H v S ks kn ∧ ShAt K C CR H S' z ks rows eds ∧ VwAt K CV H u S' ks ot ∧ ∀ H', Same H H' → Q (.bl (decide (kn = ot))) H'
theorem scVEq : FnScope ["self", "other"] ["self", "other"] (defScope sVEq) := ⟨rfl, rfl, rfl, by decide +kernel, rfl, by decide +kernel, by decide +kernel⟩
theorem ok_veq {f C CR CV : Addr} {fd : FuncData} (F : Fun K "__eq__" "View.__eq__" sVEq f fd) (T : Txt8 K mg) (TV : ViewT K mg CV) (VK' : VwK K CV) (SE : SEqK P w K mg base C) : FnOk P w K mg base CX0 3 f fd ["self", "other"] (spVEq K C CR CV) := by
  refine F.ok scVEq (fun vs H Q E h => ?_) (fun cdv A outer s H vs Q E hr h => ?_)
  · obtain ⟨v, u, S, S', z, ks, rows, eds, kn, ot, rfl, _⟩ := h
    rfl
  · obtain ⟨v, u, S, S', z, ks, rows, eds, kn, ot, rfl, hS, g, hv, hS', hu, k⟩ := h
    have r1 : Room 1 _ := hr.mono (by decide)
    refine ⟨_, pss_one (ps_ret (pe_and (pe_callB call_isi (by rfl) T.isinst (by decide +kernel) (pa_cons (pv 1) (pa_cons (pe_glob (v := .ref CV) (by rfl) TV.gV rfl) pa_nil)))
      (pe_and (pe_cmpR (op_ownEqS SE.eq r1) (pe_fld (pv 0) rfl) (pe_fld (pv 1) rfl) (nomark _))
      (pe_one (pe_cmpR (op_eqD (units64 hr)) (pe_fld (pv 0) rfl) (pe_fld (pv 1) rfl) (nomark _)))))), ?_⟩
    obtain ⟨dx, pr, nm, wo, sp, h1, hp, so, _, _⟩ := hv.at_
    obtain ⟨dxu, pru, nmu, wou, spu, u1, hpu, sou, _, _⟩ := hu.at_
    obtain ⟨dxs, n, sz, e, q, s1, _⟩ := hS.at_
    obtain ⟨dxs', n', sz', e', q', s1', _⟩ := hS'.at_
    refine ⟨_, rfl, _, _, _, _, true, rfl, .own CV, VK'.ti u1, VK'.cV, true, rfl, ?_⟩
    refine ⟨_, rfl, v, CV, dx, _, _, rfl, h1, TV.cl, TV.n1, vf_sheet, _, rfl, u, CV, dxu, _, _, rfl, u1, TV.cl, TV.n1, vf_sheet, S, .ref C, rfl, ⟨dxs, _, s1⟩, SE.ti s1', SE.fC, S, dxs, _, z, _, rfl, s1, sf_text, .inr ⟨S', dxs', _, z, .ref C, rfl, s1', sf_text, SE.ti s1', SE.cC, fun H1 e1 => ⟨_, rfl, _, rfl, ?_⟩⟩⟩
    rw [decide_eq_true rfl]
    refine ⟨_, rfl, v, CV, dx, _, _, rfl, e1 _ _ h1, TV.cl, TV.n2, vf_pairs, _, rfl, u, CV, dxu, _, _, rfl, e1 _ _ u1, TV.cl, TV.n2, vf_pairs, prD sp, prD spu, (hp.pres (Pres.of e1)).dp, (hpu.pres (Pres.of e1)).dp, prD_shaped (so.strs g), prD_shaped (sou.strs g), ?_⟩
    have e : PyData.eqv (prD sp) (prD spu) = decide (kn = ot) := by
      rw [prD_eqv]
      refine decide_eq_decide.mpr ⟨fun z => ?_, fun z => ?_⟩
      · subst z
        exact so.inj g.nd hv.ok hu.ok sou
      · subst z
        exact so.uniq sou
    rw [e]
    exact k H1 e1
end
end K03

/-! zip of three tuples -/
namespace L2
open PySem PySem.Spec PyProof.Rows
theorem vals3' {xs : List V} {us : List Value} {a b c : V} (r : Vals [a, b, c] us) : ∃ u v w, us = [u, v, w] ∧ RelV a u ∧ RelV b v ∧ RelV c w := by
  cases r with
  | cons r1 r =>
    cases r with
    | cons r2 r =>
      cases r with
      | cons r3 r =>
        cases r
        exact ⟨_, _, _, rfl, r1, r2, r3⟩
def Itz3 (K : PySem.W.Frag) (a b c : Addr) : It :=
  ⟨fun i H => ∃ (xs ys zs : List V) (x y z : V), SqT K H a xs ∧ SqT K H b ys ∧ SqT K H c zs ∧ xs[i]? = some x ∧ ys[i]? = some y ∧ zs[i]? = some z,
    fun i H v H' => ∃ T x y z, v = .ref T ∧ H T = none ∧ H' = upd H T (.tup [x, y, z]) ∧ (∀ xs, SqT K H a xs → xs[i]? = some x) ∧ (∀ ys, SqT K H b ys → ys[i]? = some y) ∧ ∀ zs, SqT K H c zs → zs[i]? = some z,
    fun i H => ∃ xs ys zs : List V, SqT K H a xs ∧ SqT K H b ys ∧ SqT K H c zs ∧ i ≤ xs.length ∧ i ≤ ys.length ∧ i ≤ zs.length ∧ (i = xs.length ∨ i = ys.length ∨ i = zs.length)⟩
theorem turn_zip3 {P : Program} {w : World} {K : PySem.W.Frag} {elts : List Expr} {kk : Nat} {tpos : Pos} {a b c z TI TO i1 i2 i3 : Addr} (D : ZipSep3 z TI TO i1 i2 i3 [i1, a] [i2, b] [i3, c]) (na : a ≠ i1) (nb : b ≠ i2) (nc : c ≠ i3) :
    Turn P w K (.Tuple elts kk tpos) (Itz3 K a b c) [z, TI, TO, i1, i2, i3] z (fun i h => IsZip h z TI TO .none ∧ IsTupOf3 h TI (.ref i1) (.ref i2) (.ref i3) ∧ (∃ x y u, IsTupOf3 h TO x y u) ∧ ItB false h i1 a i ∧ ItB false h i2 b i ∧ ItB false h i3 c i) where
  mem := by simp
  obj := fun i h st c hc => by
    obtain ⟨hz, hTI, ⟨x, y, u, hTO⟩, h1, h2, h3⟩ := st
    have e' : c = z ∨ c = TI ∨ c = TO ∨ c = i1 ∨ c = i2 ∨ c = i3 := by simpa using hc
    rcases e' with q | q | q | q | q | q
    · rw [q]; exact ⟨_, hz, fun v q => nomatch q⟩
    · rw [q]; exact ⟨_, hTI, fun v q => nomatch q⟩
    · rw [q]; exact ⟨_, hTO, fun v q => nomatch q⟩
    · rw [q]; exact h1.obj
    · rw [q]; exact h2.obj
    · rw [q]; exact h3.obj
  keep := fun i h h' st k => by
    obtain ⟨hz, hTI, ⟨x, y, u, hTO⟩, h1, h2, h3⟩ := st
    exact ⟨k z (by simp) _ hz, k TI (by simp) _ hTI, ⟨x, y, u, k TO (by simp) _ hTO⟩, h1.at fun o q => k i1 (by simp) o q, h2.at fun o q => k i2 (by simp) o q, h3.at fun o q => k i3 (by simp) o q⟩
  item := by
    intro X hP hw hK hc i pins s σ H E I hf st hg
    subst hP hw hK
    obtain ⟨hz, hTI, ⟨x0, y0, u0, hTO⟩, h1, h2, h3⟩ := st
    obtain ⟨xs, ys, zs, x, y, zz, hqx, hqy, hqz, hx, hy, hzz⟩ := hg
    obtain ⟨its, rv, p, _⟩ := I.sqB (k := false) hqx
    obtain ⟨its2, rv2, p2, _⟩ := I.sqB (k := false) hqy
    obtain ⟨its3, rv3, p3, _⟩ := I.sqB (k := false) hqz
    obtain ⟨u, hu, ru⟩ := rv.get hx
    obtain ⟨u2, hu2, ru2⟩ := rv2.get hy
    obtain ⟨u3, hu3, ru3⟩ := rv3.get hzz
    have hzl : z < s.heap.objs.size := Heap.lt_size hz
    have hh : X.A.in1.handled = none := I.ok.hd hc
    have q1 : i < its.toArray.size := by have := (List.getElem?_eq_some_iff.mp hu).1; simpa using this
    have q2 : i < its2.toArray.size := by have := (List.getElem?_eq_some_iff.mp hu2).1; simpa using this
    have q3 : i < its3.toArray.size := by have := (List.getElem?_eq_some_iff.mp hu3).1; simpa using this
    refine wpAny_pyNext_zipD3_item D (drawsB false hh i1 a na its.toArray) (drawsB false hh i2 b nb its2.toArray) (drawsB false hh i3 c nc its3.toArray) hz hTI hTO ⟨h1, p⟩ ⟨h2, p2⟩ ⟨h3, p3⟩ q1 q2 q3 fun v1 v2 v3 h' tk e1 e2 e3 z' TO' h1' h2' h3' hT hsz hk => ?_
    obtain rfl : u = v1 := Option.some.inj (hu.symm.trans (by simpa using e1))
    obtain rfl : u2 = v2 := Option.some.inj (hu2.symm.trans (by simpa using e2))
    obtain rfl : u3 = v3 := Option.some.inj (hu3.symm.trans (by simpa using e3))
    refine ⟨_, rfl, wpAny_letOwnedTupleGo_zip (s := { s with heap := h', toks := tk }) z' fun h'' z'' sb => ?_⟩
    have hT2 : h''.get? s.heap.objs.size = some { cls := .type "tuple", data := .seq #[u, u2, u3] } := (sb.2 _ (Nat.ne_of_gt hzl)).trans hT
    have new : ObjOk X.prog X.w (upd H s.heap.objs.size (.tup [x, y, zz])) h'' s.heap.objs.size (.tup [x, y, zz]) :=
      ⟨by show 3 ≤ sizeLine; decide, [u, u2, u3], .cons ru (.cons ru2 (.cons ru3 .nil)), ⟨_, hT2, rfl, _, rfl⟩⟩
    have I1 : Inv X pins σ (upd H s.heap.objs.size (.tup [x, y, zz])) { s with heap := h'', toks := tk } :=
      I.turnedNew (t' := tk) (ch := [z, TI, TO, i1, i2, i3]) (fun c o hb q => (sb.2 c (fun q' => hb (by simp [q']))).trans (hk c o (fun q' => hb (by simp [q'])) (fun q' => hb (by simp [q'])) (fun q' => hb (by simp [q'])) (fun q' => hb (by simp [q'])) (fun q' => hb (by simp [q'])) q)) hf (Nat.le_refl _) new
    refine ⟨.ref s.heap.objs.size, _, I1, rfl, ⟨_, x, y, zz, rfl, I.hok.fresh (Nat.le_refl _), rfl, fun l hl => by rw [I.tuple_inj hl hqx]; exact hx, fun l hl => by rw [I.tuple_inj hl hqy]; exact hy, fun l hl => by rw [I.tuple_inj hl hqz]; exact hzz⟩, ⟨z'', ?_, ⟨u, u2, u3, ?_⟩, ?_, ?_, ?_⟩, fun c hcm => ?_⟩
    · exact (sb.2 _ D.TIz).trans (hk _ _ D.TIz D.TITO D.TIi1 D.TIi2 D.TIi3 hTI)
    · exact (sb.2 _ D.TOz).trans TO'
    · exact h1'.1.at fun o q => (sb.2 _ D.zi1.symm).trans q
    · exact h2'.1.at fun o q => (sb.2 _ D.zi2.symm).trans q
    · exact h3'.1.at fun o q => (sb.2 _ D.zi3.symm).trans q
    · have hlt : c < s.heap.objs.size := by
        have e' : c = z ∨ c = TI ∨ c = TO ∨ c = i1 ∨ c = i2 ∨ c = i3 := by simpa using hcm
        rcases e' with q | q | q | q | q | q
        · rw [q]; exact hzl
        · rw [q]; exact Heap.lt_size hTI
        · rw [q]; exact Heap.lt_size hTO
        · rw [q]; obtain ⟨_, e1, _⟩ := h1.obj; exact Heap.lt_size e1
        · rw [q]; obtain ⟨_, e2, _⟩ := h2.obj; exact Heap.lt_size e2
        · rw [q]; obtain ⟨_, e2, _⟩ := h3.obj; exact Heap.lt_size e2
      rw [upd_ne (Nat.ne_of_lt hlt)]
      exact (hf c hcm).1
  done := by
    intro X hP hw hK hc i pins s σ H E I hf st hg
    subst hP hw hK
    obtain ⟨hz, hTI, ⟨x0, y0, u0, hTO⟩, h1, h2, h3⟩ := st
    obtain ⟨xs, ys, zs, hqx, hqy, hqz, z1, z2, z3, hend⟩ := hg
    obtain ⟨its, rv, p, _⟩ := I.sqB (k := false) hqx
    obtain ⟨its2, rv2, p2, _⟩ := I.sqB (k := false) hqy
    obtain ⟨its3, rv3, p3, _⟩ := I.sqB (k := false) hqz
    have l1 := rv.length
    have l2 := rv2.length
    have l3 := rv3.length
    have hh : X.A.in1.handled = none := I.ok.hd hc
    have m1 : i ≤ its.toArray.size := by rw [List.size_toArray]; omega
    have m2 : i ≤ its2.toArray.size := by rw [List.size_toArray]; omega
    have m3 : i ≤ its3.toArray.size := by rw [List.size_toArray]; omega
    have m4 : i = its.toArray.size ∨ i = its2.toArray.size ∨ i = its3.toArray.size := by rw [List.size_toArray, List.size_toArray, List.size_toArray]; omega
    exact wpAny_pyNext_zipD3_end D (drawsB false hh i1 a na its.toArray) (drawsB false hh i2 b nb its2.toArray) (drawsB false hh i3 c nc its3.toArray) hz hTI hTO ⟨h1, p⟩ ⟨h2, p2⟩ ⟨h3, p3⟩ m1 m2 m3 m4 fun h' tk hk => ⟨rfl, I.turnedL (t' := tk) (ch := [z, TI, TO, i1, i2, i3]) (fun c o hb q =>
      hk c o (fun q' => hb (by simp [q'])) (fun q' => hb (by simp [q'])) (fun q' => hb (by simp [q'])) (fun q' => hb (by simp [q'])) (fun q' => hb (by simp [q'])) q) hf⟩
  self := fun A i s Q E st h => wpAny_pyIter_zip st.1 h
def iZip3 (K : PySem.W.Frag) (ta : TA) : TI := fun σ H R => ta σ H fun vs H1 => ∃ a b c xs ys zs, vs = [.ref a, .ref b, .ref c] ∧ SqT K H1 a xs ∧ SqT K H1 b ys ∧ SqT K H1 c zs ∧ R (Itz3 K a b c) H1
theorem pi_zip3 {X : Cx} {e e2 e3 : Expr} {ta : TA} {p pos tpos : Pos} {elts : List Expr} {kk : Nat} (hg : Gl X "zip") (hm : X.mg "zip" = none) (ha : PA X [e, e2, e3] ta)
    (hs : starEach [e, e2, e3] X.env = (false, eval e X.env) :: starEach [e2, e3] X.env := by rfl) (hpl : (backTo pos (starEach [e2, e3] X.env)).any (·.1) = false := by rfl) :
    PI X (.Tuple elts kk tpos) (.Call (.Name "zip" p) [e, e2, e3] [] pos) (iZip3 X.K ta) := by
  refine ⟨fun pins s σ H R I h => ?_⟩
  refine Call_ (ld_blt I hg hm PyProof.Rows.boot_zip (PyProof.Rows.callWith_type1 (thn (ha.run pos pins s σ H _ I h) fun us s1 ⟨vs, H1, I1, r1, q1⟩ => ?_) hs hpl))
  obtain ⟨a, b, c, xs, ys, zs, ex, hqx, hqy, hqz, q⟩ := q1
  subst ex
  obtain ⟨u1, u2, u3, rfl, ra, rb, rc⟩ := vals3' (xs := []) r1
  cases ra
  cases rb
  cases rc
  obtain ⟨its, rv, p1, _⟩ := I1.sqB (k := false) hqx
  obtain ⟨its2, rv2, p2, _⟩ := I1.sqB (k := false) hqy
  obtain ⟨its3, rv3, p3, _⟩ := I1.sqB (k := false) hqz
  have la := p1.lt
  have lb := p2.lt
  have lc := p3.lt
  refine zip_begins3 (beginsB false a its.toArray) (beginsB false b its2.toArray) (beginsB false c its3.toArray) p1 p2 p3 fun h' hz hTI hTO h1 h2 h3 hsz hk => wpAny_pyIter_zip hz ?_
  have I2 : Inv X pins σ H1 { s1 with heap := h' } := I1.kept (t' := s1.toks) hk
  have S := zip_sep3 (N := s1.heap.objs.size) (fp1 := [a]) (fp2 := [b]) (fp3 := [c]) (fun c hc => by rw [List.mem_singleton.mp hc]; exact la) (fun c hc => by rw [List.mem_singleton.mp hc]; exact lb) (fun c hc => by rw [List.mem_singleton.mp hc]; exact lc)
  refine ⟨s1.heap.objs.size + 5, [s1.heap.objs.size + 5, s1.heap.objs.size + 3, s1.heap.objs.size + 4, s1.heap.objs.size, s1.heap.objs.size + 1, s1.heap.objs.size + 2], _, _, H1, rfl, I2, turn_zip3 S (Nat.ne_of_lt la) (Nat.ne_of_lt (Nat.lt_succ_of_lt lb)) (Nat.ne_of_lt (Nat.lt_succ_of_lt (Nat.lt_succ_of_lt lc))), ⟨hz, hTI, ⟨_, _, _, hTO⟩, itB_new false h1, itB_new false h2, itB_new false h3⟩, fun c hcm => ?_, q⟩
  have e' : c = s1.heap.objs.size + 5 ∨ c = s1.heap.objs.size + 3 ∨ c = s1.heap.objs.size + 4 ∨ c = s1.heap.objs.size ∨ c = s1.heap.objs.size + 1 ∨ c = s1.heap.objs.size + 2 := by simpa using hcm
  have hle : s1.heap.objs.size ≤ c := by
    rcases e' with z | z | z | z | z | z
    · rw [z]; exact Nat.le_add_right _ _
    · rw [z]; exact Nat.le_add_right _ _
    · rw [z]; exact Nat.le_add_right _ _
    · rw [z]; exact Nat.le_refl _
    · rw [z]; exact Nat.le_add_right _ _
    · rw [z]; exact Nat.le_add_right _ _
  exact I1.fpOk hle (I1.hok.fresh hle)
def YTri (xs ys zs : Nat → Option V) : Nat → Hp → V → Hp → Prop := fun i H v H' => ∃ T x y z, v = .ref T ∧ H T = none ∧ H' = upd H T (.tup [x, y, z]) ∧ xs i = some x ∧ ys i = some y ∧ zs i = some z
theorem walk_zip3 {K : PySem.W.Frag} {a b c : Addr} {xs ys zs : List V} {n : Nat} (h1 : xs.length = n) (h2 : ys.length = n) (h3 : zs.length = n) : Walk (Itz3 K a b c) n (fun H => SqT K H a xs ∧ SqT K H b ys ∧ SqT K H c zs) (YTri (fun i => xs[i]?) (fun i => ys[i]?) (fun i => zs[i]?)) := by
  refine ⟨fun i _ hi q => ?_, fun _ q => ⟨xs, ys, zs, q.1, q.2.1, q.2.2, by omega, by omega, by omega, by omega⟩, fun i H v H' _ q y => ?_⟩
  · have l1 : i < xs.length := by omega
    have l2 : i < ys.length := by omega
    have l3 : i < zs.length := by omega
    exact ⟨xs, ys, zs, xs[i], ys[i], zs[i], q.1, q.2.1, q.2.2, by simp [l1], by simp [l2], by simp [l3]⟩
  · obtain ⟨T, x, y, z, h1, h2, h3, h4, h5, h6⟩ := y
    exact ⟨T, x, y, z, h1, h2, h3, h4 xs q.1, h5 ys q.2.1, h6 zs q.2.2⟩
end L2

namespace K03
open L2 PySem PySem.Spec PyProof.Rows
/-! ### errors with any value -/
structure ErrC (P : Program) (w : World) (K : PySem.W.Frag) (mg : Str → Option Value) (base : Heap) (nm : Str) (CB : Addr) : Prop where
  ox : OexC K CB
  gB : mg nm = some (.ref CB)
  nv : PySem.W.findIn K (.ref CB) "value" = some none
  init : ∃ (fI : Addr) (fd : FuncData), PySem.W.findIn K (.ref CB) "__init__" = some (some (.ref fI)) ∧ PySem.W.typeIn K (.ref fI) = some (.type "function") ∧ FnOk P w K mg base CX0 1 fI fd ["self", "value"] (spEI K) ∧ Binds K fd ["self", "value"] []
def BadV (H : Hp) (CB : Addr) (v : V) (E : XK) : Prop := ∀ d H', Same H H' → H d = none → H' d = some (.xd (fV v)) → E (.ref CB) (some d) H'
theorem BadV.same {H H1 : Hp} {CB : Addr} {v : V} {E : XK} (s : Same H H1) (h : BadV H CB v E) : BadV H1 CB v E := fun d H' s' hd e => h d H' (s.trans s') (s.free hd) e
theorem ps_badC {X : Cx} {CB : Addr} {W : WX} {nm : Str} {e : Expr} {te : TE} {p pos pos2 : Pos} (B : ErrC X.prog X.w X.K X.mg X.base nm CB) (hc : X.calm = true) (tk : L2.Takes X W) (hr : Room 2 X.A) (he : PE X e te) (hg : Gl X nm := by rfl) (hdb : (nm == ("__debug__" : Str)) = false := by decide)
    (hst : starEach (e :: []) X.env = (false, eval e X.env) :: starEach [] X.env := by rfl) (hpl : (backTo pos (starEach [] X.env)).any (·.1) = false := by rfl) :
    PS X (.Raise (some (.Call (.Name nm p) [e] [] pos)) none pos2) (fun _ σ H => tMkO CB (spEI X.K) [] (tCons te tNil) σ H fun cls d H' => W cls d σ H') := by
  obtain ⟨fI, fd, iC, tI, F1, hb⟩ := B.init
  exact ps_raise (W := W) (pos := pos2) hc tk (pmk_oex (pos := pos) (p := p) (ta := tCons te tNil) (dvs := []) B.ox iC tI F1 hr hb .nil pass0 hg B.gB (pa_cons he pa_nil hst) hdb hst hpl)
theorem badC_made {P : Program} {w : World} {K : PySem.W.Frag} {mg : Str → Option Value} {base : Heap} {nm : Str} {CB : Addr} {x : V} {H1 : Hp} {R : XK} (B : ErrC P w K mg base nm CB) (h : BadV H1 CB x R) : ([x] : List V).length ≤ 1000 ∧ ∀ a, H1 a = none → spEI K (.ref a :: ([x] ++ [])) (upd H1 a (exo a CB none))
    (fun v H2 => v = .non ∧ ∃ (d : Addr) (fs : List (Str × V)), H2 a = some (exo a CB (some d)) ∧ H2 d = some (exd d fs) ∧ H1 d = none ∧ R (.ref CB) (some d) (upd (del H2 a) d (.xd fs))) (fun _ _ _ => False) := by
  refine ⟨(by show 1 ≤ 1000; decide), fun a ha => ⟨a, CB, x, rfl, B.ox, B.nv, upd_same, fun dx hdx ne => ⟨rfl, dx, fV x, upd_same, ?_, ?_, ?_⟩⟩⟩
  · rw [upd_ne ne, upd_same]
  · rw [upd_ne ne] at hdx
    exact hdx
  · have d1 : H1 dx = none := by
      rw [upd_ne ne] at hdx
      exact hdx
    refine h dx _ (fun b o e => ?_) d1 upd_same
    have nba : b ≠ a := ne_of_none e ha
    have nbd : b ≠ dx := ne_of_none e d1
    rw [upd_ne nbd, del_ne nba, upd_ne nba, upd_ne nbd, upd_ne nba]
    exact e
/-! ### two views part by part -/
def part1 : Option Nat → Option Nat → Bool
  | some x, some y => !decide (x = y)
  | _, _ => false
def partB (kn ot : Known) : Bool := (kn.zip ot).any fun p => part1 p.1 p.2
def joinF (a b : Option Nat) : Option Nat := if a = none then b else a
def andF (a b : Option Nat) : Option Nat := if a = b then a else none
def subF (a b : Option Nat) : Option Nat := if b = none then a else none
def mapK (f : Option Nat → Option Nat → Option Nat) (kn ot : Known) : Known := (kn.zip ot).map fun p => f p.1 p.2
theorem mapK_ok {f : Option Nat → Option Nat → Option Nat} (hf : ∀ a b, f a b = a ∨ f a b = b ∨ f a b = none) : ∀ {ks : List Key} {kn ot : Known}, KnOk ks kn → KnOk ks ot → KnOk ks (mapK f kn ot)
  | _, _, _, .nil, .nil => .nil
  | _, _, _, .cons (b := a) h r, .cons (b := b) h' r' => .cons (fun w e => by
      have e : f a b = some w := e
      rcases hf a b with q | q | q
      · rw [q] at e; exact h w e
      · rw [q] at e; exact h' w e
      · rw [q] at e; cases e) (mapK_ok hf r r')
theorem paired_unmap {α β γ : Type} {R : α → γ → Prop} {f : β → γ} : ∀ {xs : List α} {ys : List β}, Paired R xs (ys.map f) → Paired (fun x y => R x (f y)) xs ys
  | _, [], .nil => .nil
  | _, _ :: _, .cons a b => .cons a (paired_unmap b)
/-- the keys of which both have unlike worths -/
def apartL : List Key → Known → Known → List Str
  | k :: ks, a :: kn, b :: ot => if part1 a b = true then k.1 :: apartL ks kn ot else apartL ks kn ot
  | _, _, _ => []
theorem apart_at : ∀ {ks : List Key} {kn ot : Known} {i : Nat} {k : Key} {a b : Option Nat}, ks[i]? = some k → kn[i]? = some a → ot[i]? = some b → ((kn.zip ot).take i).any (fun p => part1 p.1 p.2) = false → part1 a b = true → ∃ r, apartL ks kn ot = k.1 :: r
  | k0 :: ks, a0 :: kn, b0 :: ot, 0, k, a, b, h1, h2, h3, _, h5 => by
    cases h1
    cases h2
    cases h3
    exact ⟨apartL ks kn ot, if_pos h5⟩
  | k0 :: ks, a0 :: kn, b0 :: ot, i + 1, k, a, b, h1, h2, h3, h4, h5 => by
    have h4' : (part1 a0 b0 || ((kn.zip ot).take i).any (fun p => part1 p.1 p.2)) = false := h4
    obtain ⟨x, y⟩ := Bool.or_eq_false_iff.mp h4'
    obtain ⟨r, e⟩ := apart_at (ks := ks) (kn := kn) (ot := ot) h1 h2 h3 y h5
    refine ⟨r, ?_⟩
    show (if part1 a0 b0 = true then _ else _) = _
    rw [if_neg (by rw [x]; decide)]
    exact e
  | [], _, _, _, _, _, _, h, _, _, _, _ => by simp at h
  | _ :: _, [], _, _, _, _, _, _, h, _, _, _ => by simp at h
  | _ :: _, _ :: _, [], _, _, _, _, _, _, h, _, _ => by simp at h
theorem apart_nil : ∀ {ks : List Key} {kn ot : Known}, ks.length = kn.length → ks.length = ot.length → (apartL ks kn ot = [] ↔ partB kn ot = false)
  | [], [], [], _, _ => ⟨fun _ => rfl, fun _ => rfl⟩
  | k :: ks, a :: kn, b :: ot, h1, h2 => by
    have ih := apart_nil (ks := ks) (kn := kn) (ot := ot) (Nat.succ.inj h1) (Nat.succ.inj h2)
    have e : partB (a :: kn) (b :: ot) = (part1 a b || partB kn ot) := rfl
    have e2 : apartL (k :: ks) (a :: kn) (b :: ot) = if part1 a b = true then k.1 :: apartL ks kn ot else apartL ks kn ot := rfl
    rw [e, e2]
    cases part1 a b with
    | true => simp
    | false => simpa using ih
  | [], _ :: _, _, h, _ => nomatch h
  | _ :: _, [], _, h, _ => nomatch h
  | [], [], _ :: _, _, h => nomatch h
  | _ :: _, _ :: _, [], _, h => nomatch h
section
variable {base : Heap} {P : Program} {w : World} {K : PySem.W.Frag} {mg : Str → Option Value}
/-! ### check_parted -/
def spParted (K : PySem.W.Frag) (C CR CV CP : Addr) : Sp := fun vs H Q E => ∃ (v u S S' : Addr) (z : Str) (ks : List Key) (rows : List RuleL) (eds : List (List Nat)) (kn ot : Known), vs = [.ref v, .ref u] ∧ ShAt K C CR H S z ks rows eds ∧ VwAt K CV H v S ks kn ∧ ShAt K C CR H S' z ks rows eds ∧ VwAt K CV H u S' ks ot ∧
  (∀ (nm : Str) (r : List Str), apartL ks kn ot = nm :: r → BadV H CP (.str nm) E) ∧ (partB kn ot = false → ∀ H', Same H H' → Q .non H')
abbrev nParted : List Str := ["one", "other", "name", "mine", "theirs"]
theorem scParted : FnScope nParted ["one", "other"] (defScope sCheckParted) := ⟨rfl, rfl, rfl, by decide +kernel, rfl, by decide +kernel, by decide +kernel⟩
theorem ok_parted {f C CR CV CP : Addr} {fd : FuncData} (F : Fun K "check_parted" "check_parted" sCheckParted f fd) (T : Txt8 K mg) (TV : ViewT K mg CV) (TS : ShK P w K mg base C) (pS : HasP P w K mg base CV "sheet" "_sheet") (pW : HasP P w K mg base CV "worths" "_worths") (B : ErrC P w K mg base "Parted" CP) :
    FnOk P w K mg base (L2.CX P w) 3 f fd ["one", "other"] (spParted K C CR CV CP) := by
  refine F.okX scParted (fun vs H Q E h => ?_) (fun cdv A outer s H vs Q E hr h => ?_)
  · obtain ⟨v, u, S, S', z, ks, rows, eds, kn, ot, rfl, _⟩ := h
    rfl
  · obtain ⟨v, u, S, S', z, ks, rows, eds, kn, ot, rfl, hS, hv, hS', hu, kB, kO⟩ := h
    refine ⟨_, pss_one (ps_for (passes_of rfl) rfl (pi_zip3 (by rfl) T.zip (pa_cons (pe_get TS.pN TS.cl hr (pe_get pS TV.cl hr (pv 0))) (pa_cons (pe_get pW TV.cl hr (pv 0)) (pa_cons (pe_get pW TV.cl hr (pv 1)) pa_nil))))
        (pg_tup rfl (pgs_cons (pg_name (i := 2) scParted.nd rfl (.inl rfl)) (pgs_cons (pg_name (i := 3) scParted.nd rfl (.inl rfl)) (pgs_cons (pg_name (i := 4) scParted.nd rfl (.inl rfl)) pgs_nil))))
        (pss_one (ps_if (PW.pt (pw_and (pt_cmpR op_notN (pv 3) pe_non (nomark _)) (pw_and (pt_cmpR op_notN (pv 4) pe_non (nomark _)) (pw_and1 (pt_cmpR op_ne (pv 3) (pv 4) (nomark _))))))
          (pss_one (ps_badC B rfl (takes_of rfl rfl rfl rfl) hr (pv 2))) pss_nil))), ?_⟩
    obtain ⟨dx, pr, nm, wo, sp, h1, _, _, _, hw⟩ := hv.at_
    obtain ⟨dxu, pru, nmu, wou, spu, u1, _, _, _, hwu⟩ := hu.at_
    obtain ⟨dxs, n, sz, e, q, s1, hN, _⟩ := hS.at_
    have lk : ks.length = kn.length := hv.ok.length
    have lu : ks.length = ot.length := hu.ok.length
    have ln : (namesV ks).length = ks.length := by unfold namesV; rw [List.length_map]
    refine ⟨_, rfl, v, dx, _, rfl, h1, v, dx, _, _, rfl, h1, vf_sheet, S, dxs, _, rfl, s1, S, dxs, _, _, rfl, s1, sf_names, _, rfl, v, dx, _, rfl, h1, v, dx, _, _, rfl, h1, vf_worths, _, rfl, u, dxu, _, rfl, u1, u, dxu, _, _, rfl, u1, vf_worths, n, wo, wou, _, _, _, rfl, hN.sq, hw, hwu, ?_⟩
    refine for_it (walk_zip3 (n := ks.length) ln (by rw [List.length_map]; exact lk.symm) (by rw [List.length_map]; exact lu.symm)) (fun i σ H' => ∃ v2 v3 v4 : Option V, σ = [some (.ref v), some (.ref u), v2, v3, v4] ∧ Same H H' ∧ ((kn.zip ot).take i).any (fun p => part1 p.1 p.2) = false) ⟨none, none, none, rfl, Same.refl H, rfl⟩ (fun i σ H' _ ⟨_, _, _, _, z, _⟩ => ⟨sqT_same z hN.sq, sqT_same z hw, sqT_same z hwu⟩) ?_ ?_
    · rintro i x σ H3 H4 hi ⟨v2, v3, v4, rfl, s3, np⟩ ⟨T1, x1, x2, x3, rfl, nT, rfl, e1, e2, e3⟩
      dsimp only at e1 e2 e3
      unfold namesV at e1
      rw [List.getElem?_map] at e1 e2 e3
      obtain ⟨k1, hk, rfl⟩ := Option.map_eq_some_iff.mp e1
      obtain ⟨o1, h1', rfl⟩ := Option.map_eq_some_iff.mp e2
      obtain ⟨o2, h2', rfl⟩ := Option.map_eq_some_iff.mp e3
      have hz : (kn.zip ot)[i]? = some (o1, o2) := by rw [List.getElem?_zip_eq_some]; exact ⟨h1', h2'⟩
      have s4 := s3.trans (same_upd (o := .tup [V.str k1.1, wV o1, wV o2]) nT)
      have go : part1 o1 o2 = false → ((kn.zip ot).take (i + 1)).any (fun p => part1 p.1 p.2) = false := fun z => by
        rw [take_one hz, List.any_append, np]
        simp [z]
      refine ⟨T1, _, rfl, SqT.of upd_same, rfl, .str k1.1, _, rfl, wV o1, _, rfl, wV o2, _, rfl, rfl, ?_⟩
      refine ⟨_, rfl, rfl, _, rfl, ?_⟩
      cases o1 with
      | none => exact ite2 (fun z => by cases z) (fun _ => ite2 (fun z => by cases z) fun _ => ⟨_, _, _, rfl, s4, go rfl⟩)
      | some a =>
        refine ite2 (fun _ => ?_) (fun z => absurd rfl z)
        refine ⟨_, rfl, rfl, _, rfl, ?_⟩
        cases o2 with
        | none => exact ite2 (fun z => by cases z) (fun _ => ite2 (fun z => by cases z) fun _ => ⟨_, _, _, rfl, s4, go rfl⟩)
        | some b =>
          refine ite2 (fun _ => ?_) (fun z => absurd rfl z)
          refine ⟨_, rfl, _, rfl, rfl, _, rfl, ?_⟩
          have ed : decide (V.int (a : Int) = V.int (b : Int)) = decide (a = b) := decide_eq_decide.mpr ⟨fun z => by have := V.int.inj z; omega, fun z => by rw [z]⟩
          refine ite2 (fun z => ?_) (fun z => ?_)
          · have z' : (!decide (V.int (a : Int) = V.int (b : Int))) = true := z
            rw [ed] at z'
            obtain ⟨rr, er⟩ := apart_at hk h1' h2' np (show part1 (some a) (some b) = true from z')
            exact ⟨_, rfl, badC_made B ((kB _ rr er).same s4)⟩
          · have z' : ¬ (!decide (V.int (a : Int) = V.int (b : Int))) = true := z
            rw [ed, Bool.not_eq_true] at z'
            exact ⟨_, _, _, rfl, s4, go z'⟩
    · rintro σ H3 ⟨v2, v3, v4, rfl, s3, np⟩
      have lz : (kn.zip ot).length = ks.length := by rw [List.length_zip]; omega
      rw [← lz, List.take_length] at np
      exact kO np H3 s3
/-! ### beside -/
def spBeside (K : PySem.W.Frag) (CV : Addr) : Sp := fun vs H Q _ => ∃ (v u S S' : Addr) (ks : List Key) (kn ot : Known), vs = [.ref v, .ref u] ∧ VwAt K CV H v S ks kn ∧ VwAt K CV H u S' ks ot ∧
  ∀ H' p (ts : List Addr), Same H H' → H p = none → H' p = some (.lst (ts.map V.ref)) → Paired (fun (t : Addr) (q : Option Nat × Option Nat) => H' t = some (.tup [wV q.1, wV q.2])) ts (kn.zip ot) → Q (.ref p) H'
theorem scBeside : FnScope ["one", "other"] ["one", "other"] (defScope sBeside) := ⟨rfl, rfl, rfl, by decide +kernel, rfl, by decide +kernel, by decide +kernel⟩
theorem ok_beside {f CV : Addr} {fd : FuncData} (F : Fun K "beside" "beside" sBeside f fd) (T : Txt8 K mg) (TV : ViewT K mg CV) (pW : HasP P w K mg base CV "worths" "_worths") : FnOk P w K mg base CX0 3 f fd ["one", "other"] (spBeside K CV) := by
  refine F.ok scBeside (fun vs H Q E h => ?_) (fun cdv A outer s H vs Q E hr h => ?_)
  · obtain ⟨v, u, S, S', ks, kn, ot, rfl, _⟩ := h
    rfl
  · obtain ⟨v, u, S, S', ks, kn, ot, rfl, hv, hu, k⟩ := h
    refine ⟨_, pss_one (ps_ret (pe_listZip rfl (by rfl) T.list (by decide +kernel) (by rfl) T.zip (by decide +kernel) (pa_cons (pe_get pW TV.cl hr (pv 0)) (pa_cons (pe_get pW TV.cl hr (pv 1)) pa_nil)))), ?_⟩
    obtain ⟨dx, pr, nm, wo, sp, h1, _, _, _, hw⟩ := hv.at_
    obtain ⟨dxu, pru, nmu, wou, spu, u1, _, _, _, hwu⟩ := hu.at_
    have lk : ks.length = kn.length := hv.ok.length
    have lu : ks.length = ot.length := hu.ok.length
    refine ⟨_, rfl, v, dx, _, rfl, h1, v, dx, _, _, rfl, h1, vf_worths, _, rfl, u, dxu, _, rfl, u1, u, dxu, _, _, rfl, u1, vf_worths, wo, wou, _, _, rfl, hw, hwu, by rw [List.length_map, List.length_map]; omega, fun H' p ts s3 np hp pp => ?_⟩
    refine k H' p ts s3 np hp ?_
    have e : (kn.map wV).zip (ot.map wV) = (kn.zip ot).map fun q => (wV q.1, wV q.2) := by
      rw [List.zip_map]
      rfl
    rw [e] at pp
    exact paired_unmap (R := fun (t : Addr) (q : V × V) => H' t = some (.tup [q.1, q.2])) (f := fun q : Option Nat × Option Nat => (wV q.1, wV q.2)) pp
end
end K03

namespace K03
open L2 PySem PySem.Spec PyProof.Rows
theorem joinF_or (a b : Option Nat) : joinF a b = a ∨ joinF a b = b ∨ joinF a b = none := by
  unfold joinF
  split
  · exact .inr (.inl rfl)
  · exact .inl rfl
theorem andF_or (a b : Option Nat) : andF a b = a ∨ andF a b = b ∨ andF a b = none := by
  unfold andF
  split
  · exact .inl rfl
  · exact .inr (.inr rfl)
theorem subF_or (a b : Option Nat) : subF a b = a ∨ subF a b = b ∨ subF a b = none := by
  unfold subF
  split
  · exact .inl rfl
  · exact .inr (.inr rfl)
/-- [f(mine, theirs) for mine, theirs in a list of pairs] -/
theorem two_lc {K : PySem.W.Frag} {σ : L2.St} {H : Hp} {ti te : TE} {i j : Nat} {ps : List (Option Nat × Option Nat)} {f : Option Nat → Option Nat → Option Nat} {Q : VK}
    (hti : ∀ R : V → Hp → Prop, (∀ (q : Addr) (H1 : Hp) (ts : List Addr), Same H H1 → H1 q = some (.lst (ts.map V.ref)) → Paired (fun (t : Addr) (p : Option Nat × Option Nat) => H1 t = some (.tup [wV p.1, wV p.2])) ts ps → R (.ref q) H1) → ti σ H R)
    (hl : ps.length ≤ 100) (hw : ∀ x y : V, wipe (((wipe σ [i, j]).set i (some x)).set j (some y)) [i, j] = wipe σ [i, j])
    (he : ∀ (a b : Option Nat) (H1 : Hp) (R : VK), R (wV (f a b)) H1 → te (((wipe σ [i, j]).set i (some (wV a))).set j (some (wV b))) H1 R)
    (k : ∀ D H', Same H H' → H' D = some (.lst ((ps.map fun p => f p.1 p.2).map wV)) → Q (.ref D) H') : tLc (iList K ti) (gTup K 2 (gCons (gName i) (gCons (gName j) gNil))) tYes te [i, j] σ H Q := by
  refine hti _ fun q H1 ts s1 hq pr => ⟨q, rfl, ⟨_, SqL.of hq⟩, fun D nD => ?_⟩
  have lt : ts.length = ps.length := Paired.length pr
  refine lc_list (K := K) (xs := ts.map V.ref) (fun m H' => Same H1 H' ∧ H' D = some (.lst (((ps.take m).map fun p => f p.1 p.2).map wV))) ⟨same_upd nD, upd_same⟩ (fun i H' _ z => SqL.of (z.1 _ _ hq)) ?_ ?_
  · rintro m x H' hx ⟨s2, hD⟩
    rw [List.getElem?_map] at hx
    obtain ⟨t, ht, rfl⟩ := Option.map_eq_some_iff.mp hx
    obtain ⟨p, hp1, hp2⟩ := paired_get pr ht
    have mlt := (List.getElem?_eq_some_iff.mp ht).1
    refine ⟨t, _, rfl, SqT.of (s2 _ _ hp2), rfl, wV p.1, _, rfl, wV p.2, _, rfl, rfl, hw _ _, ?_⟩
    refine he p.1 p.2 H' _ ⟨_, hD, ?_, same_new s2 nD, ?_⟩
    · rw [List.length_map, List.length_map, List.length_take]
      exact small1000 (by omega)
    · rw [upd_same, take_one hp1, List.map_append, List.map_append]
      rfl
  · rintro H' ⟨s2, hD⟩
    rw [List.length_map, lt, List.take_length] at hD
    exact k D H' (s1.trans s2) hD
theorem VwAt.same {K : PySem.W.Frag} {CV : Addr} {H H' : Hp} {v S : Addr} {ks : List Key} {kn : Known} (s : Same H H') (h : VwAt K CV H v S ks kn) : VwAt K CV H' v S ks kn := h.pres (Pres.of s)
section
variable {base : Heap} {P : Program} {w : World} {K : PySem.W.Frag} {mg : Str → Option Value}
/-! ### joined -/
def spJoined (K : PySem.W.Frag) (C CR CV : Addr) : Sp := fun vs H Q _ => ∃ (v u S S' : Addr) (z : Str) (ks : List Key) (rows : List RuleL) (eds : List (List Nat)) (kn ot : Known), vs = [.ref S, .ref v, .ref u] ∧ ShAt K C CR H S z ks rows eds ∧ SG ks eds ∧ VwAt K CV H v S ks kn ∧ ShAt K C CR H S' z ks rows eds ∧ VwAt K CV H u S' ks ot ∧
  ∀ H' p, Same H H' → H p = none → VwAt K CV H' p S ks (mapK joinF kn ot) → Q (.ref p) H'
abbrev nJoined : List Str := ["sheet", "first", "second", "mine", "theirs"]
theorem scJoined : FnScope nJoined ["sheet", "first", "second"] (defScope sJoined) := ⟨rfl, rfl, rfl, by decide +kernel, rfl, by decide +kernel, by decide +kernel⟩
theorem ok_joined {f C CR CV : Addr} {fd : FuncData} (F : Fun K "joined" "joined" sJoined f fd) (GB : Has P w K mg base "beside" 3 ["one", "other"] (spBeside K CV)) (GV : Has P w K mg base "view_of" 7 ["sheet", "worths"] (spVO true K C CR CV)) : FnOk P w K mg base CX0 8 f fd ["sheet", "first", "second"] (spJoined K C CR CV) := by
  refine F.ok scJoined (fun vs H Q E h => ?_) (fun cdv A outer s H vs Q E hr h => ?_)
  · obtain ⟨v, u, S, S', z, ks, rows, eds, kn, ot, rfl, _⟩ := h
    rfl
  · obtain ⟨v, u, S, S', z, ks, rows, eds, kn, ot, rfl, hS, g, hv, hS', hu, k⟩ := h
    have r3 : Room 3 _ := hr.mono (by decide)
    refine ⟨_, pss_one (ps_ret (pe_has GV hr (pa_cons (pv 0) (pa_cons (pe_lc (own := [("mine", 3), ("theirs", 4)]) (g := gTup K 2 (gCons (gName 3) (gCons (gName 4) gNil))) (tt := tYes) rfl scJoined.nd
          (pi_list (pe_has GB r3 (pa_cons (pv 1) (pa_cons (pv 2) pa_nil))))
          (blkOk_by (N := nJoined) (sc := defScope sJoined) (by decide +kernel)) (fun _ _ _ _ _ => pg_tup rfl (pgs_cons (pg_name (i := 3) scJoined.nd rfl (Or.inl rfl)) (pgs_cons (pg_name (i := 4) scJoined.nd rfl (Or.inl rfl)) pgs_nil))) (fun _ _ _ _ _ => pts_nil)
          (fun _ _ _ _ _ => pe_ifExp (pt_cmpR op_isN (pv 3) pe_non (nomark _)) (pv 4) (pv 3))) pa_nil)))), ?_⟩
    have h3 := g.le
    have lk : ks.length = kn.length := hv.ok.length
    have lu : ks.length = ot.length := hu.ok.length
    refine ⟨_, rfl, ?_⟩
    refine two_lc (K := K) (f := joinF) (ps := kn.zip ot) (fun R hR => ?_) (by rw [List.length_zip]; omega) (fun x y => rfl) (fun a b H1 R hR => ?_) (fun D H1 s1 hD => ?_)
    · exact ⟨_, rfl, _, rfl, v, u, S, S', ks, kn, ot, rfl, hv, hu, fun H' p ts s2 np hp pp => hR p H' ts s2 hp pp⟩
    · refine ⟨_, rfl, rfl, _, rfl, ?_⟩
      cases a with
      | none => exact ite2 (fun _ => ⟨_, rfl, hR⟩) (fun z => absurd rfl z)
      | some a => exact ite2 (fun z => by cases z) (fun _ => ⟨_, rfl, hR⟩)
    · exact ⟨S, D, z, ks, rows, eds, mapK joinF kn ot, rfl, hS.pres (Pres.of s1), g.nd, g.le, mapK_ok joinF_or hv.ok hu.ok, SqL.of hD, fun H2 p s2 np hp => k H2 p (s1.trans s2) (s1.free np) hp⟩
abbrev nAnd : List Str := ["self", "other", "mine", "theirs"]
/-! ### __and__ -/
def spAnd (K : PySem.W.Frag) (C CR CV : Addr) : Sp := fun vs H Q _ => ∃ (v u S S' : Addr) (z : Str) (ks : List Key) (rows : List RuleL) (eds : List (List Nat)) (kn ot : Known), vs = [.ref v, .ref u] ∧ ShAt K C CR H S z ks rows eds ∧ SG ks eds ∧ VwAt K CV H v S ks kn ∧ ShAt K C CR H S' z ks rows eds ∧ VwAt K CV H u S' ks ot ∧
  ∀ H' p, Same H H' → H p = none → VwAt K CV H' p S ks (mapK andF kn ot) → Q (.ref p) H'
theorem scAnd : FnScope nAnd ["self", "other"] (defScope sVAnd) := ⟨rfl, rfl, rfl, by decide +kernel, rfl, by decide +kernel, by decide +kernel⟩
theorem ok_and {f C CR CV : Addr} {fd : FuncData} (F : Fun K "__and__" "View.__and__" sVAnd f fd) (TV : ViewT K mg CV) (GC : Has P w K mg base "check_sheet" 3 ["sheet", "value"] (spCheckS K C CR CV)) (GB : Has P w K mg base "beside" 3 ["one", "other"] (spBeside K CV)) (GV : Has P w K mg base "view_of" 7 ["sheet", "worths"] (spVO true K C CR CV)) : FnOk P w K mg base CX0 8 f fd ["self", "other"] (spAnd K C CR CV) := by
  refine F.ok scAnd (fun vs H Q E h => ?_) (fun cdv A outer s H vs Q E hr h => ?_)
  · obtain ⟨v, u, S, S', z, ks, rows, eds, kn, ot, rfl, _⟩ := h
    rfl
  · obtain ⟨v, u, S, S', z, ks, rows, eds, kn, ot, rfl, hS, g, hv, hS', hu, k⟩ := h
    have r3 : Room 3 _ := hr.mono (by decide)
    refine ⟨_, pss_cons (ps_expr (pe_has GC r3 (pa_cons (pe_fld (pv 0) rfl) (pa_cons (pv 1) pa_nil))))
      (pss_one (ps_ret (pe_has GV hr (pa_cons (pe_fld (pv 0) rfl) (pa_cons (pe_lc (own := [("mine", 2), ("theirs", 3)]) (g := gTup K 2 (gCons (gName 2) (gCons (gName 3) gNil))) (tt := tYes) rfl scAnd.nd
          (pi_list (pe_has GB r3 (pa_cons (pv 0) (pa_cons (pv 1) pa_nil))))
          (blkOk_by (N := nAnd) (sc := defScope sVAnd) (by decide +kernel)) (fun _ _ _ _ _ => pg_tup rfl (pgs_cons (pg_name (i := 2) scAnd.nd rfl (Or.inl rfl)) (pgs_cons (pg_name (i := 3) scAnd.nd rfl (Or.inl rfl)) pgs_nil))) (fun _ _ _ _ _ => pts_nil)
          (fun _ _ _ _ _ => pe_ifExp (pt_cmpR op_eq (pv 2) (pv 3) (nomark _)) (pv 2) pe_non)) pa_nil))))), ?_⟩
    have h3 := g.le
    have lk : ks.length = kn.length := hv.ok.length
    have lu : ks.length = ot.length := hu.ok.length
    obtain ⟨dx, pr, nm, wo, sp, h1, _⟩ := hv.at_
    refine ⟨_, rfl, v, CV, dx, _, _, rfl, h1, TV.cl, TV.n1, vf_sheet, _, rfl, u, S, S', z, ks, rows, eds, ot, rfl, hS, hS', hu, fun H0 s0 => ?_⟩
    refine ⟨_, rfl, v, CV, dx, _, _, rfl, s0 _ _ h1, TV.cl, TV.n1, vf_sheet, ?_⟩
    refine two_lc (K := K) (f := andF) (ps := kn.zip ot) (fun R hR => ?_) (by rw [List.length_zip]; omega) (fun x y => rfl) (fun a b H1 R hR => ?_) (fun D H1 s1 hD => ?_)
    · exact ⟨_, rfl, _, rfl, v, u, S, S', ks, kn, ot, rfl, hv.same s0, hu.same s0, fun H' p ts s2 np hp pp => hR p H' ts s2 hp pp⟩
    · refine ⟨_, rfl, _, rfl, ?_, _, rfl, ?_⟩
      · cases a <;> cases b <;> rfl
      refine ite2 (fun z => ?_) (fun z => ?_)
      · rw [wV_eq] at z
        unfold andF at hR
        rw [if_pos (of_decide_eq_true z)] at hR
        exact ⟨_, rfl, hR⟩
      · rw [wV_eq, Bool.not_eq_true] at z
        unfold andF at hR
        rw [if_neg (of_decide_eq_false z)] at hR
        exact hR
    · exact ⟨S, D, z, ks, rows, eds, mapK andF kn ot, rfl, hS.pres (Pres.of (s0.trans s1)), g.nd, g.le, mapK_ok andF_or hv.ok hu.ok, SqL.of hD, fun H2 p s2 np hp => k H2 p ((s0.trans s1).trans s2) ((s0.trans s1).free np) hp⟩
/-! ### __sub__ -/
def spSub (K : PySem.W.Frag) (C CR CV : Addr) : Sp := fun vs H Q _ => ∃ (v u S S' : Addr) (z : Str) (ks : List Key) (rows : List RuleL) (eds : List (List Nat)) (kn ot : Known), vs = [.ref v, .ref u] ∧ ShAt K C CR H S z ks rows eds ∧ SG ks eds ∧ VwAt K CV H v S ks kn ∧ ShAt K C CR H S' z ks rows eds ∧ VwAt K CV H u S' ks ot ∧
  ∀ H' p, Same H H' → H p = none → VwAt K CV H' p S ks (mapK subF kn ot) → Q (.ref p) H'
theorem scSub : FnScope nAnd ["self", "other"] (defScope sVSub) := ⟨rfl, rfl, rfl, by decide +kernel, rfl, by decide +kernel, by decide +kernel⟩
theorem ok_sub {f C CR CV : Addr} {fd : FuncData} (F : Fun K "__sub__" "View.__sub__" sVSub f fd) (TV : ViewT K mg CV) (GC : Has P w K mg base "check_sheet" 3 ["sheet", "value"] (spCheckS K C CR CV)) (GB : Has P w K mg base "beside" 3 ["one", "other"] (spBeside K CV)) (GV : Has P w K mg base "view_of" 7 ["sheet", "worths"] (spVO true K C CR CV)) : FnOk P w K mg base CX0 8 f fd ["self", "other"] (spSub K C CR CV) := by
  refine F.ok scSub (fun vs H Q E h => ?_) (fun cdv A outer s H vs Q E hr h => ?_)
  · obtain ⟨v, u, S, S', z, ks, rows, eds, kn, ot, rfl, _⟩ := h
    rfl
  · obtain ⟨v, u, S, S', z, ks, rows, eds, kn, ot, rfl, hS, g, hv, hS', hu, k⟩ := h
    have r3 : Room 3 _ := hr.mono (by decide)
    refine ⟨_, pss_cons (ps_expr (pe_has GC r3 (pa_cons (pe_fld (pv 0) rfl) (pa_cons (pv 1) pa_nil))))
      (pss_one (ps_ret (pe_has GV hr (pa_cons (pe_fld (pv 0) rfl) (pa_cons (pe_lc (own := [("mine", 2), ("theirs", 3)]) (g := gTup K 2 (gCons (gName 2) (gCons (gName 3) gNil))) (tt := tYes) rfl scSub.nd
          (pi_list (pe_has GB r3 (pa_cons (pv 0) (pa_cons (pv 1) pa_nil))))
          (blkOk_by (N := nAnd) (sc := defScope sVSub) (by decide +kernel)) (fun _ _ _ _ _ => pg_tup rfl (pgs_cons (pg_name (i := 2) scSub.nd rfl (Or.inl rfl)) (pgs_cons (pg_name (i := 3) scSub.nd rfl (Or.inl rfl)) pgs_nil))) (fun _ _ _ _ _ => pts_nil)
          (fun _ _ _ _ _ => pe_ifExp (pt_cmpR op_isN (pv 3) pe_non (nomark _)) (pv 2) pe_non)) pa_nil))))), ?_⟩
    have h3 := g.le
    have lk : ks.length = kn.length := hv.ok.length
    have lu : ks.length = ot.length := hu.ok.length
    obtain ⟨dx, pr, nm, wo, sp, h1, _⟩ := hv.at_
    refine ⟨_, rfl, v, CV, dx, _, _, rfl, h1, TV.cl, TV.n1, vf_sheet, _, rfl, u, S, S', z, ks, rows, eds, ot, rfl, hS, hS', hu, fun H0 s0 => ?_⟩
    refine ⟨_, rfl, v, CV, dx, _, _, rfl, s0 _ _ h1, TV.cl, TV.n1, vf_sheet, ?_⟩
    refine two_lc (K := K) (f := subF) (ps := kn.zip ot) (fun R hR => ?_) (by rw [List.length_zip]; omega) (fun x y => rfl) (fun a b H1 R hR => ?_) (fun D H1 s1 hD => ?_)
    · exact ⟨_, rfl, _, rfl, v, u, S, S', ks, kn, ot, rfl, hv.same s0, hu.same s0, fun H' p ts s2 np hp pp => hR p H' ts s2 hp pp⟩
    · refine ⟨_, rfl, rfl, _, rfl, ?_⟩
      cases b with
      | none => exact ite2 (fun _ => ⟨_, rfl, hR⟩) (fun z => absurd rfl z)
      | some b => exact ite2 (fun z => by cases z) (fun _ => hR)
    · exact ⟨S, D, z, ks, rows, eds, mapK subF kn ot, rfl, hS.pres (Pres.of (s0.trans s1)), g.nd, g.le, mapK_ok subF_or hv.ok hu.ok, SqL.of hD, fun H2 p s2 np hp => k H2 p ((s0.trans s1).trans s2) ((s0.trans s1).free np) hp⟩
/-! ### __or__ -/
def spOr (K : PySem.W.Frag) (C CR CV CP : Addr) : Sp := fun vs H Q E => ∃ (v u S S' : Addr) (z : Str) (ks : List Key) (rows : List RuleL) (eds : List (List Nat)) (kn ot : Known), vs = [.ref v, .ref u] ∧ ShAt K C CR H S z ks rows eds ∧ SG ks eds ∧ VwAt K CV H v S ks kn ∧ ShAt K C CR H S' z ks rows eds ∧ VwAt K CV H u S' ks ot ∧
  (∀ (nm : Str) (r : List Str), apartL ks kn ot = nm :: r → BadV H CP (.str nm) E) ∧ (partB kn ot = false → ∀ H' p, Same H H' → H p = none → VwAt K CV H' p S ks (mapK joinF kn ot) → Q (.ref p) H')
theorem scOr : FnScope ["self", "other"] ["self", "other"] (defScope sVOr) := ⟨rfl, rfl, rfl, by decide +kernel, rfl, by decide +kernel, by decide +kernel⟩
theorem ok_or {f C CR CV CP : Addr} {fd : FuncData} (F : Fun K "__or__" "View.__or__" sVOr f fd) (TV : ViewT K mg CV) (GC : Has P w K mg base "check_sheet" 3 ["sheet", "value"] (spCheckS K C CR CV)) (GP : HasX P w K mg base "check_parted" 3 ["one", "other"] (spParted K C CR CV CP)) (GJ : Has P w K mg base "joined" 8 ["sheet", "first", "second"] (spJoined K C CR CV)) : FnOk P w K mg base (L2.CX P w) 9 f fd ["self", "other"] (spOr K C CR CV CP) := by
  refine F.okX scOr (fun vs H Q E h => ?_) (fun cdv A outer s H vs Q E hr h => ?_)
  · obtain ⟨v, u, S, S', z, ks, rows, eds, kn, ot, rfl, _⟩ := h
    rfl
  · obtain ⟨v, u, S, S', z, ks, rows, eds, kn, ot, rfl, hS, g, hv, hS', hu, kB, kO⟩ := h
    have r3 : Room 3 _ := hr.mono (by decide)
    refine ⟨_, pss_cons (ps_expr (pe_has GC r3 (pa_cons (pe_fld (pv 0) rfl) (pa_cons (pv 1) pa_nil))))
      (pss_cons (ps_expr (pe_hasX GP (takes_of rfl rfl rfl rfl) r3 (pa_cons (pv 0) (pa_cons (pv 1) pa_nil))))
      (pss_one (ps_ret (pe_has GJ hr (pa_cons (pe_fld (pv 0) rfl) (pa_cons (pv 0) (pa_cons (pv 1) pa_nil))))))), ?_⟩
    obtain ⟨dx, pr, nm, wo, sp, h1, _⟩ := hv.at_
    refine ⟨_, rfl, v, CV, dx, _, _, rfl, h1, TV.cl, TV.n1, vf_sheet, _, rfl, u, S, S', z, ks, rows, eds, ot, rfl, hS, hS', hu, fun H0 s0 => ?_⟩
    refine ⟨_, rfl, _, rfl, v, u, S, S', z, ks, rows, eds, kn, ot, rfl, hS.pres (Pres.of s0), hv.same s0, hS'.pres (Pres.of s0), hu.same s0, fun nm r pt => (kB nm r pt).same s0, fun np H1 s1 => ?_⟩
    have s01 := s0.trans s1
    exact ⟨_, rfl, v, CV, dx, _, _, rfl, s01 _ _ h1, TV.cl, TV.n1, vf_sheet, _, rfl, _, rfl, v, u, S, S', z, ks, rows, eds, kn, ot, rfl, hS.pres (Pres.of s01), g, hv.same s01, hS'.pres (Pres.of s01), hu.same s01, fun H2 p s2 np2 hp => kO np H2 p (s01.trans s2) (s01.free np2) hp⟩
end
end K03

namespace K03
open L2 PySem PySem.Spec PyProof.Rows
abbrev sLPairs : Stmt := top 59
theorem pass0X {P : Program} {w : World} {X : Cx} {σ : L2.St} (hP : X.prog = P := by rfl) (hw : X.w = w := by rfl) : PassesAt (L2.CX P w) X σ E0 := fun _ _ _ _ _ _ c => by
  obtain ⟨_, _, _, _, _, _, _, _, _, _, _, _, h⟩ := c
  exact h.elim
section
variable {base : Heap} {P : Program} {w : World} {K : PySem.W.Frag} {mg : Str → Option Value}
/-! ### _law_pairs -/
def spLPairs (kb : Bool) (K : PySem.W.Frag) : Sp := fun vs H Q _ => ∃ (n kt : Addr) (ks : List Key) (kn : Known), vs = [.ref n, .ref kt] ∧ SqL K H n (namesV ks) ∧ SqB kb K H kt (kn.map wV) ∧ (ks.map (fun q : Key => q.1)).Nodup ∧ ks.length ≤ 3 ∧ KnOk ks kn ∧
  ∀ H' p sp, Same H H' → H p = none → SPok ks kn sp → PrAt K H' p sp → Q (.ref p) H'
abbrev nLPairs : List Str := ["_law_names_here", "_law_known", "_law_name", "_law_worth"]
theorem scLPairs : FnScope nLPairs ["_law_names_here", "_law_known"] (defScope sLPairs) := ⟨rfl, rfl, rfl, by decide +kernel, rfl, by decide +kernel, by decide +kernel⟩
theorem SqL.same' {K : PySem.W.Frag} {H H' : Hp} {a : Addr} {xs : List V} (s : Same H H') (h : SqL K H a xs) : SqL K H' a xs := SqB.same (k := true) s h
theorem ok_lpairs (kb : Bool) {f : Addr} {fd : FuncData} (F : Fun K "_law_pairs" "_law_pairs" sLPairs f fd) (T : Txt8 K mg) : FnOk P w K mg base CX0 1 f fd ["_law_names_here", "_law_known"] (spLPairs kb K) := by
  refine F.ok scLPairs (fun vs H Q E h => ?_) (fun cdv A outer s H vs Q E hr h => ?_)
  · obtain ⟨n, kt, ks, kn, rfl, _⟩ := h
    rfl
  · obtain ⟨n, kt, ks, kn, rfl, hN, hw, hn, h3, ok, k⟩ := h
    refine ⟨_, pss_one (ps_ret (pe_callTy call_tupD (by rfl) T.tuple (by decide +kernel) (pa_cons (pe_callB cr_sortedSP (by rfl) T.sorted (by decide +kernel) (pa_cons (pe_lc (own := [("_law_name", 2), ("_law_worth", 3)]) (g := gTup K 2 (gCons (gName 2) (gCons (gName 3) gNil))) rfl scLPairs.nd
          (pi_zipM true kb (by rfl) T.zip (pa_cons (pv 0) (pa_cons (pv 1) pa_nil)))
          (blkOk_by (N := nLPairs) (sc := defScope sLPairs) (by decide +kernel)) (fun _ _ _ _ _ => pg_tup rfl (pgs_cons (pg_name (i := 2) scLPairs.nd rfl (Or.inl rfl)) (pgs_cons (pg_name (i := 3) scLPairs.nd rfl (Or.inl rfl)) pgs_nil))) (fun _ _ _ _ _ => pts_one (pt_cmpR op_notN (pv 3) pe_non (nomark _)))
          (fun _ _ _ _ _ => pe_tup (pa_cons (pv 2) (pa_cons (pv 3) pa_nil)))) pa_nil)) pa_nil))), ?_⟩
    have lk : ks.length = kn.length := ok.length
    have ln : (namesV ks).length = ks.length := by unfold namesV; rw [List.length_map]
    have lm : ks.length = min (namesV ks).length (kn.map wV).length := by rw [ln, List.length_map]; omega
    refine ⟨_, rfl, _, rfl, n, kt, _, _, rfl, hN, hw, fun D nD => ?_⟩
    refine lc_it (walk_zipM (ka := true) (kb := kb) (K := K) (xs := namesV ks) (ys := kn.map wV) lm) (fun i H' => Same H H' ∧ ∃ ts : List Addr, H' D = some (.lst (ts.map V.ref)) ∧ Paired (fun (t : Addr) (q : Pr) => H' t = some (.tup [.str q.1, .int (q.2 : Int)])) ts (prsOf (ks.take i) (kn.take i))) ⟨same_upd nD, [], upd_same, .nil⟩ (fun i H' _ z => ⟨SqL.same' z.1 hN, SqB.same z.1 hw⟩) ?_ ?_
    · rintro i x H3 H4 hi ⟨s3, ts, hD, pr⟩ ⟨T1, x1, x2, rfl, nT, rfl, e1, e2⟩
      dsimp only at e1 e2
      unfold namesV at e1
      rw [List.getElem?_map] at e1 e2
      obtain ⟨k1, hk, rfl⟩ := Option.map_eq_some_iff.mp e1
      obtain ⟨o, ho, rfl⟩ := Option.map_eq_some_iff.mp e2
      have hlt : ts.length ≤ 3 := by
        have a := Paired.length pr
        have b := prs_len (ks.take i) (kn.take i)
        rw [List.length_take] at b
        omega
      have hD4 := get_new (o := .tup [V.str k1.1, wV o]) hD nT
      have s4 := s3.trans (same_upd (o := .tup [V.str k1.1, wV o]) nT)
      have pr4 := Paired.mapP pr fun t q e => get_new (o := .tup [V.str k1.1, wV o]) e nT
      refine ⟨T1, _, rfl, SqT.of upd_same, rfl, .str k1.1, _, rfl, wV o, _, rfl, rfl, ?_⟩
      refine ⟨rfl, _, rfl, rfl, _, rfl, ?_⟩
      cases o with
      | none =>
        refine ite2 (fun z => by cases z) (fun _ => ⟨s4, ts, hD4, ?_⟩)
        rw [prs_take hk ho]
        show Paired _ ts (_ ++ [])
        rw [List.append_nil]
        exact pr4
      | some wo =>
        refine ite2 (fun _ => ⟨_, rfl, _, rfl, (by show 2 ≤ sizeLine; decide), fun t nt => ⟨_, get_new hD4 nt, ?_, ?_⟩⟩) (fun z => absurd rfl z)
        · rw [List.length_map]
          exact small1000 (by omega)
        · have hD5 := get_new (o := .tup [V.str k1.1, V.int (wo : Int)]) hD4 nt
          refine ⟨same_new (s4.trans (same_upd nt)) nD, ts ++ [t], by rw [upd_same, List.map_append]; rfl, ?_⟩
          rw [prs_take hk ho]
          refine paired_snoc (Paired.mapP pr4 fun t' q e => ?_) ?_
          · have e5 := get_new (o := .tup [V.str k1.1, V.int (wo : Int)]) e nt
            rw [upd_ne (ne_of e5 hD5 (by simp))]
            exact e5
          · rw [upd_ne (ne_of (upd_same (o := .tup [V.str k1.1, V.int (wo : Int)])) hD5 (by simp)), upd_same]
            rfl
    · rintro H3 ⟨s3, ts, hD, pr⟩
      rw [List.take_length, lk, List.take_length] at pr
      refine ⟨D, ts.map V.ref, hKey H3, rfl, SqL.of hD, fun x hx => ?_, fun ys p hs hp np => ?_⟩
      · obtain ⟨t, ht, rfl⟩ := List.mem_map.mp hx
        obtain ⟨i, hi⟩ := List.getElem?_of_mem ht
        obtain ⟨q, _, hq⟩ := paired_get pr hi
        exact ⟨t, rfl, by rw [hKey_at hq]; exact hq⟩
      obtain ⟨ts', sp, rfl, so, pr'⟩ := sort_ok hn pr hs hp
      have s4 := s3.trans (same_upd (o := .lst (ts'.map V.ref)) np)
      refine ⟨p, _, rfl, SqL.of upd_same, fun l o nl od => ?_⟩
      have s5 := s4.trans (same_upd (o := .frz o (.tup (ts'.map V.ref))) nl)
      exact k _ l sp s5 (s4.free nl) so ⟨ts', ⟨o, upd_same, od⟩, Paired.mapP pr' fun t q e => SqT.of (get_new (get_new e np) nl)⟩
end
end K03

namespace LZ3
open L2 PySem PySem.Spec PyProof.Rows
theorem nat_ne {a c : Nat} (h : a < c ∨ c < a) : a ≠ c := by omega
theorem nm2 {a x y : Nat} (h1 : a ≠ x) (h2 : a ≠ y) : a ∉ [x, y] := fun q => by
  rcases List.mem_cons.mp q with q | q
  · exact h1 q
  · exact h2 (List.mem_singleton.mp q)
/-! list(zip(a, b, c)) of three lists of one length -/
/-- three drawn lists from cell b on: iterators b, b+1, b+2, the zip's tuples b+3, b+4, the zip b+5 -/
def Z3 (k1 k2 k3 : Bool) (b l1 l2 l3 : Nat) (xs ys zs : Array Value) (i : Nat) (h : Heap) : Prop :=
  IsTupOf3 h (b + 3) (.ref b) (.ref (b + 1)) (.ref (b + 2)) ∧ ItB k1 h b l1 i ∧ ItB k2 h (b + 1) l2 i ∧ ItB k3 h (b + 2) l3 i ∧ AtB k1 h l1 xs ∧ AtB k2 h l2 ys ∧ AtB k3 h l3 zs ∧
  ((IsZip h (b + 5) (b + 3) (b + 4) .none ∧ ∃ a1 a2 a3, IsTupOf3 h (b + 4) a1 a2 a3) ∨ ∃ (T : Nat) (f : Bool) (oT : Obj), IsZipHeld h (b + 5) (b + 3) (b + 4) T f ∧ h.get? T = some oT ∧ b + 6 < T)
section
variable {prog : Program} {w : World} {A : Around} {E : Value → Shared → Prop} {s : Shared} {k1 k2 k3 : Bool} {b l1 l2 l3 : Nat} {xs ys zs : Array Value} {i : Nat}
theorem z3_keep {h h' : Heap} (x : Z3 k1 k2 k3 b l1 l2 l3 xs ys zs i h) (k : ∀ (c : Nat) (o : Obj), c ≠ b + 6 → h.get? c = some o → h'.get? c = some o) (h1 : l1 < b) (h2 : l2 < b) (h3 : l3 < b) : Z3 k1 k2 k3 b l1 l2 l3 xs ys zs i h' := by
  obtain ⟨a1, a2, a3, a4, a5, a6, a7, a8⟩ := x
  refine ⟨k _ _ (by (first | omega | exact nat_ne (by omega))) a1, a2.at fun o => k _ o (by (first | omega | exact nat_ne (by omega))), a3.at fun o => k _ o (by (first | omega | exact nat_ne (by omega))), a4.at fun o => k _ o (by (first | omega | exact nat_ne (by omega))), a5.at fun o => k _ o (by (first | omega | exact nat_ne (by omega))), a6.at fun o => k _ o (by (first | omega | exact nat_ne (by omega))), a7.at fun o => k _ o (by (first | omega | exact nat_ne (by omega))), ?_⟩
  rcases a8 with ⟨e1, c1, c2, c3, e2⟩ | ⟨T, f, oT, e1, e2, e3⟩
  · exact .inl ⟨k _ _ (by (first | omega | exact nat_ne (by omega))) e1, c1, c2, c3, k _ _ (by (first | omega | exact nat_ne (by omega))) e2⟩
  · exact .inr ⟨T, f, oT, k _ _ (by (first | omega | exact nat_ne (by omega))) e1, k _ _ (by (first | omega | exact nat_ne (by omega))) e2, e3⟩
theorem z3_sep (h1 : l1 < b) (h2 : l2 < b) (h3 : l3 < b) : ZipSep3 (b + 5) (b + 3) (b + 4) b (b + 1) (b + 2) [b, l1] [b + 1, l2] [b + 2, l3] := by
  constructor <;> first | omega | exact nat_ne (by omega) | exact List.mem_cons_self | exact nm2 (by (first | omega | exact nat_ne (by omega))) (by (first | omega | exact nat_ne (by omega)))
theorem z3_heldItem {T : Nat} {f : Bool} {oT : Obj} {x y z : Value} {Q : Value → Shared → Prop} (hh : A.handled = none) (h1 : l1 < b) (h2 : l2 < b) (h3 : l3 < b) (st : Z3 k1 k2 k3 b l1 l2 l3 xs ys zs i s.heap) (hz : IsZipHeld s.heap (b + 5) (b + 3) (b + 4) T f) (hT : s.heap.get? T = some oT) (bT : b + 6 < T)
    (hx : xs[i]? = some x) (hy : ys[i]? = some y) (hw : zs[i]? = some z)
    (hQ : ∀ h' tk, Z3 k1 k2 k3 b l1 l2 l3 xs ys zs (i + 1) h' → IsTupOf3 h' s.heap.objs.size x y z → h'.objs.size = s.heap.objs.size + 1 → (∀ (c : Nat) (o : Obj), (c < b ∨ b + 6 ≤ c) → s.heap.get? c = some o → h'.get? c = some o) → Q (.ref s.heap.objs.size) { s with heap := h', toks := tk }) :
    wpAny (model prog w) A (Builtin.«zip.__next__» ⟨[.ref (b + 5)], []⟩) (fun fin s' => ∃ v, fin = .done (.ret v) ∧ Q v s') E s := by
  obtain ⟨a1, a2, a3, a4, a5, a6, a7, _⟩ := st
  have lx : i < xs.size := by rcases Nat.lt_or_ge i xs.size with q | q; exact q; rw [Array.getElem?_eq_none q] at hx; cases hx
  have ly : i < ys.size := by rcases Nat.lt_or_ge i ys.size with q | q; exact q; rw [Array.getElem?_eq_none q] at hy; cases hy
  have lz : i < zs.size := by rcases Nat.lt_or_ge i zs.size with q | q; exact q; rw [Array.getElem?_eq_none q] at hw; cases hw
  show wpAny _ _ (field (.ref (b + 5)) 2 >>= _) _ _ _
  (refine wpAny_bind (wpAny_field hz rfl (x := .bool false) rfl ?_))
  show wpAny _ _ (field (.ref (b + 5)) 3 >>= _) _ _ _
  refine wpAny_bind (wpAny_field hz rfl (x := .ref (b + 3)) rfl ?_)
  refine wpAny_bind (wpAny_seqItems a1 rfl ?_)
  show wpAny _ _ (Builtin.SmallTypes.ownedTupleIsFree (.ref (b + 5)) >>= _) _ _ _
  refine wpAny_bind (wpAny_tupleHeld_zip hz hT fun g1 z1 s1 => ?_)
  (rw [if_neg Bool.false_ne_true])
  refine wpAny_bind ?_
  rw [← Array.forIn_toList]
  (simp only [List.forIn_cons, List.forIn_nil])
  (refine wpAny_bind (wpAny_bind (wpAny_holding ?_)))
  show wpAny _ _ (Builtin.SmallTypes.nextOf (.ref b) >>= _) _ _ _
  have n5 : ∀ (c : Nat), c < b + 3 → c ≠ b + 5 := fun (c : Nat) q => (by (first | omega | exact nat_ne (by omega)))
  refine wpAny_bind ((drawsB k1 hh b l1 (by (first | omega | exact nat_ne (by omega))) xs).item i { s with heap := g1 } _ _ lx ⟨a2.at fun o q => s1.extBut _ _ (n5 _ (by (first | omega | exact nat_ne (by omega)))) q, a5.at fun o q => s1.extBut _ _ (n5 _ (by (first | omega | exact nat_ne (by omega)))) q⟩ fun x' g2 t2 px u2 s2 => wpAny_pure (wpAny_pure ?_))
  rw [hx] at px
  cases px
  (refine wpAny_bind (wpAny_bind (wpAny_holding ?_)))
  show wpAny _ _ (Builtin.SmallTypes.nextOf (.ref (b + 1)) >>= _) _ _ _
  refine wpAny_bind ((drawsB k2 hh (b + 1) l2 (by (first | omega | exact nat_ne (by omega))) ys).item i { s with heap := g2, toks := t2 } _ _ ly ⟨a3.at fun o q => s2.extBut _ _ (by (first | omega | exact nat_ne (by omega))) (s1.extBut _ _ (n5 _ (by (first | omega | exact nat_ne (by omega)))) q), a6.at fun o q => s2.extBut _ _ (by (first | omega | exact nat_ne (by omega))) (s1.extBut _ _ (n5 _ (by (first | omega | exact nat_ne (by omega)))) q)⟩ fun y' g3 t3 py u3 s3 => wpAny_pure (wpAny_pure ?_))
  rw [hy] at py
  cases py
  (refine wpAny_bind (wpAny_bind (wpAny_holding ?_)))
  show wpAny _ _ (Builtin.SmallTypes.nextOf (.ref (b + 2)) >>= _) _ _ _
  refine wpAny_bind ((drawsB k3 hh (b + 2) l3 (by (first | omega | exact nat_ne (by omega))) zs).item i { s with heap := g3, toks := t3 } _ _ lz ⟨a4.at fun o q => s3.extBut _ _ (by (first | omega | exact nat_ne (by omega))) (s2.extBut _ _ (by (first | omega | exact nat_ne (by omega))) (s1.extBut _ _ (n5 _ (by (first | omega | exact nat_ne (by omega)))) q)), a7.at fun o q => s3.extBut _ _ (by (first | omega | exact nat_ne (by omega))) (s2.extBut _ _ (by (first | omega | exact nat_ne (by omega))) (s1.extBut _ _ (n5 _ (by (first | omega | exact nat_ne (by omega)))) q))⟩ fun z' g4 t4 pz u4 s4 => wpAny_pure ?_)
  rw [hw] at pz
  cases pz
  (refine wpAny_pure (wpAny_pure ?_))
  show wpAny _ _ (newTuple [x, y, z] >>= _) _ _ _
  (refine wpAny_bind (wpAny_newTuple ?_))
  have all : ∀ (c : Nat) (o : Obj), c ≠ b + 5 → c ≠ b → c ≠ b + 1 → c ≠ b + 2 → s.heap.get? c = some o → (g4.push { cls := .type "tuple", data := .seq #[x, y, z] }).get? c = some o := fun (c : Nat) o n1 n2 n3 n4 e =>
    Heap.get?_push_of_some _ (s4.extBut _ _ n4 (s3.extBut _ _ n3 (s2.extBut _ _ n2 (s1.extBut _ _ n1 e))))
  have size4 : g4.objs.size = s.heap.objs.size := by rw [s4.1, s3.1, s2.1, s1.1]
  have at4 : (g4.push { cls := .type "tuple", data := .seq #[x, y, z] }).get? g4.objs.size = some { cls := .type "tuple", data := .seq #[x, y, z] } := Heap.get?_push_size _ rfl
  have size5 : (g4.push { cls := .type "tuple", data := .seq #[x, y, z] }).objs.size = g4.objs.size + 1 := Heap.size_push ..
  have z4 : IsZipHeld g4 (b + 5) (b + 3) (b + 4) T true := s4.extBut _ _ (by (first | omega | exact nat_ne (by omega))) (s3.extBut _ _ (by (first | omega | exact nat_ne (by omega))) (s2.extBut _ _ (by (first | omega | exact nat_ne (by omega))) z1))
  have i1 := u2.1.at fun o q => s4.extBut _ _ (by (first | omega | exact nat_ne (by omega))) (s3.extBut _ _ (by (first | omega | exact nat_ne (by omega))) q)
  have i2 := u3.1.at fun o q => s4.extBut _ _ (by (first | omega | exact nat_ne (by omega))) q
  (refine wpAny_pure ⟨_, rfl, ?_⟩)
  show Q (.ref g4.objs.size) _
  rw [size4] at at4 size5 ⊢
  refine hQ _ _ ⟨all _ _ (by (first | omega | exact nat_ne (by omega))) (by (first | omega | exact nat_ne (by omega))) (by (first | omega | exact nat_ne (by omega))) (by (first | omega | exact nat_ne (by omega))) a1, i1.at fun o => Heap.get?_push_of_some _, i2.at fun o => Heap.get?_push_of_some _, u4.1.at fun o => Heap.get?_push_of_some _,
    a5.at fun o => all _ o (by (first | omega | exact nat_ne (by omega))) (by (first | omega | exact nat_ne (by omega))) (by (first | omega | exact nat_ne (by omega))) (by (first | omega | exact nat_ne (by omega))), a6.at fun o => all _ o (by (first | omega | exact nat_ne (by omega))) (by (first | omega | exact nat_ne (by omega))) (by (first | omega | exact nat_ne (by omega))) (by (first | omega | exact nat_ne (by omega))), a7.at fun o => all _ o (by (first | omega | exact nat_ne (by omega))) (by (first | omega | exact nat_ne (by omega))) (by (first | omega | exact nat_ne (by omega))) (by (first | omega | exact nat_ne (by omega))),
    .inr ⟨T, true, oT, Heap.get?_push_of_some _ z4, all _ _ (by (first | omega | exact nat_ne (by omega))) (by (first | omega | exact nat_ne (by omega))) (by (first | omega | exact nat_ne (by omega))) (by (first | omega | exact nat_ne (by omega))) hT, bT⟩⟩ at4 size5 fun (c : Nat) o r e => all c o (by (first | omega | exact nat_ne (by omega))) (by (first | omega | exact nat_ne (by omega))) (by (first | omega | exact nat_ne (by omega))) (by (first | omega | exact nat_ne (by omega))) e
theorem z3_item {x y z : Value} {Q : Option Value → Shared → Prop} (hh : A.handled = none) (h1 : l1 < b) (h2 : l2 < b) (h3 : l3 < b) (st : Z3 k1 k2 k3 b l1 l2 l3 xs ys zs i s.heap) (big : b + 6 < s.heap.objs.size)
    (hx : xs[i]? = some x) (hy : ys[i]? = some y) (hw : zs[i]? = some z)
    (hQ : ∀ h' tk, Z3 k1 k2 k3 b l1 l2 l3 xs ys zs (i + 1) h' → IsTupOf3 h' s.heap.objs.size x y z → h'.objs.size = s.heap.objs.size + 1 → (∀ (c : Nat) (o : Obj), (c < b ∨ b + 6 ≤ c) → s.heap.get? c = some o → h'.get? c = some o) → Q (some (.ref s.heap.objs.size)) { s with heap := h', toks := tk }) :
    wpAny (model prog w) A (pyNext (.ref (b + 5))) Q E s := by
  have st' := st
  obtain ⟨a1, a2, a3, a4, a5, a6, a7, a8⟩ := st'
  rcases a8 with ⟨e1, c1, c2, c3, e2⟩ | ⟨T, f, oT, e1, e2, e3⟩
  · refine wpAny_pyNext_zipD3_item (z3_sep h1 h2 h3) (drawsB (prog := prog) (w := w) (A := A.in1) k1 (show A.in1.handled = none from hh) b l1 (by (first | omega | exact nat_ne (by omega))) xs) (drawsB (prog := prog) (w := w) (A := A.in1) k2 (show A.in1.handled = none from hh) (b + 1) l2 (by (first | omega | exact nat_ne (by omega))) ys) (drawsB (prog := prog) (w := w) (A := A.in1) k3 (show A.in1.handled = none from hh) (b + 2) l3 (by (first | omega | exact nat_ne (by omega))) zs) e1 a1 e2 ⟨a2, a5⟩ ⟨a3, a6⟩ ⟨a4, a7⟩
      (by rcases Nat.lt_or_ge i xs.size with q | q; exact q; rw [Array.getElem?_eq_none q] at hx; cases hx) (by rcases Nat.lt_or_ge i ys.size with q | q; exact q; rw [Array.getElem?_eq_none q] at hy; cases hy) (by rcases Nat.lt_or_ge i zs.size with q | q; exact q; rw [Array.getElem?_eq_none q] at hw; cases hw)
      fun x1 x2 x3 h' tk p1 p2 p3 q1 q2 q3 q4 q5 q6 q7 k => ?_
    rw [hx] at p1
    rw [hy] at p2
    rw [hw] at p3
    cases p1
    cases p2
    cases p3
    exact hQ h' tk ⟨k _ _ (by (first | omega | exact nat_ne (by omega))) (by (first | omega | exact nat_ne (by omega))) (by (first | omega | exact nat_ne (by omega))) (by (first | omega | exact nat_ne (by omega))) (by (first | omega | exact nat_ne (by omega))) a1, q3.1, q4.1, q5.1, q3.2, q4.2, q5.2, .inr ⟨_, false, _, q1, q6, big⟩⟩ q6 q7 fun (c : Nat) o r e => k c o (by (first | omega | exact nat_ne (by omega))) (by (first | omega | exact nat_ne (by omega))) (by (first | omega | exact nat_ne (by omega))) (by (first | omega | exact nat_ne (by omega))) (by (first | omega | exact nat_ne (by omega))) e
  · have ty : s.TypeIs (.ref (b + 5)) "zip" := ⟨_, e1, rfl⟩
    unfold pyNext
    exact wpAny_bind (wpAny_attempt (wpAny_callSpecial?_slot (name := Str.ofString "__next__") ty F.slot_zip_next
      (wpAny_call_entry F.slot_zip_next ty F.entry_zip_next (z3_heldItem hh h1 h2 h3 st e1 e2 e3 hx hy hw fun h' tk q1 q2 q3 q4 => wpAny_pure (hQ h' tk q1 q2 q3 q4)) (F.args_zip_next_1 _))))
theorem z3_heldEnd {T : Nat} {f : Bool} {oT : Obj} {Q : Fin → Shared → Prop} (hh : A.handled = none) (h1 : l1 < b) (st : Z3 k1 k2 k3 b l1 l2 l3 xs ys zs i s.heap) (hz : IsZipHeld s.heap (b + 5) (b + 3) (b + 4) T f) (hT : s.heap.get? T = some oT)
    (hx : xs.size = i) (hE : ∀ h' e, (∀ (c : Nat) (o : Obj), (c < b ∨ b + 6 ≤ c) → s.heap.get? c = some o → h'.get? c = some o) → (∃ o, h'.get? e = some o ∧ o.cls = .type "StopIteration") → E (.ref e) { s with heap := h' }) :
    wpAny (model prog w) A (Builtin.«zip.__next__» ⟨[.ref (b + 5)], []⟩) Q E s := by
  obtain ⟨a1, a2, a3, a4, a5, a6, a7, _⟩ := st
  show wpAny _ _ (field (.ref (b + 5)) 2 >>= _) _ _ _
  (refine wpAny_bind (wpAny_field hz rfl (x := .bool false) rfl ?_))
  show wpAny _ _ (field (.ref (b + 5)) 3 >>= _) _ _ _
  refine wpAny_bind (wpAny_field hz rfl (x := .ref (b + 3)) rfl ?_)
  refine wpAny_bind (wpAny_seqItems a1 rfl ?_)
  show wpAny _ _ (Builtin.SmallTypes.ownedTupleIsFree (.ref (b + 5)) >>= _) _ _ _
  refine wpAny_bind (wpAny_tupleHeld_zip hz hT fun g1 z1 s1 => ?_)
  (rw [if_neg Bool.false_ne_true])
  refine wpAny_bind ?_
  rw [← Array.forIn_toList]
  (simp only [List.forIn_cons, List.forIn_nil])
  (refine wpAny_bind (wpAny_bind (wpAny_holding ?_)))
  show wpAny _ _ (Builtin.SmallTypes.nextOf (.ref b) >>= _) _ _ _
  subst hx
  refine wpAny_bind ((drawsB k1 hh b l1 (by (first | omega | exact nat_ne (by omega))) xs).done { s with heap := g1 } _ _ ⟨a2.at fun o q => s1.extBut _ _ (by (first | omega | exact nat_ne (by omega))) q, a5.at fun o q => s1.extBut _ _ (by (first | omega | exact nat_ne (by omega))) q⟩ fun g2 e s2 he => ?_)
  exact hE g2 e (fun (c : Nat) o r q => s2 _ _ (by (first | omega | exact nat_ne (by omega))) (s1.extBut _ _ (by (first | omega | exact nat_ne (by omega))) q)) he
theorem z3_end {Q : Option Value → Shared → Prop} (hh : A.handled = none) (h1 : l1 < b) (h2 : l2 < b) (h3 : l3 < b) (st : Z3 k1 k2 k3 b l1 l2 l3 xs ys zs i s.heap)
    (hx : xs.size = i) (hy : ys.size = i) (hw : zs.size = i)
    (hQ : ∀ h' tk, (∀ (c : Nat) (o : Obj), (c < b ∨ b + 6 ≤ c) → s.heap.get? c = some o → h'.get? c = some o) → Q none { s with heap := h', toks := tk }) : wpAny (model prog w) A (pyNext (.ref (b + 5))) Q E s := by
  have st' := st
  obtain ⟨a1, a2, a3, a4, a5, a6, a7, a8⟩ := st'
  rcases a8 with ⟨e1, c1, c2, c3, e2⟩ | ⟨T, f, oT, e1, e2, e3⟩
  · exact wpAny_pyNext_zipD3_end (i := i) (z3_sep h1 h2 h3) (drawsB (prog := prog) (w := w) (A := A.in1) k1 (show A.in1.handled = none from hh) b l1 (by (first | omega | exact nat_ne (by omega))) xs) (drawsB (prog := prog) (w := w) (A := A.in1) k2 (show A.in1.handled = none from hh) (b + 1) l2 (by (first | omega | exact nat_ne (by omega))) ys) (drawsB (prog := prog) (w := w) (A := A.in1) k3 (show A.in1.handled = none from hh) (b + 2) l3 (by (first | omega | exact nat_ne (by omega))) zs) e1 a1 e2 ⟨a2, a5⟩ ⟨a3, a6⟩ ⟨a4, a7⟩
      (by (first | omega | exact nat_ne (by omega))) (by (first | omega | exact nat_ne (by omega))) (by (first | omega | exact nat_ne (by omega))) (by (first | omega | exact nat_ne (by omega))) fun h' tk k => hQ h' tk fun (c : Nat) o r e => k c o (by (first | omega | exact nat_ne (by omega))) (by (first | omega | exact nat_ne (by omega))) (by (first | omega | exact nat_ne (by omega))) (by (first | omega | exact nat_ne (by omega))) (by (first | omega | exact nat_ne (by omega))) e
  · have ty : s.TypeIs (.ref (b + 5)) "zip" := ⟨_, e1, rfl⟩
    unfold pyNext
    refine wpAny_bind (wpAny_attempt (wpAny_callSpecial?_slot (name := Str.ofString "__next__") ty F.slot_zip_next
      (wpAny_call_entry F.slot_zip_next ty F.entry_zip_next (z3_heldEnd hh h1 st e1 e2 hx fun h' e q1 q2 => ?_) (F.args_zip_next_1 _))))
    obtain ⟨o, ho, hc⟩ := q2
    (refine wpAny_bind (wpAny_isInstance (T := "StopIteration") (b := true) ⟨o, ho, hc⟩ isSubtype_stop ?_))
    exact wpAny_pure (hQ _ _ q1)
end
/-- the tuples that came, at their cells -/
structure Z3G (xs ys zs : Array Value) (lo : Nat) (h : Heap) (as : List Nat) : Prop where
  rise : as.Pairwise (· < ·)
  above : ∀ a ∈ as, lo < a
  tups : ∀ (j : Nat) (a : Nat), as[j]? = some a → ∃ x y z, xs[j]? = some x ∧ ys[j]? = some y ∧ zs[j]? = some z ∧ IsTupOf3 h a x y z
section
variable {prog : Program} {w : World} {A : Around} {E : Value → Shared → Prop} {s : Shared} {R : Result → Shared → Prop} {k1 k2 k3 : Bool} {b l1 l2 l3 : Nat} {xs ys zs : Array Value}
theorem arr_at {a : Array Value} {i n : Nat} (e : a.size = n) (q : i < n) : a[i]? = some (a[i]'(by omega)) := Array.getElem?_eq_getElem (by omega)
theorem z3_loop {n : Nat} (hh : A.handled = none) (h1 : l1 < b) (h2 : l2 < b) (h3 : l3 < b) (ex : xs.size = n) (ey : ys.size = n) (ez : zs.size = n) (hn : n ≤ sizeLine) (res : Value) {g : Heap}
    (hR : ∀ h' tk acc c as, (∀ (a : Nat) (o : Obj), a < b → g.get? a = some o → h'.get? a = some o) → h'.get? (b + 6) = some { cls := .type "list", dict := none, data := .seq acc c, slots := #[] } → as.length = n → Z3G xs ys zs (b + 6) h' as →
      (acc.toList = as.map Value.ref) → R (.ok (.ret res)) { s with heap := h', toks := tk }) :
    ∀ (k i : Nat) (h : Heap) (tk c : Nat) (acc : Array Value) (as : List Nat), n - i = k → i ≤ n → Z3 k1 k2 k3 b l1 l2 l3 xs ys zs i h → (∀ (a : Nat) (o : Obj), a < b → g.get? a = some o → h.get? a = some o) →
      h.get? (b + 6) = some { cls := .type "list", dict := none, data := .seq acc c, slots := #[] } → acc.toList = as.map Value.ref → as.length = i → Z3G xs ys zs (b + 6) h as → b + 6 < h.objs.size →
      codeAny (model prog w) A (.builtin "list.extend.loop" ⟨[.ref (b + 6), .ref (b + 5), res], []⟩) R { s with heap := h, toks := tk } := by
  intro k
  induction k with
  | zero =>
    intro i h tk c acc as hk hi st kp at6 hacc hal G big
    (refine codeAny_builtin F.entry_extend_loop ?_)
    (rw [Around.under_plainId F.plain_extend_loop _])
    show wpAny _ A.in1 (pyNext (.ref (b + 5)) >>= _) _ _ _
    refine wpAny_bind (z3_end (s := { s with heap := h, toks := tk }) (A := A.in1) hh h1 h2 h3 st (by omega) (by omega) (by omega) fun h' tk' he => ?_)
    refine wpAny_pure (hR h' tk' acc c as (fun a o q e => he a o (.inl q) (kp a o q e)) (he _ _ (.inr (Nat.le_refl _)) at6) (by omega) ⟨G.rise, G.above, fun j a hj => ?_⟩ hacc)
    obtain ⟨x, y, z, e1, e2, e3, e4⟩ := G.tups j a hj
    have q := G.above a (List.mem_of_getElem? hj)
    exact ⟨x, y, z, e1, e2, e3, he a _ (.inr (by omega)) e4⟩
  | succ k ih =>
    intro i h tk c acc as hk hi st kp at6 hacc hal G big
    have lt : i < n := by omega
    have accsz : acc.size = i := by rw [← Array.length_toList, hacc, List.length_map, hal]
    (refine codeAny_builtin F.entry_extend_loop ?_)
    (rw [Around.under_plainId F.plain_extend_loop _])
    show wpAny _ A.in1 (pyNext (.ref (b + 5)) >>= _) _ _ _
    refine wpAny_bind (z3_item (s := { s with heap := h, toks := tk }) (A := A.in1) hh h1 h2 h3 st big (arr_at ex lt) (arr_at ey lt) (arr_at ez lt) fun h' tk' st' tt sz kk => ?_)
    dsimp only at tt sz kk ⊢
    have at6' := kk _ _ (.inr (Nat.le_refl _)) at6
    have up : ∀ (a : Nat) (o : Obj), a ≠ b + 6 → h'.get? a = some o → (h'.update (b + 6) (Obj.mapSeq (·.push (Value.ref h.objs.size)))).get? a = some o := fun a o hb e => (Heap.get?_update_other _ _ (Ne.symm hb)).trans e
    show wpAny _ A.in1 (updateSeq (b + 6) (·.push (Value.ref h.objs.size)) >>= _) _ _ _
    refine wpAny_bind ?_
    have nlt : (h.objs.size : Nat) ≠ b + 6 := by first | omega | exact nat_ne (by omega)
    refine wpAny_updateSeq at6' rfl (wpAny_pure ⟨plainId_quiet F.plain_extend_loop _, ih (i + 1) _ tk' _ (acc.push (Value.ref h.objs.size)) (as ++ [h.objs.size]) (by omega) lt (z3_keep st' up h1 h2 h3)
      (fun a o q e => up a o (by omega) (kk a o (.inl q) (kp a o q e))) (Heap.get?_update_self _ at6' rfl) (by rw [Array.toList_push, hacc, List.map_append]; rfl) (by rw [List.length_append, hal]; rfl) ⟨?_, ?_, ?_⟩ ?_⟩) (by rw [accsz]; omega) (by show (acc.push (Value.ref h.objs.size)).size ≤ sizeLine + 1; rw [Array.size_push, accsz]; omega)
    · refine List.pairwise_append.mpr ⟨G.rise, List.pairwise_singleton _ _, fun a ha d hd => ?_⟩
      rw [List.mem_singleton.mp hd]
      (obtain ⟨j, hj⟩ := List.mem_iff_getElem?.mp ha)
      obtain ⟨_, _, _, _, _, _, e⟩ := G.tups j a hj
      exact Heap.lt_size e
    · intro a ha
      (rcases List.mem_append.mp ha with ha | ha)
      · exact G.above a ha
      · (rw [List.mem_singleton.mp ha])
        exact big
    · intro j a hj
      rcases Nat.lt_trichotomy j as.length with q | q | q
      · rw [List.getElem?_append_left q] at hj
        obtain ⟨x, y, z, e1, e2, e3, e4⟩ := G.tups j a hj
        have ab := G.above a (List.mem_of_getElem? hj)
        exact ⟨x, y, z, e1, e2, e3, up a _ (by omega) (kk a _ (.inr (by omega)) e4)⟩
      · subst q
        have ha : h.objs.size = a := by simpa using hj
        subst ha
        rw [hal]
        exact ⟨_, _, _, arr_at ex lt, arr_at ey lt, arr_at ez lt, up _ _ nlt tt⟩
      · have hno : (as ++ [h.objs.size])[j]? = none := List.getElem?_eq_none (by rw [List.length_append, List.length_singleton]; omega)
        rw [hno] at hj
        cases hj
    · have e : (h'.update (b + 6) (Obj.mapSeq (·.push (Value.ref h.objs.size)))).get? h.objs.size = _ := up _ _ nlt tt
      exact Nat.lt_trans big (Heap.lt_size e)
theorem zip_no_len : typeLookup (.type "zip") "__len__" = pure none := am_miss_of_fast (by decide +kernel)
theorem zip_no_hint : typeLookup (.type "zip") "__length_hint__" = pure none := am_miss_of_fast (by decide +kernel)
theorem z3_hint {r : Nat} (hT : s.TypeIs (.ref r) "zip") {Q : Bool → Shared → Prop} (h : Q true s) : wpAny (model prog w) A (Builtin.List.listLengthHint (.ref r)) Q E s := by
  (unfold Builtin.List.listLengthHint)
  refine wpAny_bind (wpAny_specialOf hT zip_no_len ?_)
  dsimp only
  refine wpAny_ite_split (fun q => absurd q (by decide)) (fun _ => ?_)
  refine wpAny_ite_split (fun q => absurd q (by decide)) (fun _ => ?_)
  refine wpAny_bind (wpAny_specialOf hT zip_no_hint ?_)
  exact wpAny_pure h
theorem z3_extend {n : Nat} (hh : A.handled = none) (h1 : l1 < b) (h2 : l2 < b) (h3 : l3 < b) (ex : xs.size = n) (ey : ys.size = n) (ez : zs.size = n) (hn : n ≤ sizeLine) (res : Value) (c₀ : Nat)
    (hz : IsZip s.heap (b + 5) (b + 3) (b + 4) .none) (st : Z3 k1 k2 k3 b l1 l2 l3 xs ys zs 0 s.heap) (at6 : s.heap.get? (b + 6) = some { cls := .type "list", data := .seq #[] c₀ })
    (hR : ∀ h' tk acc c as, (∀ (a : Nat) (o : Obj), a < b → s.heap.get? a = some o → h'.get? a = some o) → h'.get? (b + 6) = some { cls := .type "list", dict := none, data := .seq acc c, slots := #[] } → as.length = n → Z3G xs ys zs (b + 6) h' as →
      (acc.toList = as.map Value.ref) → R (.ok (.ret res)) { s with heap := h', toks := tk }) :
    wpAny (model prog w) A.in1 (Builtin.List.listExtendWith (.ref (b + 6)) (.ref (b + 5)) res)
      (fun fi s' => match fi with | .done f => R (.ok f) s' | .again c' => c'.quiet = true ∧ codeAny (model prog w) A c' R s') (fun e s' => R (.error e) s') s := by
  have go : ∀ (h : Heap) (c₁ tk : Nat), (∀ (a : Nat) (o : Obj), a ≠ b + 6 → s.heap.get? a = some o → h.get? a = some o) → h.get? (b + 6) = some { cls := .type "list", data := .seq #[] c₁ } →
      codeAny (model prog w) A (.builtin "list.extend.loop" ⟨[.ref (b + 6), .ref (b + 5), res], []⟩) R { s with heap := h, toks := tk } := by
    intro h c₁ tk kp at6'
    exact z3_loop (s := s) (g := s.heap) hh h1 h2 h3 ex ey ez hn res hR n 0 h tk c₁ #[] [] (Nat.sub_zero _) (Nat.zero_le _) (z3_keep st kp h1 h2 h3) (fun a o q e => kp a o (by omega) e) at6' rfl rfl
      ⟨List.Pairwise.nil, (fun _ ha => nomatch ha), (fun j a hj => by simp at hj)⟩ (Heap.lt_size at6')
  have ty : s.TypeIs (.ref (b + 5)) "zip" := ⟨_, hz, rfl⟩
  (unfold Builtin.List.listExtendWith)
  refine wpAny_bind (wpAny_typeOf (T := "zip") ty ?_)
  have q1 : Builtin.List.listSameRef (.ref (b + 6)) (.ref (b + 5)) = false := by simp [Builtin.List.listSameRef]
  have q2 : (Value.type "zip" == Value.type "list") = false := by decide
  have q3 : (Value.type "zip" == Value.type "tuple") = false := by decide
  simp only [q1, q2, q3, Bool.or_false, Bool.false_eq_true, if_false]
  refine wpAny_bind (wpAny_pyIter_zip hz ?_)
  refine wpAny_bind (wpAny_holding (z3_hint ty ?_))
  refine wpAny_ite_split (fun _ => ?_) (fun _ => wpAny_pure ⟨plainId_quiet F.plain_extend_loop _, go _ c₀ _ (fun a o _ e => e) at6⟩)
  (refine wpAny_bind (wpAny_rule ?_))
  refine wpAny_bind ?_
  show wpAny _ _ (updateSeq (b + 6) (·.push .none) >>= fun _ => updateSeq (b + 6) (·.pop)) _ _ _
  refine wpAny_bind (wpAny_updateSeq at6 rfl ?_)
  have at6b := Heap.get?_update_self (Obj.mapSeq (·.push Value.none)) at6 rfl
  refine wpAny_updateSeq (hz := by seq_fits) at6b rfl ?_
  have at6c := Heap.get?_update_self (Obj.mapSeq (·.pop)) at6b rfl
  refine wpAny_pure ⟨plainId_quiet F.plain_extend_loop _, go _ _ _ (fun a o hb e => ?_) at6c⟩
  (exact (Heap.get?_update_other _ _ (Ne.symm hb)).trans ((Heap.get?_update_other _ _ (Ne.symm hb)).trans e))
theorem z3_init {n : Nat} (hh : A.handled = none) (h1 : l1 < b) (h2 : l2 < b) (h3 : l3 < b) (ex : xs.size = n) (ey : ys.size = n) (ez : zs.size = n) (hn : n ≤ sizeLine)
    (hz : IsZip s.heap (b + 5) (b + 3) (b + 4) .none) (st : Z3 k1 k2 k3 b l1 l2 l3 xs ys zs 0 s.heap) (at6 : s.heap.get? (b + 6) = some { cls := .type "list", data := .seq #[] })
    (hR : ∀ h' tk acc c as, (∀ (a : Nat) (o : Obj), a < b → s.heap.get? a = some o → h'.get? a = some o) → h'.get? (b + 6) = some { cls := .type "list", dict := none, data := .seq acc c, slots := #[] } → as.length = n → Z3G xs ys zs (b + 6) h' as →
      acc.toList = as.map Value.ref → R (.ok (.ret .none)) { s with heap := h', toks := tk }) :
    wpAny (model prog w) A.in1 (Builtin.«list.__init__» ⟨[.ref (b + 6), .ref (b + 5)], []⟩)
      (fun fi s' => match fi with | .done f => R (.ok f) s' | .again c' => c'.quiet = true ∧ codeAny (model prog w) A c' R s') (fun e s' => R (.error e) s') s := by
  show wpAny _ _ (do let old ← Builtin.List.listItems (.ref (b + 6)); Builtin.List.listUpdate (.ref (b + 6)) (fun _ => #[]); letGo old.toList.reverse; Builtin.List.listExtendWith (.ref (b + 6)) (.ref (b + 5)) .none) _ _ s
  refine wpAny_bind ?_
  unfold Builtin.List.listItems
  refine wpAny_bind (wpAny_seqItems at6 rfl (wpAny_pure ?_))
  show wpAny _ _ (updateSeq (b + 6) (fun _ => #[]) >>= fun _ => letGo (#[] : Array Value).toList.reverse >>= fun _ => Builtin.List.listExtendWith (.ref (b + 6)) (.ref (b + 5)) .none) _ _ s
  refine wpAny_bind (wpAny_updateSeq at6 rfl ?_)
  have at6b := Heap.get?_update_self (Obj.mapSeq (fun _ => (#[] : Array Value))) at6 rfl
  have oth : ∀ (a : Nat) (o : Obj), a ≠ b + 6 → s.heap.get? a = some o → (s.heap.update (b + 6) (Obj.mapSeq (fun _ => (#[] : Array Value)))).get? a = some o :=
    fun a o hb e => (Heap.get?_update_other _ _ (Ne.symm hb)).trans e
  (refine wpAny_bind (wpAny_letGo ?_))
  refine z3_extend hh h1 h2 h3 ex ey ez hn .none _ (oth _ _ (by omega) hz) (z3_keep st oth h1 h2 h3) at6b fun h' tk acc c as hk hS' hl hG hacc => ?_
  exact hR h' tk acc c as (fun a o q e => hk a o q (oth a o (by omega) e)) hS' hl hG hacc
theorem z3_call {n : Nat} {Q : Value → Shared → Prop} (hh : A.handled = none) (h1 : l1 < b) (h2 : l2 < b) (h3 : l3 < b) (ex : xs.size = n) (ey : ys.size = n) (ez : zs.size = n) (hn : n ≤ sizeLine)
    (hz : IsZip s.heap (b + 5) (b + 3) (b + 4) .none) (st : Z3 k1 k2 k3 b l1 l2 l3 xs ys zs 0 s.heap) (sz : s.heap.objs.size = b + 6)
    (hQ : ∀ h' tk acc c as, (∀ (a : Nat) (o : Obj), a < b → s.heap.get? a = some o → h'.get? a = some o) → h'.get? (b + 6) = some { cls := .type "list", dict := none, data := .seq acc c, slots := #[] } → as.length = n → Z3G xs ys zs (b + 6) h' as →
      acc.toList = as.map Value.ref → Q (.ref (b + 6)) { s with heap := h', toks := tk }) :
    wpAny (model prog w) A (call (.type "list") [.ref (b + 5)]) Q E s := by
  refine callType_codes (Q₁ := fun obj s₁ => obj = .ref (b + 6) ∧ s₁ = { s with heap := s.heap.push { cls := .type "list", data := .seq #[] } }) F.called_list (F.typeCall_list_1 _) F.entry_list_init
    (by rw [← sz]; exact code_list_new _ ⟨rfl, rfl⟩) fun obj s₁ q => ?_
  obtain ⟨rfl, rfl⟩ := q
  have at6 : (s.heap.push { cls := .type "list", data := .seq #[] }).get? (b + 6) = some { cls := .type "list", data := .seq #[] } := by rw [← sz]; exact Heap.get?_push_size _ rfl
  refine ⟨⟨_, at6, rfl⟩, F.args_list_init_2 _ _, z3_init (A := A.in1) hh h1 h2 h3 ex ey ez hn (Heap.get?_push_of_some _ hz) (z3_keep st (fun a o _ e => Heap.get?_push_of_some _ e) h1 h2 h3) at6 fun h' tk acc c as hk hS' hl hG hacc => ?_⟩
  exact ⟨rfl, hQ h' tk acc c as (fun a o q e => hk a o q (Heap.get?_push_of_some _ e)) hS' hl hG hacc⟩
end
/-! the rule for list(zip(a, b, c)) -/
def rows3 : List Addr → List V → List V → List V → List (Addr × List V)
  | a :: as, x :: xs, y :: ys, z :: zs => (a, [x, y, z]) :: rows3 as xs ys zs
  | _, _, _, _ => []
def layR : Hp → List (Addr × List V) → Hp
  | H, [] => H
  | H, p :: r => layR (upd H p.1 (.tup p.2)) r
theorem rows3_mem : ∀ {as : List Addr} {xs ys zs : List V} {p : Addr × List V}, p ∈ rows3 as xs ys zs → ∃ (j : Nat) (x y z : V), as[j]? = some p.1 ∧ xs[j]? = some x ∧ ys[j]? = some y ∧ zs[j]? = some z ∧ p.2 = [x, y, z]
  | a :: as, x :: xs, y :: ys, z :: zs, p, h => by
    (rcases List.mem_cons.mp h with e | h)
    · subst e
      exact ⟨0, x, y, z, rfl, rfl, rfl, rfl, rfl⟩
    · obtain ⟨j, x', y', z', e1, e2, e3, e4, e5⟩ := rows3_mem h
      exact ⟨j + 1, x', y', z', e1, e2, e3, e4, e5⟩
  | [], _, _, _, _, h => nomatch h
  | _ :: _, [], _, _, _, h => nomatch h
  | _ :: _, _ :: _, [], _, _, h => nomatch h
  | _ :: _, _ :: _, _ :: _, [], _, h => nomatch h
theorem rows3_at : ∀ {as : List Addr} {xs ys zs : List V} {j : Nat} {a : Addr} {x y z : V}, as[j]? = some a → xs[j]? = some x → ys[j]? = some y → zs[j]? = some z → (a, [x, y, z]) ∈ rows3 as xs ys zs
  | a :: as, x :: xs, y :: ys, z :: zs, 0, _, _, _, _, h1, h2, h3, h4 => by
    cases h1
    cases h2
    cases h3
    cases h4
    exact List.mem_cons_self
  | a :: as, x :: xs, y :: ys, z :: zs, j + 1, _, _, _, _, h1, h2, h3, h4 => List.mem_cons_of_mem _ (rows3_at (j := j) h1 h2 h3 h4)
  | [], _, _, _, _, _, _, _, _, h, _, _, _ => nomatch h
  | _ :: _, [], _, _, _, _, _, _, _, _, h, _, _ => nomatch h
  | _ :: _, _ :: _, [], _, _, _, _, _, _, _, _, h, _ => nomatch h
  | _ :: _, _ :: _, _ :: _, [], _, _, _, _, _, _, _, _, h => nomatch h
theorem layR_off {b : Addr} : ∀ (r : List (Addr × List V)) (H : Hp), (∀ p ∈ r, p.1 ≠ b) → layR H r b = H b
  | [], _, _ => rfl
  | p :: r, H, h => by
    show layR (upd H p.1 (.tup p.2)) r b = H b
    rw [layR_off r _ fun q hq => h q (List.mem_cons_of_mem _ hq), upd_ne fun e => h p List.mem_cons_self e.symm]
theorem rows3_first {as : List Addr} {xs ys zs : List V} {p : Addr × List V} (h : p ∈ rows3 as xs ys zs) : p.1 ∈ as := by
  obtain ⟨j, _, _, _, e, _⟩ := rows3_mem h
  exact List.mem_of_getElem? e
theorem layR_at : ∀ {as : List Addr} {xs ys zs : List V} (H : Hp), as.Nodup → ∀ p ∈ rows3 as xs ys zs, layR H (rows3 as xs ys zs) p.1 = some (.tup p.2)
  | a :: as, x :: xs, y :: ys, z :: zs, H, nd, p, h => by
    (obtain ⟨n1, n2⟩ := List.nodup_cons.mp nd)
    show layR (upd H a (.tup [x, y, z])) (rows3 as xs ys zs) p.1 = _
    (rcases List.mem_cons.mp h with e | h)
    · subst e
      show layR (upd H a (.tup [x, y, z])) (rows3 as xs ys zs) a = _
      rw [layR_off _ _ fun q hq e => n1 (by rw [← e]; exact rows3_first hq), upd_same]
    · exact layR_at _ n2 p h
  | [], _, _, _, _, _, _, h => nomatch h
  | _ :: _, [], _, _, _, _, _, h => nomatch h
  | _ :: _, _ :: _, [], _, _, _, _, h => nomatch h
  | _ :: _, _ :: _, _ :: _, [], _, _, _, h => nomatch h
theorem refs_vals : ∀ as : List Nat, Vals (as.map V.ref) (as.map Value.ref)
  | [] => .nil
  | _ :: as => .cons rfl (refs_vals as)
/-- the tuples of three lists, one for each turn -/
def Tri (H : Hp) (ts : List Addr) (xs ys zs : List V) : Prop := ts.length = xs.length ∧ ∀ (j : Nat) (t : Addr), ts[j]? = some t → ∃ x y z, xs[j]? = some x ∧ ys[j]? = some y ∧ zs[j]? = some z ∧ H t = some (.tup [x, y, z])
def tListZip3 (k1 k2 k3 : Bool) (K : PySem.W.Frag) (ta : TA) : TE := fun σ H Q => ta σ H fun vs H1 => ∃ (a b c : Addr) (xs ys zs : List V), vs = [.ref a, .ref b, .ref c] ∧ SqB k1 K H1 a xs ∧ SqB k2 K H1 b ys ∧ SqB k3 K H1 c zs ∧ xs.length = ys.length ∧ xs.length = zs.length ∧
  ∀ (H' : Hp) (p : Addr) (ts : List Addr), (∀ b o, H1 b = some o → H' b = some o) → H1 p = none → (∀ t ∈ ts, H1 t = none) → p ∉ ts → H' p = some (.lst (ts.map V.ref)) → Tri H' ts xs ys zs → Q (.ref p) H'
section
variable {X : Cx} {e1 e2 e3 : Expr} {ta : TA} {p p' cpos pos : Pos}
theorem z3_laid {pins : List (Addr × Obj)} {σ : L2.St} {H : Hp} {s : Shared} {h' : Heap} {tk : Nat} {xs ys zs : List V} {us vs ws : List Value} {acc : Array Value} {c : Nat} {as : List Nat} (I : Inv X pins σ H s) (hz : xs.length ≤ sizeLine) (rx : Vals xs us) (ry : Vals ys vs) (rz : Vals zs ws)
    (hk : ∀ (a : Nat) (o : Obj), a < s.heap.objs.size → s.heap.get? a = some o → h'.get? a = some o) (hS : h'.get? (s.heap.objs.size + 6) = some { cls := .type "list", dict := none, data := .seq acc c, slots := #[] }) (hl : as.length = xs.length) (G : Z3G us.toArray vs.toArray ws.toArray (s.heap.objs.size + 6) h' as) (hacc : acc.toList = as.map Value.ref) :
    ∃ H' : Hp, (∀ b o, H b = some o → H' b = some o) ∧ H (s.heap.objs.size + 6) = none ∧ (∀ t ∈ as, H t = none) ∧ (s.heap.objs.size + 6) ∉ as ∧ H' (s.heap.objs.size + 6) = some (.lst (as.map V.ref)) ∧ Tri H' as xs ys zs ∧ Inv X pins σ H' { s with heap := h', toks := tk } := by
  have big : ∀ t ∈ as, s.heap.objs.size + 6 < t := G.above
  have nin : (s.heap.objs.size + 6) ∉ as := fun z => Nat.lt_irrefl _ (big _ z)
  have nd : as.Nodup := List.Pairwise.imp (fun {a b} (h : a < b) => Nat.ne_of_lt h) G.rise
  have new : ∀ t ∈ as, H t = none := fun t ht => I.hok.fresh (by have := big t ht; show s.heap.objs.size ≤ t; omega)
  have newS : H (s.heap.objs.size + 6) = none := I.hok.fresh (Nat.le_add_right _ _)
  have off : ∀ b, b ∉ as → b ≠ s.heap.objs.size + 6 → layR (upd H (s.heap.objs.size + 6) (.lst (as.map V.ref))) (rows3 as xs ys zs) b = H b := fun b n1 n2 => by
    rw [layR_off _ _ fun q hq e => n1 (by rw [← e]; exact rows3_first hq), upd_ne n2]
  have kp : ∀ b o, H b = some o → (layR (upd H (s.heap.objs.size + 6) (.lst (as.map V.ref))) (rows3 as xs ys zs)) b = some o := fun b u e => by
    (rw [off b (fun z => by rw [new b z] at e; cases e) (fun z => by rw [z, newS] at e; cases e)])
    exact e
  have low : ∀ b o, s.heap.get? b = some o → h'.get? b = some o := fun b o e => hk b o (Heap.lt_size e) e
  have eS : layR (upd H (s.heap.objs.size + 6) (.lst (as.map V.ref))) (rows3 as xs ys zs) (s.heap.objs.size + 6) = some (.lst (as.map V.ref)) := by
    rw [layR_off _ _ fun q hq e => nin (by rw [← e]; exact rows3_first hq), upd_same]
  have row : ∀ (j : Nat) (t : Addr), as[j]? = some t → ∃ x y z u v w, xs[j]? = some x ∧ ys[j]? = some y ∧ zs[j]? = some z ∧ RelV x u ∧ RelV y v ∧ RelV z w ∧ IsTupOf3 h' t u v w := fun j t ht => by
    obtain ⟨u, v, w, f1, f2, f3, f4⟩ := G.tups j t ht
    have back : ∀ {qs : List V} {rs : List Value} {r : Value}, Vals qs rs → rs.toArray[j]? = some r → ∃ q, qs[j]? = some q ∧ RelV q r := fun {qs rs r} R e => by
      have e' : rs[j]? = some r := by simpa using e
      have lt : j < qs.length := by
        rw [R.length]
        rcases Nat.lt_or_ge j rs.length with q | q
        · exact q
        · rw [List.getElem?_eq_none q] at e'
          cases e'
      obtain ⟨r', a1, a2⟩ := R.get (List.getElem?_eq_getElem lt)
      rw [e'] at a1
      cases a1
      exact ⟨_, List.getElem?_eq_getElem lt, a2⟩
    obtain ⟨x, a1, b1⟩ := back rx f1
    obtain ⟨y, a2, b2⟩ := back ry f2
    obtain ⟨z, a3, b3⟩ := back rz f3
    exact ⟨x, y, z, u, v, w, a1, a2, a3, b1, b2, b3, f4⟩
  refine ⟨layR (upd H (s.heap.objs.size + 6) (.lst (as.map V.ref))) (rows3 as xs ys zs), kp, newS, new, nin, eS, ⟨hl, fun j t ht => ?_⟩, ?_⟩
  · obtain ⟨x, y, z, _, _, _, a1, a2, a3, _⟩ := row j t ht
    exact ⟨x, y, z, a1, a2, a3, layR_at _ nd _ (rows3_at ht a1 a2 a3)⟩
  · refine I.call' (ch := []) rfl ⟨fun b o q _ _ _ => low b o q, fun b o q _ _ _ => ⟨o.slots, low b o q⟩, fun b o q n _ => ?_, fun b o q _ => ⟨o, low b o q⟩, fun b xs q => kp b _ q, fun b o u q => kp b _ q, fun b ps q => ⟨#[], by rw [kp b _ q]; simp⟩⟩ (fun b u q => ?_) I.bare fun b z => by simp at z
    · rw [off b (fun z => Nat.lt_irrefl _ (Nat.lt_trans (Nat.lt_of_lt_of_le (Heap.lt_size q) (Nat.le_add_right _ 6)) (big b z))) (Nat.ne_of_lt (Nat.lt_of_lt_of_le (Heap.lt_size q) (Nat.le_add_right _ 6)))]
      exact n
    · by_cases hb : b ∈ as
      · obtain ⟨j, hj⟩ := List.mem_iff_getElem?.mp hb
        obtain ⟨x, y, z, u1, v1, w1, a1, a2, a3, b1, b2, b3, f4⟩ := row j b hj
        rw [layR_at _ nd _ (rows3_at hj a1 a2 a3)] at q
        cases q
        exact ⟨by show 3 ≤ sizeLine; decide, [u1, v1, w1], .cons b1 (.cons b2 (.cons b3 .nil)), ⟨_, f4, rfl, _, rfl⟩⟩
      · by_cases hb2 : b = s.heap.objs.size + 6
        · rw [hb2] at q ⊢
          rw [eS] at q
          cases q
          refine ⟨by rw [List.length_map]; omega, acc.toList, c, by rw [hacc]; exact refs_vals as, ?_⟩
          rw [Array.toArray_toList]
          exact hS
        · rw [off b hb hb2] at q
          exact (I.hok b u q).stay (fun d v _ y => low d v y) (fun d y => kp d _ y) fun d xs y => kp d _ y
theorem pe_listZip3 (k1 k2 k3 : Bool) (hc : X.calm = true) (ha : PA X [e1, e2, e3] ta) (gL : Gl X "list") (mL : X.mg "list" = none) (gZ : Gl X "zip") (mZ : X.mg "zip" = none) (bL : bootBuiltins "list" = some (.type "list"))
    (hs : starEach [.Call (.Name "zip" p') [e1, e2, e3] [] cpos] X.env = (false, eval (.Call (.Name "zip" p') [e1, e2, e3] [] cpos) X.env) :: starEach [] X.env := by rfl)
    (hs' : starEach [e1, e2, e3] X.env = (false, eval e1 X.env) :: starEach [e2, e3] X.env := by rfl) (hpl : (backTo cpos (starEach [e2, e3] X.env)).any (·.1) = false := by rfl) :
    PE X (.Call (.Name "list" p) [.Call (.Name "zip" p') [e1, e2, e3] [] cpos] [] pos) (tListZip3 k1 k2 k3 X.K ta) := by
  (refine ⟨fun pins s σ H Q I hq => ?_⟩)
  refine wpAny_Call_Name_kw (ld_blt I gL mL bL ?_)
  (refine PyProof.Rows.callWith_type1 ?_ hs rfl)
  rw [hs]
  show wpAny _ _ (spliced ((false, eval (.Call (.Name "zip" p') [e1, e2, e3] [] cpos) X.env) :: backTo pos (starEach [] X.env))) _ _ s
  refine Calls.spliced_cons ?_
  refine Call_ (ld_blt I gZ mZ PyProof.Rows.boot_zip (PyProof.Rows.callWith_type1 (thn (ha.run cpos pins s σ H _ I hq) fun rs s1 ⟨vs0, H1, I1, r1, q1⟩ => ?_) hs' hpl))
  obtain ⟨a, b, c, xs, ys, zs, ex, h1, h2, h3, ly, lz, q⟩ := q1
  subst ex
  cases r1 with
  | cons ra r2 =>
  cases r2 with
  | cons rb r3 =>
  cases r3 with
  | cons rc r4 =>
  cases r4
  cases ra
  cases rb
  cases rc
  obtain ⟨us, rx, p1, bnd⟩ := I1.sqB h1
  obtain ⟨vs, ry, p2, _⟩ := I1.sqB h2
  obtain ⟨ws, rz, p3, _⟩ := I1.sqB h3
  have lx := rx.length
  have ly' := ry.length
  have lz' := rz.length
  refine zip_begins3 (beginsB k1 a us.toArray) (beginsB k2 b vs.toArray) (beginsB k3 c ws.toArray) p1 p2 p3 fun g gz gT gO g1 g2 g3 gs gk => ?_
  refine Calls.spliced_nil ?_
  have n1 : (a : Nat) < s1.heap.objs.size := p1.lt
  have n2 : (b : Nat) < s1.heap.objs.size := p2.lt
  have n3 : (c : Nat) < s1.heap.objs.size := p3.lt
  have st : Z3 k1 k2 k3 s1.heap.objs.size a b c us.toArray vs.toArray ws.toArray 0 g := ⟨gT, itB_new k1 g1, itB_new k2 g2, itB_new k3 g3, p1.at fun o => gk a o, p2.at fun o => gk b o, p3.at fun o => gk c o, .inl ⟨gz, _, _, _, gO⟩⟩
  refine z3_call (n := xs.length) (s := { s1 with heap := g }) (I1.ok.hd hc) n1 n2 n3 (by simp; omega) (by simp; omega) (by simp; omega) bnd gz st gs fun h' tk acc cc as hk hS hl hG hacc => ?_
  obtain ⟨H', k1, k2, k3, k4, k5, k6, J⟩ := z3_laid (tk := tk) I1 bnd rx ry rz (fun d o lt e => hk d o lt (gk d o e)) hS hl hG hacc
  (exact ⟨.ref _, H', J, rfl, q H' _ as k1 k2 k3 k4 k5 k6⟩)
end
end LZ3

namespace K03
open L2 PySem PySem.Spec PyProof.Rows LZ3
/-- a View's operators and class, as the law knows them -/
structure ViewO (P : Program) (w : World) (K : PySem.W.Frag) (mg : Str → Option Value) (base : Heap) (C CR CV CP : Addr) : Prop where
  cl : Cls K CV
  sf : PySem.W.selfFirst K CV = true
  nf : PySem.W.notFirst K CV (.ref CV) = true
  ti : ∀ {H : Hp} {a dx : Addr} {fs : List (Str × V)}, H a = some (.ins CV dx fs) → TyX K H (.ref a) (.ref CV)
  or_ : HasD (L2.CX P w) P w K mg base CV "__or__" 9 ["self", "other"] (spOr K C CR CV CP)
  and_ : HasD CX0 P w K mg base CV "__and__" 8 ["self", "other"] (spAnd K C CR CV)
  sub : HasD CX0 P w K mg base CV "__sub__" 8 ["self", "other"] (spSub K C CR CV)
  eq : HasD CX0 P w K mg base CV "__eq__" 3 ["self", "other"] (spVEq K C CR CV)
  pS : HasP P w K mg base CV "sheet" "_sheet"
  pP : HasP P w K mg base CV "pairs" "_pairs"
theorem VwAt.ins {K : PySem.W.Frag} {H : Hp} {CV v S : Addr} {ks : List Key} {kn : Known} (h : VwAt K CV H v S ks kn) : InsA H CV v := by
  obtain ⟨dx, pr, nm, wo, sp, h1, _⟩ := h.at_
  exact ⟨dx, _, h1⟩
structure Txt9 (K : PySem.W.Frag) (mg : Str → Option Value) : Prop extends Txt8 K mg where
  repr : mg "repr" = none
  max : mg "max" = none
  min : mg "min" = none
/-! ### what is shown -/
def Rp (d : PyData) : Prop := d.showable = true ∧ d.hasDict = false ∧ d.depth ≤ 50 ∧ d.shown.length ≤ sizeLine
theorem rp_of {d : PyData} (h1 : d.canLay0 = true) (h2 : d.depth ≤ 50) (h3 : d.weight ≤ 2 ^ 20) (h4 : d.intsShort 13 = true) (h5 : d.showable = true) : Rp d := by
  have lay : d.layable0 = true := by
    unfold PyData.layable0
    rw [h1, decide_eq_true (show d.depth ≤ 64 by omega), decide_eq_true h3]
    rfl
  have s := PyProof.Rows.shown_le13 lay h4
  have e : (sizeLine : Nat) = 16777216 := by decide
  exact ⟨h5, PyData.hasDict_of_canLay d h1, h2, by omega⟩
theorem rp_bools : ∀ a b c : Bool, Rp (.list [.bool a, .bool b, .bool c]) := fun a b c => by
  cases a <;> cases b <;> cases c <;> exact rp_of (by decide +kernel) (by decide +kernel) (by decide +kernel) (by decide +kernel) (by decide +kernel)
def wD : Option Nat → PyData
  | none => .none
  | some w => .int (w : Int)
theorem ws_dp {K : PySem.W.Frag} {H : Hp} : ∀ kn : Known, DpAll K H (kn.map wV) (kn.map wD)
  | [] => .nil
  | none :: r => .cons .non (ws_dp r)
  | some w :: r => .cons (.int (w : Int)) (ws_dp r)
theorem ws_lay : ∀ kn : Known, PyData.canLayAll0 (kn.map wD) = true ∧ PyData.depthAll (kn.map wD) = 0
  | [] => ⟨rfl, rfl⟩
  | a :: r => by
    obtain ⟨x, y⟩ := ws_lay r
    constructor
    · show ((wD a).canLay0 && PyData.canLayAll0 (r.map wD)) = true
      rw [x]
      cases a <;> rfl
    · show max (wD a).depth (PyData.depthAll (r.map wD)) = 0
      rw [y]
      cases a <;> rfl
theorem ws_shaped (kn : Known) : SeqAt.shaped (.tuple (kn.map wD)) = true := by
  obtain ⟨a, b⟩ := ws_lay kn
  show (PyData.canLayAll0 (kn.map wD) && decide (PyData.depthAll (kn.map wD) + 1 ≤ 64)) = true
  rw [a, b]
  rfl
theorem wD_eqv : ∀ a b : Option Nat, PyData.eqv (wD a) (wD b) = decide (a = b)
  | none, none => rfl
  | none, some _ => rfl
  | some _, none => rfl
  | some a, some b => by
    show ((a : Int) == (b : Int)) = _
    rw [Bool.eq_iff_iff, beq_iff_eq, decide_eq_true_eq]
    constructor
    · intro h
      have h' : (a : Int) = b := h
      rw [show a = b by omega]
    · intro h
      rw [Option.some.inj h]
theorem ws_eqv : ∀ a b : Known, PyData.eqvAll (a.map wD) (b.map wD) = decide (a = b)
  | [], [] => rfl
  | [], _ :: _ => rfl
  | _ :: _, [] => rfl
  | x :: l, y :: m => by
    show (PyData.eqv (wD x) (wD y) && PyData.eqvAll (l.map wD) (m.map wD)) = _
    rw [wD_eqv, ws_eqv l m, Bool.eq_iff_iff]
    simp only [Bool.and_eq_true, decide_eq_true_eq, List.cons.injEq]
end K03

namespace K03
open L2 PySem PySem.Spec PyProof.Rows LZ3 LamX
/-! ### what is shown of views -/
theorem prs_all : ∀ sp : List Pr, (∀ q ∈ sp, Asc q.1 ∧ q.1.length ≤ 8 ∧ q.2 ≤ 3) → PyData.weightAll (sp.map fun q => PyData.tuple [.str q.1, .int (q.2 : Int)]) ≤ sp.length * 60 ∧ PyData.intsShortAll 13 (sp.map fun q => PyData.tuple [.str q.1, .int (q.2 : Int)]) = true ∧ PyData.showableAll (sp.map fun q => PyData.tuple [.str q.1, .int (q.2 : Int)]) = true
  | [], _ => ⟨Nat.zero_le _, rfl, rfl⟩
  | q :: l, h => by
    obtain ⟨a, b, c⟩ := prs_all l fun x hx => h x (List.mem_cons_of_mem _ hx)
    obtain ⟨h1, h2, h3⟩ := h q List.mem_cons_self
    have all : ∀ k : Nat, k < 4 → (decide ((PyData.int (k : Int)).weight ≤ 20) && (PyData.int (k : Int)).intsShort 13 && (PyData.int (k : Int)).showable) = true := by decide +kernel
    have i := all q.2 (by omega)
    simp only [Bool.and_eq_true, decide_eq_true_eq] at i
    obtain ⟨⟨i1, i2⟩, i3⟩ := i
    have l2 : q.1.cps.size ≤ 8 := h2
    refine ⟨?_, ?_, ?_⟩
    · show (q.1.cps.size + 1 + ((PyData.int (q.2 : Int)).weight + 1 + 0)) + 1 + PyData.weightAll (l.map _) ≤ (l.length + 1) * 60
      omega
    · show ((true && ((PyData.int (q.2 : Int)).intsShort 13 && true)) && PyData.intsShortAll 13 (l.map _)) = true
      rw [b, i2]
      rfl
    · show ((true && ((PyData.int (q.2 : Int)).showable && true)) && PyData.showableAll (l.map _)) = true
      rw [c, i3]
      rfl
theorem rp_prs {sp : List Pr} (h : ∀ q ∈ sp, Asc q.1 ∧ q.1.length ≤ 8 ∧ q.2 ≤ 3) (l3 : sp.length ≤ 3) : Rp (prD sp) := by
  obtain ⟨a, b, c⟩ := prs_all sp h
  obtain ⟨d, e⟩ := prs_lay sp fun q hq => asc_ok (h q hq).1
  refine rp_of d ?_ ?_ b c
  · show PyData.depthAll (sp.map _) + 1 ≤ 50
    omega
  · show PyData.weightAll (sp.map _) ≤ _
    have e20 : (2 : Nat) ^ 20 = 1048576 := by decide
    omega
theorem rp_parted {z : Str} (h : Asc z) (l : z.length ≤ 8) : Rp (.tuple [.str "parted", .str z]) := by
  have l' : z.cps.size ≤ 8 := l
  have ez := asc_ok h
  refine rp_of ?_ ?_ ?_ ?_ ?_
  · show ((PyData.str "parted").canLay0 && ((PyData.str z).canLay0 && true)) = true
    rw [ez, show (PyData.str "parted").canLay0 = true by decide +kernel]
    rfl
  · show max 0 (max 0 0) + 1 ≤ 50
    decide
  · show ("parted" : Str).cps.size + 1 + (z.cps.size + 1 + 0) ≤ _
    have : ("parted" : Str).cps.size = 6 := by decide +kernel
    have e20 : (2 : Nat) ^ 20 = 1048576 := by decide
    omega
  · rfl
  · rfl
end K03

namespace K03
open PySem PySem.Spec PyProof.Rows
/-! ### a text and a dict are not equal -/
theorem dict_no_str (l : Addr) (es : Array DictEntry) (n : Nat) (dd : Option Addr) (sl : Array (Option Value)) (b : Str) (u : Tok) :
    Meets (Builtin.«dict.__eq__» ⟨[.ref l, .str b u], []⟩) (fun _ R s => s.heap.get? l = some { cls := .type "dict", dict := dd, data := .dict es n, slots := sl } ∧ R (.ok (.ret .notImplemented)) s) :=
  .of_wp fun prog w A R s h => by
    obtain ⟨hp, g, d, tk, os⟩ := s
    obtain ⟨hl, h⟩ := h
    have f1 := F.sub_str_dict
    wp_walk using wpAny_loadPart' hl
    exact ⟨_, rfl, h⟩
theorem str_no_dict (b : Str) (u : Tok) (l : Addr) (c : Value) (es : Array DictEntry) (n : Nat) (dd : Option Addr) (sl : Array (Option Value)) :
    Meets (Builtin.«str.__eq__» ⟨[.str b u, .ref l], []⟩) (fun _ R s => s.heap.get? l = some { cls := c, dict := dd, data := .dict es n, slots := sl } ∧ R (.ok (.ret .notImplemented)) s) :=
  .of_wp fun prog w A R s h => by
    obtain ⟨hp, g, d, tk, os⟩ := s
    obtain ⟨hl, h⟩ := h
    wp_walk using wpAny_loadPart' hl, wpAny_load hl
    exact ⟨_, rfl, h⟩
open PySem.SeqAt in
theorem rc_str_dict {A : Around} {s : Shared} {l : Addr} {es : Array DictEntry} {n : Nat} {dd : Option Addr} {sl : Array (Option Value)} (b : Str) (u : Tok) (ho : s.heap.get? l = some { cls := .type "dict", dict := dd, data := .dict es n, slots := sl }) (hu : A.units < cLine) : RcAt A s (.str b u) (.ref l) false :=
  fun prog w E Q h => rc_eq_decline_or (k := false) (typeIs_str s b u) ⟨_, ho, rfl⟩ (by decide) F.sub_dict_str F.slot_str_eq F.slot_dict_eq_refl
    (fun _ hq => call_meets F.slot_str_eq (typeIs_str s b u) F.entry_str_eq (F.args_str_eq_2 _ _) (str_no_dict b u l (.type "dict") es n dd sl) ⟨ho, hq⟩)
    (fun _ hq => call_meets F.slot_dict_eq_refl ⟨_, ho, rfl⟩ F.entry_dict_eq (F.args_dict_eq_2 _ _) (dict_no_str l es n dd sl b u) ⟨ho, hq⟩)
    (fun _ hq => wpAny_of_eq (show isSame (.str b u) (.ref l) = pure false from rfl) hq) (.inr hu) h
open PySem.SeqAt in
theorem eq_str_dict {A : Around} {s : Shared} {l : Addr} {es : Array DictEntry} {n : Nat} {dd : Option Addr} {sl : Array (Option Value)} (b : Str) (u : Tok) (ho : s.heap.get? l = some { cls := .type "dict", dict := dd, data := .dict es n, slots := sl }) (hu : A.units < cLine) : EqAt A s (.str b u) (.ref l) false := fun prog w E Q h => by
  unfold eqBool
  refine wpAny_holding (wpAny_ite_split (fun hab => absurd (eq_of_beq hab) nofun) (fun _ => wpAny_bind (rc_str_dict b u ho hu prog w E _ (wpAny_truthy_bool h))))
end K03
namespace K03
open L2 PySem PySem.Spec PyProof.Rows
/-! ### any value -/
mutual
inductive Av (H : Hp) : V → PyData → Prop
  | non : Av H .non .none
  | bl (b : Bool) : Av H (.bl b) (.bool b)
  | int (i : Int) : Av H (.int i) (.int i)
  | str (x : Str) : Av H (.str x) (.str x)
  | lst {a : Addr} {xs : List V} {ds : List PyData} : H a = some (.lst xs) → (a == sysModules) = false → AvAll H xs ds → Av H (.ref a) (.list ds)
  | tup {a : Addr} {xs : List V} {ds : List PyData} : H a = some (.tup xs) → AvAll H xs ds → Av H (.ref a) (.tuple ds)
  | dic {a : Addr} : H a = some (.dK []) → Av H (.ref a) (.dict [])
inductive AvAll (H : Hp) : List V → List PyData → Prop
  | nil : AvAll H [] []
  | cons {v : V} {vs : List V} {d : PyData} {ds : List PyData} : Av H v d → AvAll H vs ds → AvAll H (v :: vs) (d :: ds)
end
mutual
theorem Av.same {H H' : Hp} (s : Same H H') : ∀ {v : V} {d : PyData}, Av H v d → Av H' v d
  | _, _, .non => .non
  | _, _, .bl b => .bl b
  | _, _, .int i => .int i
  | _, _, .str x => .str x
  | _, _, .lst e n a => .lst (s _ _ e) n (AvAll.same s a)
  | _, _, .tup e a => .tup (s _ _ e) (AvAll.same s a)
  | _, _, .dic e => .dic (s _ _ e)
theorem AvAll.same {H H' : Hp} (s : Same H H') : ∀ {vs : List V} {ds : List PyData}, AvAll H vs ds → AvAll H' vs ds
  | _, _, .nil => .nil
  | _, _, .cons a b => .cons (Av.same s a) (AvAll.same s b)
end
/-- is a value this text -/
def isS (z : Str) : PyData → Bool
  | .str x => z == x
  | _ => false
/-- is it one of these -/
def inS (d : PyData) (l : List Str) : Bool := l.any fun z => isS z d
/-- the answer of an item that is a text -/
def ansS (d : PyData) : Value → Bool
  | .str z _ => isS z d
  | _ => false
section
variable {X : Cx}
theorem eq_any {pins : List (Addr × Obj)} {σ : L2.St} {H : Hp} {s : Shared} {A : Around} (I : Inv X pins σ H s) (hu : A.units < cLine) {x : V} {v : Value} {d : PyData} (hx : Av H x d) (rx : RelV x v) (z : Str) (t : Tok) : SeqAt.EqAt A s (.str z t) v (isS z d) := by
  cases hx with
  | non =>
    cases rx
    exact SeqAt.EqAt.str_none z t
  | bl b =>
    cases rx
    exact SeqAt.EqAt.str_bool z t b
  | int i =>
    obtain ⟨u, rfl⟩ := rx
    exact SeqAt.EqAt.str_int z t i u
  | str y =>
    obtain ⟨u, rfl⟩ := rx
    exact SeqAt.EqAt.str_str z t y u
  | lst e no a =>
    cases rx
    obtain ⟨its, n, r, ho, hz⟩ := I.lst e
    exact SeqAt.EqAt.str_list z t (items := its.toArray) ⟨_, ho, rfl, n, rfl⟩ hu
  | tup e a =>
    cases rx
    obtain ⟨its, r, pl, hz⟩ := I.tuple (SqT.of (K := X.K) e)
    exact SeqAt.EqAt.str_tuple z t pl hu
  | @dic a e =>
    cases rx
    obtain ⟨_, _, vs, _, o, es, ep, h1, h2, h3, _⟩ := (show ObjOk X.prog X.w H s.heap a (.dK []) from I.hok a _ e)
    obtain ⟨cls, dd, data, sl⟩ := o
    have hc : cls = .type "dict" := h2.1
    have hd : data = .dict es ep := h3
    subst hc
    subst hd
    exact eq_str_dict z t h1 hu
variable {pins : List (Addr × Obj)} {σ : L2.St} {H : Hp} {s : Shared}
mutual
theorem Av.reads (I : Inv X pins σ H s) : ∀ (d : PyData) (v : V) (u : Value), Av H v d → RelV v u → ∃ as, Reads s.heap u d as ∧ sysModules ∉ as
  | .none, _, _, h, r => by
    cases h
    cases r
    exact ⟨_, Reads.none, List.not_mem_nil⟩
  | .bool b, _, _, h, r => by
    cases h
    cases r
    exact ⟨_, Reads.bool b, List.not_mem_nil⟩
  | .int i, _, _, h, r => by
    cases h
    (obtain ⟨t, rfl⟩ := r)
    exact ⟨_, Reads.int i t, List.not_mem_nil⟩
  | .str x, _, _, h, r => by
    cases h
    (obtain ⟨t, rfl⟩ := r)
    exact ⟨_, Reads.str x t, List.not_mem_nil⟩
  | .list ds, _, _, h, r => by
    cases h with
    | lst e no ha =>
      cases r
      obtain ⟨its, rv, ⟨o, n, ho, hc, _, hd⟩, _⟩ := I.list (SqL.of (K := X.K) e)
      obtain ⟨as, hr, hn⟩ := Av.readsAll I ds _ its ha rv
      exact ⟨_, Reads.list ho hc hd hr, fun m => (List.mem_cons.mp m).elim (fun z => by rw [← z, beq_self_eq_true] at no; cases no) hn⟩
  | .tuple ds, _, _, h, r => by
    cases h with
    | tup e ha =>
      cases r
      obtain ⟨its, rv, ⟨o, ho, hc, n, hd⟩, _⟩ := I.tuple (SqT.of (K := X.K) e)
      obtain ⟨as, hr, hn⟩ := Av.readsAll I ds _ its ha rv
      exact ⟨_, Reads.tuple ho hc hd hr, hn⟩
  | .dict kvs, _, _, h, r => by
    cases h with
    | @dic a e =>
      cases r
      obtain ⟨_, no, vs, rel, o, es, ep, h1, h2, h3, _, h5, _⟩ := (show ObjOk X.prog X.w H s.heap a (.dK []) from I.hok a _ e)
      cases rel
      have e0 : es.toList = [] := by
        have := h5.length
        exact List.eq_nil_of_length_eq_zero (by simpa using this)
      have hr := Reads.dict (kvs := []) (as := []) (bs := []) h1 h2.1 h3 (by rw [e0]; exact ReadsAll.nil) (by rw [e0]; exact ReadsAll.nil)
      exact ⟨_, hr, fun m => (List.mem_cons.mp m).elim (fun z => by rw [← z, beq_self_eq_true] at no; cases no) (fun z => nomatch z)⟩
theorem Av.readsAll (I : Inv X pins σ H s) : ∀ (ds : List PyData) (vs : List V) (us : List Value), AvAll H vs ds → Vals vs us → ∃ as, ReadsAll s.heap us ds as ∧ sysModules ∉ as
  | [], _, _, h, r => by
    cases h
    cases r
    exact ⟨_, ReadsAll.nil, List.not_mem_nil⟩
  | d :: ds, _, _, h, r => by
    cases h with
    | cons h1 h2 =>
      cases r with
      | cons r1 r2 =>
        obtain ⟨as, q1, n1⟩ := Av.reads I d _ _ h1 r1
        obtain ⟨bs, q2, n2⟩ := Av.readsAll I ds _ _ h2 r2
        exact ⟨_, ReadsAll.cons q1 q2, fun m => (List.mem_append.mp m).elim n1 n2⟩
end
/-- repr of any of these values that is no scalar -/
def rReprA : List V → Hp → VK → Prop := fun xs H Q => ∃ (a : Addr) (d : PyData), xs = [.ref a] ∧ Av H (.ref a) d ∧ d.showable = true ∧ d.depth ≤ 50 ∧ d.shown.length ≤ sizeLine ∧ Q (.str d.shown) H
theorem call_reprA (hgu : X.A.guards = some []) (hu : X.A.units + 64 < cLine) : CallR X (.builtin "repr") rReprA := by
  intro pins s σ H xs us Q I r h
  obtain ⟨a, d, rfl, hd, hs, hdp, hsz, q⟩ := h
  cases r with
  | cons rx rr =>
    cases rr
    obtain ⟨as, rd, hn⟩ := Av.reads I d _ _ hd rx
    cases rx
    exact repr_of_reads' rd hs (fun _ => hn) hgu (by omega) (fun _ _ e => e) (fun h' u tk hk => ⟨.str d.shown, H, I.kept (t' := tk) hk, ⟨u, rfl⟩, q⟩) hsz
/-- [..], of which it is told that it is not the dict of modules -/
def tLstS (t : TA) : TE := fun σ H Q => t σ H fun xs H1 => xs.length ≤ sizeLine ∧ ∀ p, H1 p = none → (p == sysModules) = false → Q (.ref p) (upd H1 p (.lst xs))
theorem pe_lstS {es : List Expr} {t : TA} {pos : Pos} (h : PA X es t) : PE X (.List es pos) (tLstS t) := by
  refine ⟨fun pins s σ H Q I hq => ?_⟩
  refine wpAny_List_spliced (thn (h.run pos pins s σ H _ I hq) fun us s1 ⟨xs, H1, I1, r, z, q⟩ => ⟨(by rw [← r.length]; exact z), ?_⟩)
  refine ⟨.ref s1.heap.objs.size, upd H1 s1.heap.objs.size (.lst xs), I1.laid (t' := s1.toks) (fun b u e => Heap.get?_push_of_some _ e) (Nat.le_refl _) ?_, rfl, q _ (I1.hok.fresh (Nat.le_refl _)) (beq_eq_false_iff_ne.mpr (Nat.ne_of_gt I1.big))⟩
  exact ⟨z, us, 0, r, Heap.get?_push_size _ rfl⟩
/-- x in (text, ..), x any value -/
def rInA (K : PySem.W.Frag) : R2 := fun x y H Q => ∃ (p : Addr) (l : List Str) (d : PyData), y = .ref p ∧ SqT K H p (l.map V.str) ∧ Av H x d ∧ Q (.bl (inS d l)) H
theorem ansS_all {d : PyData} : ∀ {l : List Str} {us : List Value}, Vals (l.map V.str) us → us.any (ansS d) = inS d l
  | [], _, .nil => rfl
  | z :: l, u :: us, .cons r t => by
    obtain ⟨k, rfl⟩ := r
    show (isS z d || us.any (ansS d)) = (isS z d || inS d l)
    rw [ansS_all t]
theorem op_inA (hu : X.A.units + 1 < cLine) : OpR X (compareOp .In) (rInA X.K) := by
  intro pins s σ H x y v u Q I rx ry h
  obtain ⟨p, l, d, rfl, hq, hx, q⟩ := h
  cases ry
  obtain ⟨its, r, pl, hz⟩ := I.tuple hq
  have all : ∀ w ∈ its, SeqAt.EqAt X.A.in1 s w v (ansS d w) := by
    have gen : ∀ {l : List Str} {us : List Value}, Vals (l.map V.str) us → ∀ w ∈ us, SeqAt.EqAt X.A.in1 s w v (ansS d w) := by
      intro l
      induction l with
      | nil =>
        intro us hv w hw
        cases hv
        cases hw
      | cons z l ih =>
        intro us hv w hw
        cases hv with
        | cons r1 t1 =>
          rcases List.mem_cons.mp hw with rfl | hw
          · obtain ⟨k, rfl⟩ := r1
            exact eq_any I (A := X.A.in1) hu hx rx z k
          · exact ih t1 w hw
    exact gen r
  refine SeqAt.in_tupleAt (ansS d) pl (fun w hw => all w (by simpa using hw)) ⟨.bl _, H, I, rfl, ?_⟩
  rw [show its.toArray.any (ansS d) = its.any (ansS d) by simp, ansS_all r]
  exact q
end
/-! ### what is shown stays short -/
structure Fit (W D : Nat) (d : PyData) : Prop where
  lv : d.leavesShort 13 = true
  sh : d.showable = true
  dp : d.depth ≤ D
  wt : d.weight ≤ W
theorem Fit.mono {W D W' D' : Nat} {d : PyData} (h : Fit W D d) (hw : W ≤ W') (hd : D ≤ D') : Fit W' D' d := ⟨h.lv, h.sh, Nat.le_trans h.dp hd, Nat.le_trans h.wt hw⟩
theorem fit_all {W D : Nat} : ∀ {l : List PyData}, (∀ d ∈ l, Fit W D d) → PyData.leavesShortAll 13 l = true ∧ PyData.showableAll l = true ∧ PyData.depthAll l ≤ D ∧ PyData.weightAll l ≤ l.length * (W + 1)
  | [], _ => ⟨rfl, rfl, Nat.zero_le _, Nat.zero_le _⟩
  | z :: l, h => by
    obtain ⟨a, b, c, e⟩ := fit_all (l := l) fun u hu => h u (List.mem_cons_of_mem _ hu)
    obtain ⟨z1, z2, z3, z4⟩ := h z List.mem_cons_self
    refine ⟨?_, ?_, ?_, ?_⟩
    · show (z.leavesShort 13 && PyData.leavesShortAll 13 l) = true
      rw [a, z1]
      rfl
    · show (z.showable && PyData.showableAll l) = true
      rw [b, z2]
      rfl
    · show max z.depth (PyData.depthAll l) ≤ D
      omega
    · show z.weight + 1 + PyData.weightAll l ≤ (l.length + 1) * (W + 1)
      rw [Nat.add_mul, Nat.one_mul]
      omega
theorem fit_tup {W D n : Nat} {l : List PyData} (h : ∀ d ∈ l, Fit W D d) (hl : l.length ≤ n) : Fit (n * (W + 1)) (D + 1) (.tuple l) := by
  obtain ⟨a, b, c, e⟩ := fit_all h
  refine ⟨by simpa [PyData.leavesShort] using a, by simpa [PyData.showable] using b, ?_, ?_⟩
  · show PyData.depthAll l + 1 ≤ D + 1
    omega
  · show PyData.weightAll l ≤ _
    exact Nat.le_trans e (Nat.mul_le_mul_right _ hl)
theorem fit_lst {W D n : Nat} {l : List PyData} (h : ∀ d ∈ l, Fit W D d) (hl : l.length ≤ n) : Fit (n * (W + 1)) (D + 1) (.list l) := by
  obtain ⟨a, b, c, e⟩ := fit_all h
  refine ⟨by simpa [PyData.leavesShort] using a, by simpa [PyData.showable] using b, ?_, ?_⟩
  · show PyData.depthAll l + 1 ≤ D + 1
    omega
  · show PyData.weightAll l ≤ _
    exact Nat.le_trans e (Nat.mul_le_mul_right _ hl)
theorem Fit.repr {W D : Nat} {d : PyData} (h : Fit W D d) (hw : W ≤ 1000000) (hd : D ≤ 50) : d.showable = true ∧ d.depth ≤ 50 ∧ d.shown.length ≤ sizeLine := by
  refine ⟨h.sh, Nat.le_trans h.dp hd, ?_⟩
  have s := PyData.shown_le 13 (by decide) d h.lv
  have e : (sizeLine : Nat) = 16777216 := by decide
  have := h.wt
  omega
theorem fit_bool (b : Bool) : Fit 20 0 (.bool b) := ⟨rfl, rfl, Nat.le_refl _, Nat.zero_le _⟩
theorem fit_none : Fit 20 0 .none := ⟨rfl, rfl, Nat.le_refl _, Nat.zero_le _⟩
def lowC (x : Str) : Bool := x.cps.toList.all fun c => decide (c < 16 ^ 8)
theorem fit_str {x : Str} {W : Nat} (h : lowC x = true) (hl : x.length ≤ W) : Fit W 0 (.str x) := ⟨by simpa [PyData.leavesShort, lowC] using h, rfl, Nat.le_refl _, hl⟩
/-! ### repr of anything -/
section
variable {X : Cx}
def rReprV : List V → Hp → VK → Prop := fun xs H Q => ∃ (v : V) (d : PyData), xs = [v] ∧ Av H v d ∧ d.showable = true ∧ d.depth ≤ 50 ∧ d.shown.length ≤ sizeLine ∧ Q (.str d.shown) H
theorem call_reprV (hgu : X.A.guards = some []) (hu : X.A.units + 64 < cLine) : CallR X (.builtin "repr") rReprV := by
  intro pins s σ H xs us Q I r h
  obtain ⟨v, d, rfl, hd, hs, hdp, hsz, q⟩ := h
  cases hd with
  | non =>
    obtain ⟨u, rfl, ru⟩ := vals1 r
    cases ru
    exact PySem.P.repr_of_none ⟨.str _, H, I.tok _, ⟨_, rfl⟩, q⟩
  | bl b =>
    obtain ⟨u, rfl, ru⟩ := vals1 r
    cases ru
    refine PySem.P.repr_of_bool ⟨.str _, H, I.tok _, ⟨_, rfl⟩, ?_⟩
    cases b <;> exact q
  | int i =>
    obtain ⟨u, rfl, t, rfl⟩ := vals1 r
    exact PySem.P.repr_of_int (by simpa [PyData.showable] using hs) ⟨.str _, H, I.tok _, ⟨_, rfl⟩, q⟩
  | str x =>
    obtain ⟨u, rfl, t, rfl⟩ := vals1 r
    exact PySem.P.repr_of_str (x := x) (t := t) ⟨.str _, H, I.tok _, ⟨_, rfl⟩, q⟩ (by simpa only [PyData.shown] using hsz)
  | lst e no a => exact call_reprA hgu hu pins s σ H _ us Q I r ⟨_, _, rfl, .lst e no a, hs, hdp, hsz, q⟩
  | tup e a => exact call_reprA hgu hu pins s σ H _ us Q I r ⟨_, _, rfl, .tup e a, hs, hdp, hsz, q⟩
  | dic e => exact call_reprA hgu hu pins s σ H _ us Q I r ⟨_, _, rfl, .dic e, hs, hdp, hsz, q⟩
end
end K03

/-! own exceptions over KeyError: the facts of KeyError -/
namespace KEx
open PySem PySem.F
abbrev keTail : List Value := [.type "KeyError", .type "LookupError", .type "Exception", .type "BaseException", .type "object"]
theorem store_ke : StoreFacts "KeyError" keTail "object.__setattr__" "object" := by
  constructor
  case mro => kernel_rfl
  case slot =>
    refine .of (n := "__setattr__") (owner := "object") ?look ?a ?b ?c ?d ?sub
    case look =>
      rw [typeLookup_type, builtinLookup_eq_fast]
      kernel_rfl
    case sub =>
      rw [isSubtype_type]
      kernel_rfl
    all_goals first
      | decide +kernel
      | exact Or.inl (by decide +kernel)
      | exact Or.inr (by decide +kernel)
  case entry => exact F.entry_object_sa
  case args => intro a b c; unfold argsOk; kernel_rfl
  case passes => intro self; kernel_rfl
  all_goals decide +kernel
end KEx
namespace KEx
open PySem PySem.F PySem.HandSPX PySem.Builtin PySem.Builtin.ObjectAttr
/-- classes of one's own, then what stands above KeyError -/
def refsKE : List Value → Bool
  | .ref _ :: r => refsKE r
  | l => decide (l = keTail)
theorem refsKE_two : ∀ l : List Value, refsKE l = true → (∃ c r, l = .ref c :: r ∧ refsKE r = true) ∨ l = keTail
  | [], e => .inr (of_decide_eq_true e)
  | a :: r, e => by
    cases a with
    | ref c => exact .inl ⟨c, r, rfl, e⟩
    | _ => exact .inr (of_decide_eq_true e)
theorem refsKE_goes (self : Value) {l : List Value} (e : refsKE l = true) : refuseLoop self "__setattr__" l = pure () := by
  induction l with
  | nil => exact absurd e (by decide)
  | cons a r ih =>
    rcases refsKE_two (a :: r) e with ⟨c, r', q, h⟩ | q
    · cases q
      exact (refuseLoop_ref _ _ _ _).trans (ih h)
    · rw [q]
      exact store_ke.passes self
theorem refsKE_has (Z : String) {l : List Value} (e : refsKE l = true) : l.contains (.type Z) = keTail.contains (.type Z) := by
  induction l with
  | nil => exact absurd e (by decide)
  | cons a r ih =>
    rcases refsKE_two (a :: r) e with ⟨c, r', q, h⟩ | q
    · cases q
      rw [List.contains_cons, ih h]
      rfl
    · rw [q]
theorem refsKE_full {l : List Value} (e : refsKE l = true) : l.isEmpty = false := by
  match l, e with
  | [], e => exact absurd e (by decide)
  | _ :: _, _ => rfl
abbrev leBase := PySem.F.excBase_LookupError
section
variable {M : Model} {A : Around} {E : Value → Shared → Prop} {h : Heap} {g : Array GenState} {d : Drawn} {t : Nat} {os : OsState}
variable {nm q : Str} {C N : Addr} {bs bm : List Value} {hdct : Bool} {sn : List Str} {sub : List Value} {ab : Bool} {col : Option Bool} {dd : Option Addr} {k0 k1 k2 k3 k5 : Option Value}
theorem new_checked (hm : refsKE bm = true) {rest : List Value} {Q : Unit → Shared → Prop} (hC : h.get? C = some (excClassObj nm q C N bs bm hdct sn sub ab col dd k0 k1 k2 k3 k5 "LookupError.__new__")) (hq : Q () ⟨h, g, d, t, os⟩) :
    wpAny M A (checkBuiltinCall "LookupError.__new__" ⟨.ref C :: rest, []⟩) Q E ⟨h, g, d, t, os⟩ := by
  have inB : (Value.ref C :: bm).contains (.type "LookupError") = true := by
    rw [List.contains_cons, refsKE_has _ hm]
    rfl
  have hst := leBase.noStar
  simp only [checkBuiltinCall, leBase.newKind, leBase.newSplit, leBase.newRow]
  repeat (first | (refine wpAny_loadPart_at hC ?_) | (refine wpAny_isSubtype_exc hC ?_; rw [inB]) | (refine wpAny_staticBase_exc hC ?_) | (refine wpAny_madeBy_exc hC ?_) | (simp only [bne_self_eq_false, if_false, Bool.false_eq_true]) | wp_step)
  exact hq
end
section
variable {prog : Program} {w : World} {A : Around} {E : Value → Shared → Prop} {R : Result → Shared → Prop} {h : Heap} {g : Array GenState} {d : Drawn} {t : Nat} {os : OsState}
variable {nm q : Str} {C N : Addr} {bs bm : List Value} {hdct : Bool} {sn : List Str} {sub : List Value} {ab : Bool} {col : Option Bool} {dd : Option Addr} {k0 k1 k2 k3 k5 : Option Value}
theorem new_made (hm : refsKE bm = true) {rest : List Value} (hC : h.get? C = some (excClassObj nm q C N bs bm hdct sn sub ab col dd k0 k1 k2 k3 k5 "LookupError.__new__"))
    (hq : R (.ok (.ret (.ref (h.objs.size + 1)))) ⟨(h.push (W.kdv_tup rest)).push (excO C h.objs.size), g, d, t, os⟩) (hrest : rest.length ≤ sizeLine) :
    codeAny (model prog w) A (.builtin "LookupError.__new__" ⟨.ref C :: rest, []⟩) R ⟨h, g, d, t, os⟩ := by
  have hend := leBase.ends
  have in1 : (Value.ref C :: bm).contains (.type "LookupError") = true := by
    rw [List.contains_cons, refsKE_has _ hm]
    rfl
  have in2 : (Value.ref C :: bm).contains (.type "AttributeError") = false := by
    rw [List.contains_cons, refsKE_has _ hm]
    rfl
  have in3 : (Value.ref C :: bm).contains (.type "NameError") = false := by
    rw [List.contains_cons, refsKE_has _ hm]
    rfl
  refine codeAny_builtinAt leBase.entry ?_
  unfold Builtin.«BaseException.__new__»
  refine wpAt_bind ?_
  (show wpAt _ _ _ (stack >>= _) _ _ _)
  refine wpAt_bind (wpAt_stack fun p below => wpAt_of_wpAny ?_)
  wp_walk
  refine wpAt_of_wpAny ?_
  rw [leBase.owner]
  repeat (first | (with_reducible refine wpAny_madeHere_exc leBase.canon hC ?_) | (with_reducible refine wpAny_loadPart_at hC ?_) | (with_reducible refine wpAny_isSubtype_exc hC ?_; first | rw [in1] | rw [in2] | rw [in3]) | wp_step)
  (show R _ _)
  rw [Heap.size_push]
  exact hq
theorem cls_called (hm : refsKE bm = true) {rest : List Value} {fI : Addr} {Q : Fin → Shared → Prop} (hC : h.get? C = some (excClassObj nm q C N bs bm hdct sn sub ab col dd k0 k1 k2 k3 k5 "LookupError.__new__"))
    (hi : W.Looks (model prog w) h (typeLookup (.ref C) "__init__") (some (.ref fI))) (hb : ∀ self, W.Looks (model prog w) h (bindSpecial (.ref fI) self) (.ref fI, [self])) (hrest : rest.length ≤ sizeLine)
    (hq : codeAny (model prog w) A (.call (.ref fI) ⟨.ref (h.objs.size + 1) :: rest, []⟩) (fun r s' => match r with | .ok (.ret v) => v = .none ∧ Q (.done (.ret (.ref (h.objs.size + 1)))) s' | .ok _ => False | .error e => E e s')
      ⟨(h.push (W.kdv_tup rest)).push (excO C h.objs.size), g, d, t, os⟩) : wpAny (model prog w) A (Builtin.«type.__call__» ⟨.ref C :: rest, []⟩) Q E ⟨h, g, d, t, os⟩ := by
  repeat (first | (with_reducible refine wpAny_loadPart_at hC ?_) | (with_reducible refine wpAny_madeBy_exc hC ?_) | wp_step)
  refine codeAny_call_builtin_code (Code.quiet_builtin _ leBase.quiet) (new_checked hm hC (new_made hm hC ?_ hrest))
  (show wpAny _ _ _ _ _ _)
  have keep : ∀ b o, h.get? b = some o → ((h.push (W.kdv_tup rest)).push (excO C h.objs.size)).get? b = some o := fun b o e => Heap.get?_push_of_some _ (Heap.get?_push_of_some _ e)
  have hC1 := keep _ _ hC
  have at1 : ((h.push (W.kdv_tup rest)).push (excO C h.objs.size)).get? (h.objs.size + 1) = some (excO C h.objs.size) := by heap_get
  have self1 : (Value.ref C :: bm).contains (.ref C) = true := by simp
  have look1 := hi.keeps keep
  have bind1 := (hb (.ref (h.objs.size + 1))).keeps keep
  unfold isInstance
  repeat (first | (with_reducible refine wpAny_loadPart_at at1 ?_) | (with_reducible refine wpAny_isSubtype_exc hC1 ?_; rw [self1]) | wp_step)
  (show wpAny _ _ (typeLookup (.ref C) _) _ _ _)
  refine look1.at (wpAny_holding (wpAny_bind (bind1.at (wpAny_bind (wpAny_call (codeAny_mono hq fun r s' z => ?_))))))
  match r, z with
  | .error _, z => exact z
  | .ok .next, z => exact z.elim
  | .ok .brk, z => exact z.elim
  | .ok .cont, z => exact z.elim
  | .ok (.ret _), ⟨rfl, z⟩ => first | exact wpAny_pure (wpAny_pure z) | (wp_walk; exact z)
theorem call_made (hm : refsKE bm = true) {rest : List Value} {fI : Addr} (hC : h.get? C = some (excClassObj nm q C N bs bm hdct sn sub ab col dd k0 k1 k2 k3 k5 "LookupError.__new__"))
    (hi : W.Looks (model prog w) h (typeLookup (.ref C) "__init__") (some (.ref fI))) (hb : ∀ self, W.Looks (model prog w) h (bindSpecial (.ref fI) self) (.ref fI, [self])) (hrest : rest.length ≤ sizeLine)
    (hq : codeAny (model prog w) (A.under (.builtin "type.__call__" ⟨.ref C :: rest, []⟩)) (.call (.ref fI) ⟨.ref (h.objs.size + 1) :: rest, []⟩) (W.InitBack (h.objs.size + 1) R) ⟨(h.push (W.kdv_tup rest)).push (excO C h.objs.size), g, d, t, os⟩) :
    codeAny (model prog w) A (.call (.ref C) ⟨rest, []⟩) R ⟨h, g, d, t, os⟩ := by
  have l1 := tc_lookup
  have l2 := tc_bind (.ref C)
  have isT : (⟨h, g, d, t, os⟩ : Shared).TypeIs (.ref C) "type" := ⟨_, hC, rfl⟩
  refine codeAny_of_tree ?_
  (show wpAny _ _ (callAny (.ref C) _) _ _ _)
  repeat (any_goals (first | assumption | (with_reducible refine wpAny_loadPart_at hC ?_) | wp_step))
  refine ⟨rfl, codeAny_call_builtin_at (Code.quiet_builtin _ (by decide +kernel)) entry_typeCall (wpAny_check_type_call_sub hC (cls_called hm hC hi hb hrest (codeAny_mono hq fun r s' z => ?_)))⟩
  match r, z with
  | .error _, z => exact z
  | .ok .next, z => exact z
  | .ok .brk, z => exact z
  | .ok .cont, z => exact z
  | .ok (.ret _), z => exact z
/-- self.name = v on such an exception that has no dict yet -/
theorem first_field {K : W.Frag} {name : Str} {tk : Tok} {v : Value} {x C : Addr} {fv : Array Value} {cd : ClassData} (X : K.In h) (hx : h.get? x = some { cls := .ref C, data := .fields fv }) (hcd : W.clsIn K C = some cd) (hm : refsKE cd.mro = true) (hh : cd.hasDict = true) (ha : W.findIn K (.ref C) name = some none)
    (hq : ∀ h' tk' dx, (∀ b o, b ≠ x → h.get? b = some o → h'.get? b = some o) → h.objs.size ≤ dx → dx ≠ x → h'.get? x = some { cls := .ref C, dict := some dx, data := .fields fv } → h'.Ns1 dx (fun y => if y = name then some v else none) → R (.ok (.ret .none)) ⟨h', g, d, tk', os⟩) :
    codeAny (model prog w) A (.call (.builtin "object.__setattr__") ⟨[.ref x, .str name tk, v], []⟩) R ⟨h, g, d, t, os⟩ := by
  have I : W.InstAt h x { cls := .ref C, data := .fields fv } C none := ⟨hx, rfl, rfl, trivial⟩
  have SF := F.store_object
  have hob : cd.mro.contains (.type "object") = true := (refsKE_has "object" hm).trans (by decide +kernel)
  have hxs : x ≠ h.objs.size := Nat.ne_of_lt (Heap.lt_size hx)
  have isO : W.Looks (model prog w) h (isInstance (.ref x) (.type "object")) true := I.type.andThen (W.looks_mroIn X (by
    unfold W.mroIn
    rw [hcd, Option.bind_some, if_neg (by rw [refsKE_full hm]; decide), hob]))
  refine codeAny_call_builtin SF.slot.plain SF.entry (@W.check_slot (model prog w) _ _ ⟨h, g, d, t, os⟩ "object.__setattr__" "object" "__setattr__" (.ref x) [.str name tk, v] [] _ SF.kind SF.split isO (SF.args (.ref x) (.str name tk) v) ?_)
  have lm : W.Looks (model prog w) h (mroOf (.ref C)) cd.mro := (W.looks_clsIn X hcd).andThen .now
  have lt : W.Looks (model prog w) h (storeTaker? none) none := .now
  have lc : W.Looks (model prog w) h (classData C) cd := W.looks_clsIn X hcd
  rw [W.osa_eq, refuse_eq]
  refine wpAny_bind (wpAny_bind (I.type.at (wpAny_bind (lm.at ?_))))
  rw [refsKE_goes _ hm]
  refine wpAny_pure (wpAny_bind (I.type.at (wpAny_bind ((W.looks_findIn X ha).at (wpAny_bind (lt.at ?_))))))
  (show wpAny _ _ (storeInOwnDict (.ref x) (.ref C) (.str name tk) name v false) _ _ _)
  obtain ⟨nm, bs, mro, ns, qn, hd, sn, sb, ab, col, del⟩ := cd
  dsimp only at hh
  subst hh
  unfold storeInOwnDict ownDictForStores
  repeat (first | (with_reducible refine store_in_new ?_ ?_) | (with_reducible refine wpAny_loadPart_at hx ?_) | (with_reducible refine lc.at ?_) | wp_step)
  · exact ⟨_, #[], _, (Heap.get?_update_ne _ _ _ _ hxs.symm).trans (Heap.get?_push_at rfl rfl), rfl, fun e he => absurd he (by simp), fun _ => rfl⟩
  · intro h' tk' hn' hs
    have hx1 : (h.push { cls := .type "dict", data := .dict #[] }).get? x = some { cls := .ref C, data := .fields fv } := Heap.get?_push_of_some _ hx
    refine hq h' tk' h.objs.size (fun b o hb ho => (hs.2 b (Nat.ne_of_lt (Heap.lt_size ho))).trans ((Heap.get?_update_ne _ _ _ _ hb).trans (Heap.get?_push_of_some _ ho))) (Nat.le_refl _) hxs.symm ((hs.2 x hxs).trans (Heap.get?_update_self _ hx1 rfl)) hn'
end
end KEx
namespace L2
open PySem PySem.Spec PyProof.Rows
/-- what the written part says of a class of one's own over KeyError -/
structure OexK (K : PySem.W.Frag) (C : Addr) : Prop where
  cls : ∃ nm q N bs bm sn sub ab col dd k0 k1 k2 k3 k5, K.lookup C = some (excClassObj nm q C N bs bm true sn sub ab col dd k0 k1 k2 k3 k5 "LookupError.__new__") ∧ KEx.refsKE bm = true
  sa : PySem.W.findIn K (.ref C) "__setattr__" = some (some (.builtin "object.__setattr__"))
  exC : PySem.W.subIn K (.ref C) (.type "BaseException") = some true
  tyC : PySem.W.typeIn K (.ref C) = some (.type "type")
  kC : PySem.W.keepIn K (.ref C) = true
section
variable {X : Cx} {pins : List (Addr × Obj)} {σ : St} {H : Hp} {s : Shared} {a C : Addr} {f : Str} {y : V} {u : Value} {Q : Unit → Shared → Prop} {E : Value → Shared → Prop} {A : Around}
theorem ost_newK (T : OexK X.K C) (I : Inv X pins σ H s) (e : H a = some (exo a C none)) (hno : PySem.W.findIn X.K (.ref C) f = some none) (ry : RelV y u)
    (h : ∀ dx s', H dx = none → dx ≠ a → Inv X pins σ (upd (upd H dx (exd dx [(f, y)])) a (exo a C (some dx))) s' → Q () s') : wpAny (model X.prog X.w) A (setAttr (.ref a) f u) Q E s := by
  obtain ⟨nm, q, N, bs, bm, sn, sub, ab, col, dd, k0, k1, k2, k3, k5, hC, hbm⟩ := T.cls
  have hcl : PySem.W.clsIn X.K C = some ⟨nm, bs, .ref C :: bm, N, q, true, sn, sub, ab, col, false⟩ := by
    unfold PySem.W.clsIn
    rw [hC] <;> rfl
  obtain ⟨t1, ho⟩ := exo_at I.hok e
  obtain ⟨hp, g, d, t, os⟩ := s
  refine PySem.W.set_plain I.kIn (ox := ⟨.ref C, none, .fields #[.ref t1, .none, .none, .none, .bool false, .none], #[]⟩) (od := none) ⟨ho, rfl, rfl, trivial⟩ T.sa (KEx.first_field I.kIn ho hcl (show KEx.refsKE (.ref C :: bm) = true from hbm) rfl hno fun h' tk' dx k dn dne hx hn => ?_)
  have hnd : H dx = none := I.hok.fresh dn
  have nd : ∀ {b : Addr} {o : Obj}, hp.get? b = some o → b ≠ dx := fun {b o} z => Nat.ne_of_lt (Nat.lt_of_lt_of_le (Heap.lt_size z) dn)
  have na : ∀ {b : Addr}, H b = none → b ≠ a := fun {b} n z => by
    subst z
    rw [e] at n
    cases n
  have U1 : Un X.fs [] H (upd (upd H dx (exd dx [(f, y)])) a (exo a C (some dx))) hp h' := by
    refine ⟨fun b o z n _ _ => k b o (na n) z, fun b o z n _ _ => ⟨o.slots, k b o (na n) z⟩, fun b o z n _ => ?_, fun b o z _ => ?_, fun b xs z => ?_, fun b o v z => ?_, fun b ps z => ⟨#[], ?_⟩⟩
    · rw [upd_ne (na n), upd_ne (nd z)]
      exact n
    · by_cases hb : b = a
      · exact ⟨_, by rw [hb]; exact hx⟩
      · exact ⟨o, k b o hb z⟩
    · rw [upd_ne (at_ne e z exo_tup), upd_ne (ne_of_none z hnd)]
      exact z
    · rw [upd_ne (at_ne e z exo_frz), upd_ne (ne_of_none z hnd)]
      exact z
    · rw [upd_ne (at_ne e z exo_tbl), upd_ne (ne_of_none z hnd), z]
      simp
  refine h dx _ hnd dne (I.un (t' := tk') U1 fun b o z => ?_)
  by_cases hb : b = a
  · subst hb
    rw [upd_same] at z
    cases z
    exact exo_ok hx
  · rw [upd_ne hb] at z
    by_cases hd : b = dx
    · subst hd
      rw [upd_same] at z
      cases z
      exact exd_ok hn (relO_put (fs := []) ry fun g => True.intro)
    · rw [upd_ne hd] at z
      have away : ∀ {c : Addr}, c = b ∨ H c = some (.own b) → c ≠ a := fun {c} hc => hc.elim (fun r => by rw [r]; exact hb) fun r => at_ne e r exo_own
      refine (I.hok b o z).stay (fun c v hc zz => k c v (away hc) zz) (fun c hc => ?_) (fun c xs hc => ?_)
      · rw [upd_ne (at_ne e hc exo_own), upd_ne (ne_of_none hc hnd)]
        exact hc
      · rw [upd_ne (at_ne e hc exo_tup), upd_ne (ne_of_none hc hnd)]
        exact hc
end
/-- self.f = e, the first one -/
def tOstK (K : PySem.W.Frag) (f : Str) (to te : TE) : TS := fun D σ H => te σ H fun y H1 => to σ H1 fun x H2 => ∃ a C : Addr, x = .ref a ∧ OexK K C ∧ PySem.W.findIn K (.ref C) f = some none ∧
  H2 a = some (exo a C none) ∧ ∀ dx, H2 dx = none → dx ≠ a → D.nx σ (upd (upd H2 dx (exd dx [(f, y)])) a (exo a C (some dx)))
section
variable {X : Cx} {o e : Expr} {es : List Expr} {to te : TE} {ta : TA} {f : Str} {p p' pos : Pos}
theorem ps_ostK (ho : PE X o to) (he : PE X e te) (hs : swapsWith e (some (.Attribute o f p')) pos.line X.env = pure false := by rfl) : PS X (.Assign [.Attribute o f p'] e pos) (tOstK X.K f to te) := by
  refine ⟨fun pins s σ H D I h => plainObj_wpAny_Assign_Attribute (thn (he.run pins s σ H _ I h) fun v s1 ⟨y, H1, I1, r1, q1⟩ => thn (ho.run pins s1 σ H1 _ I1 q1) fun u s2 ⟨x, H2, I2, r2, a, C, ex, T, hno, ea, q⟩ => ?_) hs⟩
  subst ex
  (obtain rfl : u = Value.ref a := r2)
  exact ost_newK T I2 ea hno r1 fun dx s' n ne J => ⟨σ, _, J, q dx n ne⟩
theorem pmk_oexK {CX : CXT} {x : Str} {C fI : Addr} {k : Nat} {fd : FuncData} {ps : List Str} {sp : Sp} {ds : List Value} {dvs : List V} (T : OexK X.K C) (iC : PySem.W.findIn X.K (.ref C) "__init__" = some (some (.ref fI))) (tI : PySem.W.typeIn X.K (.ref fI) = some (.type "function"))
    (F1 : FnOk X.prog X.w X.K X.mg X.base CX k fI fd ps sp) (hr : Room (k + 1) X.A) (hb : Binds X.K fd ps ds) (hd : Vals dvs ds) (hx : Passes CX X (fun _ _ _ => False)) (hg : Gl X x) (hm : X.mg x = some (.ref C)) (ha : PA X (e :: es) ta)
    (hdb : (x == ("__debug__" : Str)) = false := by decide) (he : starEach (e :: es) X.env = (false, eval e X.env) :: starEach es X.env := by rfl) (hpl : (backTo pos (starEach es X.env)).any (·.1) = false := by rfl) :
    PMk X (.Call (.Name x p) (e :: es) [] pos) (tMkO C sp dvs ta) := by
  intro pins s σ H Q I h
  (obtain ⟨nm, q, N, bs, bm, sn, sub, ab, col, dd, k0, k1, k2, k3, k5, hC, hbm⟩ := T.cls)
  refine wpAny_Call_Name_kw (ld_glob I hg hm ?_ hdb)
  (refine PySem.W.callWith_K (h₀ := X.base) I.ok.mod.kin T.kC (thn (ha.run pos pins s σ H _ I h) fun us s1 ⟨vs, H1, I1, r1, hz, q1⟩ => ⟨I1.kIn, ?_⟩) he hpl)
  (show wpAny _ _ (call (.ref C) us) _ _ _)
  obtain ⟨hp, g, dr, tk, os⟩ := s1
  have hsz : hp.objs.size ≤ hp.objs.size + 1 := Nat.le_succ _
  have hq := q1 (hp.objs.size + 1) (I1.hok.fresh hsz)
  have keep : ∀ b o, hp.get? b = some o → ((hp.push (PySem.W.kdv_tup us)).push (PySem.HandSPX.excO C hp.objs.size)).get? b = some o := fun b o e => Heap.get?_push_of_some _ (Heap.get?_push_of_some _ e)
  have at1 : ((hp.push (PySem.W.kdv_tup us)).push (PySem.HandSPX.excO C hp.objs.size)).get? (hp.objs.size + 1) = some (PySem.HandSPX.excO C hp.objs.size) := by heap_get
  have I2 : Inv X pins σ (upd H1 (hp.objs.size + 1) (exo (hp.objs.size + 1) C none)) ⟨(hp.push (PySem.W.kdv_tup us)).push (PySem.HandSPX.excO C hp.objs.size), g, dr, tk, os⟩ := I1.laid (a := hp.objs.size + 1) (t' := tk) keep hsz (exo_ok at1)
  have r2 : Vals (V.ref (hp.objs.size + 1) :: (vs ++ dvs)) (Value.ref (hp.objs.size + 1) :: (us ++ ds)) := .cons rfl (r1.append hd)
  have hl : (Value.ref (hp.objs.size + 1) :: us ++ ds).length = ps.length := r2.length.symm.trans (F1.len _ _ _ _ hq)
  have hus : us.length ≤ sizeLine := by
    have := Paired.length r1
    rw [sizeLine_eq]
    omega
  refine wpAny_call (KEx.call_made hbm (I1.kIn _ _ hC) (PySem.W.looks_findIn I1.kIn iC) (fun self => PySem.W.bind_fn I1.kIn self tI) hus (codeAny_mono (F1.run _ X.stack _ _ ⟨Value.ref (hp.objs.size + 1) :: us, []⟩ (Value.ref (hp.objs.size + 1) :: (us ++ ds)) _ _ (fun _ _ _ => False) (hr.make C us []) (I2.env0.make C us []) (hb _ (Value.ref (hp.objs.size + 1) :: us) I2.kIn hl) r2 hq) fun r s' hq' => ?_))
  match r, hq' with
  | .error er, hq' => exact hx pins σ _ _ er s' I2 hq'
  | .ok .next, hq' => exact False.elim hq'
  | .ok .brk, hq' => exact False.elim hq'
  | .ok .cont, hq' => exact False.elim hq'
  | .ok (.ret u), ⟨v, H2, os2, bare2, un2, hok2, rv, ev, d, fs, ea, ed, hd1, q2⟩ =>
    subst ev
    obtain ⟨h2, g2, d2, t2, os'⟩ := s'
    exact ⟨rv, mk_end (raises_own T.exC T.tyC) I1 hsz keep un2 hok2 os2 bare2 ea ed hd1 q2⟩
end
end L2

namespace K03
open L2 PySem PySem.Spec PyProof.Rows
abbrev sMInit : Stmt := inClass (top 3) 0
/-! ### NoKey, an error over KeyError -/
def spMI (K : PySem.W.Frag) : Sp := fun vs H Q _ => ∃ (a C : Addr) (y : V), vs = [.ref a, y] ∧ OexK K C ∧ PySem.W.findIn K (.ref C) "value" = some none ∧ H a = some (exo a C none) ∧
  ∀ dx, H dx = none → dx ≠ a → Q .non (upd (upd H dx (exd dx (fV y))) a (exo a C (some dx)))
structure ErrK (P : Program) (w : World) (K : PySem.W.Frag) (mg : Str → Option Value) (base : Heap) (nm : Str) (CB : Addr) : Prop where
  ox : OexK K CB
  gB : mg nm = some (.ref CB)
  nv : PySem.W.findIn K (.ref CB) "value" = some none
  init : ∃ (fI : Addr) (fd : FuncData), PySem.W.findIn K (.ref CB) "__init__" = some (some (.ref fI)) ∧ PySem.W.typeIn K (.ref fI) = some (.type "function") ∧ FnOk P w K mg base CX0 1 fI fd ["self", "value"] (spMI K) ∧ Binds K fd ["self", "value"] []
section
variable {base : Heap} {P : Program} {w : World} {K : PySem.W.Frag} {mg : Str → Option Value}
theorem scMInit : FnScope ["self", "value"] ["self", "value"] (defScope sMInit) := ⟨rfl, rfl, rfl, by decide +kernel, rfl, by decide +kernel, by decide +kernel⟩
theorem ok_minit {f : Addr} {fd : FuncData} (F : Fun K "__init__" "Missing.__init__" sMInit f fd) : FnOk P w K mg base CX0 1 f fd ["self", "value"] (spMI K) := by
  refine F.ok scMInit (fun vs H Q E h => ?_) (fun cdv A outer s H vs Q E hr h => ?_)
  · obtain ⟨a, C, y, rfl, _⟩ := h
    rfl
  · obtain ⟨a, C, y, rfl, T, nv, ha, k⟩ := h
    refine ⟨_, pss_one (ps_ostK (pv 0) (pv 1)), ?_⟩
    exact ⟨_, rfl, _, rfl, a, C, rfl, T, nv, ha, fun dx hd ne => k dx hd ne⟩
theorem ps_badK {X : Cx} {CB : Addr} {W : WX} {nm : Str} {e : Expr} {te : TE} {p pos pos2 : Pos} (B : ErrK X.prog X.w X.K X.mg X.base nm CB) (hc : X.calm = true) (tk : L2.Takes X W) (hr : Room 2 X.A) (he : PE X e te) (hg : Gl X nm := by rfl) (hdb : (nm == ("__debug__" : Str)) = false := by decide)
    (hst : starEach (e :: []) X.env = (false, eval e X.env) :: starEach [] X.env := by rfl) (hpl : (backTo pos (starEach [] X.env)).any (·.1) = false := by rfl) :
    PS X (.Raise (some (.Call (.Name nm p) [e] [] pos)) none pos2) (fun _ σ H => tMkO CB (spMI X.K) [] (tCons te tNil) σ H fun cls d H' => W cls d σ H') := by
  obtain ⟨fI, fd, iC, tI, F1, hb⟩ := B.init
  exact ps_raise (W := W) (pos := pos2) hc tk (pmk_oexK (pos := pos) (p := p) (ta := tCons te tNil) (dvs := []) B.ox iC tI F1 hr hb .nil pass0 hg B.gB (pa_cons he pa_nil hst) hdb hst hpl)
theorem badK_made {nm : Str} {CB : Addr} {x : V} {H1 : Hp} {R : XK} (B : ErrK P w K mg base nm CB) (h : BadV H1 CB x R) : ([x] : List V).length ≤ 1000 ∧ ∀ a, H1 a = none → spMI K (.ref a :: ([x] ++ [])) (upd H1 a (exo a CB none))
    (fun v H2 => v = .non ∧ ∃ (d : Addr) (fs : List (Str × V)), H2 a = some (exo a CB (some d)) ∧ H2 d = some (exd d fs) ∧ H1 d = none ∧ R (.ref CB) (some d) (upd (del H2 a) d (.xd fs))) (fun _ _ _ => False) := by
  refine ⟨(by show 1 ≤ 1000; decide), fun a ha => ⟨a, CB, x, rfl, B.ox, B.nv, upd_same, fun dx hdx ne => ⟨rfl, dx, fV x, upd_same, ?_, ?_, ?_⟩⟩⟩
  · rw [upd_ne ne, upd_same]
  · rw [upd_ne ne] at hdx
    exact hdx
  · have d1 : H1 dx = none := by
      rw [upd_ne ne] at hdx
      exact hdx
    refine h dx _ (fun b o e => ?_) d1 upd_same
    have nba : b ≠ a := ne_of_none e ha
    have nbd : b ≠ dx := ne_of_none e d1
    rw [upd_ne nbd, del_ne nba, upd_ne nba, upd_ne nbd, upd_ne nba]
    exact e
/-! ### x[k] by an own __getitem__ that may raise -/
theorem run_in1S {X : Cx} {k : Nat} {ps : List Str} {sp : Sp} {CX : CXT} {pins : List (Addr × Obj)} {σ : L2.St} {H : Hp} {s : Shared} {Q : VK} {E : XK} {f : Addr} {fd : FuncData} {us : List Value} {vs : List V} (F : FnOk X.prog X.w X.K X.mg X.base CX k f fd ps sp) (hr : Room (k + 1) X.A) (hb : L2.Binds X.K fd ps []) (hx : PassesAt CX X σ E)
    (I : Inv X pins σ H s) (r : Vals vs us) (h : sp vs H Q E) : wpAny (model X.prog X.w) X.A.in1 (call (.ref f) us) (EP X pins σ Q) X.xe s := by
  have hl : us.length = ps.length := by
    rw [← r.length]
    exact F.len _ _ _ _ h
  have b := hb s us I.kIn (by rw [List.append_nil]; exact hl)
  rw [List.append_nil] at b
  have e0 : Env0 X.prog X.w X.K X.mg X.base X.A.in1 X.stack s H := by
    have e := I.env0
    exact ⟨e.frames, e.mod, e.bs, e.bsz, e.funs, e.frf, e.hok, e.bare⟩
  refine wpAny_call (codeAny_mono (F.run X.A.in1 X.stack s H ⟨us, []⟩ us vs Q E hr.in1 e0 b r h) fun res s' hq => ?_)
  cases res with
  | error e => exact hx pins H s e s' I hq
  | ok fl =>
    cases fl with
    | ret w' => exact I.after hq
    | next => exact False.elim hq
    | brk => exact False.elim hq
    | cont => exact False.elim hq
def tOwnGetX (C : Addr) (sp : Sp) (E : L2.St → XK) (ta tb : TE) : TE := fun σ H Q => tOp (fun x y H Q => (∃ p, x = .ref p ∧ InsA H C p) ∧ sp [x, y] H Q (E σ)) ta tb σ H Q
theorem pe_ownGetX {X : Cx} {k : Nat} {C : Addr} {ps : List Str} {sp : Sp} {CX : CXT} {E : L2.St → XK} {a b : Expr} {ta tb : TE} {pos : Pos} (hd : HasD CX X.prog X.w X.K X.mg X.base C "__getitem__" k ps sp) (hfn : ∀ f, PySem.W.findIn X.K (.ref C) "__getitem__" = some (some (.ref f)) → PySem.W.fnIn X.K f = true) (hr : Room (k + 1) X.A) (hx : ∀ σ, PassesAt CX X σ (E σ)) (ha : PE X a ta) (hb : PE X b tb)
    (hsl : ∀ o i, subscripted b true o i = runValue (.builtin "lifetime.subscript" ⟨[o, i], []⟩) := by intro _ _; rfl) : PE X (.Subscript a b pos) (tOwnGetX C sp E ta tb) := by
  obtain ⟨f, fd, hs, hf, F, hbd⟩ := hd
  refine ⟨fun pins s σ H Q I h => ?_⟩
  refine Subscript_ (binT ha hb I h fun v u s2 x y H2 I2 rx ry q => ?_)
  obtain ⟨⟨p, rfl, ip⟩, hsp⟩ := q
  cases rx
  obtain ⟨ob, od, J⟩ := own_at I2 ip
  obtain ⟨m, hF⟩ := I2.fr
  exact PySem.W.sub_K hF I2.ok.mod.kin J hs (hfn f hs) hf (run_in1S F hr hbd (hx σ) I2 (show Vals [V.ref p, y] [Value.ref p, u] from .cons rfl (.cons ry .nil)) hsp) (hsl _ _)
/-! ### x not in (text, ..), x any value -/
def rNotInA (K : PySem.W.Frag) : R2 := fun x y H Q => ∃ (p : Addr) (l : List Str) (d : PyData), y = .ref p ∧ SqT K H p (l.map V.str) ∧ Av H x d ∧ Q (.bl (!inS d l)) H
theorem op_notInA {X : Cx} (hu : X.A.units + 1 < cLine) : OpR X (compareOp .NotIn) (rNotInA X.K) := by
  intro pins s σ H x y v u Q I rx ry h
  obtain ⟨p, l, d, rfl, hq, hx, q⟩ := h
  cases ry
  obtain ⟨its, r, pl, hz⟩ := I.tuple hq
  have gen : ∀ {l : List Str} {us : List Value}, Vals (l.map V.str) us → ∀ w ∈ us, SeqAt.EqAt X.A.in1 s w v (ansS d w) := by
    intro l
    induction l with
    | nil =>
      intro us hv w hw
      cases hv
      cases hw
    | cons z l ih =>
      intro us hv w hw
      cases hv with
      | cons r1 t1 =>
        rcases List.mem_cons.mp hw with rfl | hw
        · obtain ⟨k, rfl⟩ := r1
          exact eq_any I (A := X.A.in1) hu hx rx z k
        · exact ih t1 w hw
  refine SeqAt.notIn_tupleAt (ansS d) pl (fun w hw => gen r w (by simpa using hw)) ⟨.bl _, H, I, rfl, ?_⟩
  rw [show its.toArray.any (ansS d) = its.any (ansS d) by simp, ansS_all r]
  exact q
theorem inS_str (x : Str) : ∀ l : List Str, inS (.str x) l = decide (x ∈ l)
  | [] => rfl
  | a :: l => by
    show ((a == x) || inS (.str x) l) = _
    rw [inS_str x l, Bool.eq_iff_iff, Bool.or_eq_true, beq_iff_eq]
    simp only [decide_eq_true_eq, List.mem_cons]
    exact ⟨fun h => h.elim (fun e => .inl e.symm) .inr, fun h => h.elim (fun e => .inl e.symm) .inr⟩
theorem inS_get {d : PyData} {l : List Str} (h : inS d l = true) : ∃ x, d = .str x ∧ x ∈ l := by
  cases d with
  | str x =>
    rw [inS_str] at h
    exact ⟨x, rfl, of_decide_eq_true h⟩
  | _ =>
    exfalso
    unfold inS at h
    rw [List.any_eq_true] at h
    obtain ⟨z, _, hz⟩ := h
    cases hz
/-! ### View.__contains__, View.__getitem__ of anything -/
def spVHasA (K : PySem.W.Frag) (CV : Addr) : Sp := fun vs H Q _ => ∃ (v S : Addr) (ks : List Key) (kn : Known) (x : V) (d : PyData), vs = [.ref v, x] ∧ VwAt K CV H v S ks kn ∧ Av H x d ∧ Q (.bl (inS d (hNames ks kn))) H
theorem ok_vhasA {f CV : Addr} {fd : FuncData} (F : Fun K "__contains__" "View.__contains__" sVHas f fd) (TV : ViewT K mg CV) : FnOk P w K mg base CX0 1 f fd ["self", "key"] (spVHasA K CV) := by
  refine F.ok scVHas (fun vs H Q E h => ?_) (fun cdv A outer s H vs Q E hr h => ?_)
  · obtain ⟨v, S, ks, kn, x, d, rfl, _⟩ := h
    rfl
  · obtain ⟨v, S, ks, kn, x, d, rfl, hv, hx, q⟩ := h
    refine ⟨_, pss_one (ps_ret (pe_cmpR (r := rInA K) (op_inA (units1 hr)) (pv 1) (pe_fld (pv 0) rfl) (by rfl))), ?_⟩
    obtain ⟨dx, pr, nm, wo, sp, h1, _, _, hm, _⟩ := hv.at_
    exact ⟨_, rfl, _, rfl, v, CV, dx, _, _, rfl, h1, TV.cl, TV.n3, vf_names, nm, _, d, rfl, hm, hx, q⟩
def spVGetA (K : PySem.W.Frag) (C CR CV CN : Addr) : Sp := fun vs H Q E => ∃ (v S : Addr) (z : Str) (ks : List Key) (rows : List RuleL) (eds : List (List Nat)) (kn : Known) (x : V) (d : PyData), vs = [.ref v, x] ∧ ShAt K C CR H S z ks rows eds ∧ (ks.map (fun q : Key => q.1)).Nodup ∧ VwAt K CV H v S ks kn ∧ Av H x d ∧
  (∀ (i : Nat) (k : Key) (w : Nat), d = .str k.1 → ks[i]? = some k → kn[i]? = some (some w) → Q (.int (w : Int)) H) ∧ (inS d (hNames ks kn) = false → BadV H CN x E)
theorem ok_vgetA {f C CR CV CN : Addr} {fd : FuncData} (F : Fun K "__getitem__" "View.__getitem__" sVGet f fd) (TV : ViewT K mg CV) (TS : ShK P w K mg base C) (B : ErrK P w K mg base "NoKey" CN) : FnOk P w K mg base (L2.CX P w) 3 f fd ["self", "key"] (spVGetA K C CR CV CN) := by
  refine F.okX scVGet (fun vs H Q E h => ?_) (fun cdv A outer s H vs Q E hr h => ?_)
  · obtain ⟨v, S, z, ks, rows, eds, kn, x, d, rfl, _⟩ := h
    rfl
  · obtain ⟨v, S, z, ks, rows, eds, kn, x, d, rfl, hS, hn, hv, hx, q, bad⟩ := h
    refine ⟨_, pss_cons (ps_if (pt_cmpR (r := rNotInA K) (op_notInA (units1 hr)) (pv 1) (pe_fld (pv 0) rfl) (by rfl)) (pss_one (ps_badK B rfl (takes_of rfl rfl rfl rfl) hr (pv 1))) pss_nil)
      (pss_one (ps_ret (pe_ix ix_tup (pe_fld (pv 0) rfl) (pe_mG ty_tupD PySem.F.plainAttrs_tuple PySem.F.slot_tuple_index PySem.F.type_tuple_index mt_tup_index (pe_get TS.pN TS.cl hr (pe_fld (pv 0) rfl)) (pa_cons (pv 1) pa_nil)) (fun _ _ => rfl)))), ?_⟩
    obtain ⟨dx, pr, nm, wo, sp, h1, _, _, hm, hw⟩ := hv.at_
    obtain ⟨dxs, n, sz, e, r, s1, hN, _⟩ := hS.at_
    refine ⟨_, rfl, _, rfl, v, CV, dx, _, _, rfl, h1, TV.cl, TV.n3, vf_names, nm, _, d, rfl, hm, hx, _, rfl, ?_⟩
    refine ite2 (fun z => ⟨_, rfl, badK_made B (bad ?_)⟩) (fun z => ?_)
    · simpa using z
    have z' : inS d (hNames ks kn) = true := by simpa using z
    obtain ⟨y, rfl, hy⟩ := inS_get z'
    cases hx
    obtain ⟨i, k, w, hk, ho, rfl⟩ := hn_mem.mp hy
    have hat : (ks.map (fun q : Key => q.1))[i]? = some k.1 := by rw [List.getElem?_map, hk]; rfl
    have hn2 : SqT K H n ((ks.map (fun q : Key => q.1)).map V.str) := by
      have e : (ks.map (fun q : Key => q.1)).map V.str = namesV ks := by
        unfold namesV
        rw [List.map_map]
        rfl
      rw [e]
      exact hN.sq
    have hwo : atI (kn.map wV) ((i : Nat) : Int) = some (.int (w : Int)) := atI_nat (by rw [List.getElem?_map, ho]; rfl)
    refine ⟨_, rfl, v, CV, dx, _, _, rfl, h1, TV.cl, TV.n4, vf_worths, _, rfl, v, CV, dx, _, _, rfl, h1, TV.cl, TV.n1, vf_sheet, S, dxs, _, rfl, s1, S, dxs, _, _, rfl, s1, sf_names, ⟨n, _, rfl, hN⟩, _, rfl, n, ks.map (fun q : Key => q.1), k.1, i, rfl, rfl, hn2, hat, fun m hm q => ?_, wo, _, _, _, rfl, rfl, hw, hwo, q i k w rfl hk ho⟩
    have := keys_uniq (i := m) (j := i) hn (k := ks[m]'(by have := (List.getElem?_eq_some_iff.mp hk).1; omega)) (k' := k) (List.getElem?_eq_getElem _) hk ?_
    · omega
    · rw [List.getElem?_map, List.getElem?_eq_getElem (by have := (List.getElem?_eq_some_iff.mp hk).1; omega)] at q
      exact Option.some.inj q
end
end K03

namespace K03
open L2 PySem PySem.Spec PyProof.Rows
/-! ### except (A, B) as n: -/
theorem flying_keep {B h h' : Heap} {l : List Env} {a : Addr} {Z : Obj → Prop} (f : HandSPX.FlyingZ B l a Z h) (k : ∀ b o, h.get? b = some o → h'.get? b = some o) : HandSPX.FlyingZ B l a Z h' := by
  obtain ⟨f1, f2, f3, oe, vs, T, oT, ts, h1, h2, h3, h4, h5, h6, h7, h8, h9⟩ := f
  exact ⟨fun b o e => k _ _ (f1 b o e), f2, f3.of_keeps fun b o e _ => ⟨o, k _ _ e, rfl⟩, oe, vs, T, oT, ts, k _ _ h1, h2, h3, h4, h5, h6, k _ _ h7, h8, h9⟩
def wTwoK (K : PySem.W.Frag) (c1 c2 : Value) (i : Nat) (ts : Addr → Value → Option Addr → TS) (D : Ends) : WX := fun cls d σ H =>
  PySem.W.exmAny K cls [c1, c2] = some true ∧ ∀ a, H a = none → ts a cls d { nx := fun σ' H' => D.nx (σ'.set i none) (upd H' a (ExV cls d a)), rt := fun _ _ => False } (σ.set i (some (.ref a))) H
section
variable {X : Cx} {n x1 x2 : Str} {c1 c2 : Value} {i : Nat} {body suite : List Stmt} {b₀ : Stmt} {p1 p2 tpos pos pos' : Pos} {kk : Nat} {tb : WX → TS} {ts : Addr → Value → Option Addr → TS}
theorem ps_try_two_keep (hex : X.ex = []) (hs : X.stack = X.env :: X.outer) (hf : X.env.frame = some X.env.locals) (hN : X.N.Nodup) (hi : X.N[i]? = some n) (hln : X.env.kindOf n = some .local) (hc1 : Names X x1 c1) (hc2 : Names X x2 c2)
    (hb : ∀ (W : WX) (pn : List (Addr × Obj)) (xe : Value → Shared → Prop), L2.Takes (X.tr pn xe) W → PassesOwn (model X.prog X.w) X.A X.env xe → PSs (X.tr pn xe) body (tb W))
    (hsu : ∀ (a : Addr) (oe : Obj) (cls : Value) (d : Option Addr) (pq : List (Addr × Obj)), Zc cls d oe → (∃ vs, oe.data = .fields vs) → PSs (X.suite a ((a, oe) :: pq)) (b₀ :: suite) (ts a cls d)) :
    PS X (.Try body [.ExceptHandler (some (.Tuple [.Name x1 p1, .Name x2 p2] kk tpos)) (some n) (b₀ :: suite) pos'] [] [] pos) (fun D σ H => tb (wTwoK X.K c1 c2 i ts D) D σ H) := by
  refine ⟨fun pins s σ H D I h => wpAny_Try_except ?_⟩
  have okX := I.ok
  have hframes : X.A.frames = some (X.env :: X.outer) := okX.frames.trans (congrArg some hs)
  have hb' := hb (wTwoK X.K c1 c2 i ts D) (X.pn ++ pins) (fun e s₁ => wpAny (model X.prog X.w) X.A (noteFrame e X.env) (fun _ s₂ => wpAny (model X.prog X.w) X.A (setFlight e none)
    (fun _ s₃ => wpAny (model X.prog X.w) X.A (handleBy e X.env [.ExceptHandler (some (.Tuple [.Name x1 p1, .Name x2 p2] kk tpos)) (some n) (b₀ :: suite) pos']) (SP X pins D) X.xe s₃) X.xe s₂) X.xe s₁)
  refine wpAny_mono ((hb' (fun u t xx => ?caught) PassesOwn.looking).run [] s σ H D (I.toTry _) h) (fun f s1 hsp => ?passed) (fun _ _ he => he)
  case passed =>
    cases f
    case next =>
      obtain ⟨σ1, H1, J, q⟩ := hsp
      exact wpAny_execs_nil ⟨σ1, H1, J.ofTry okX, q⟩
    case ret v =>
      obtain ⟨y, σ1, H1, J, r, q⟩ := hsp
      exact ⟨y, σ1, H1, J.ofTry okX, r, q⟩
    all_goals
      obtain ⟨σ1, H1, J, q⟩ := hsp
      exact ⟨σ1, H1, J.ofTry okX, q⟩
  case caught =>
    obtain ⟨a, B, sI, pins1, σ1, H1, cls, d, rfl, JT, nb, up, sky, na, os, ag, hb1, hyes⟩ := xx
    have JI : Inv X pins σ1 H1 sI := JT.ofTry okX
    rw [hs] at sky
    show wpAny _ X.A (noteFrame (.ref a) X.env) _ _ _
    refine Sky.land Zc.steady hframes hf sky fun h3 fl3 up3 => ?_
    have J3 : Inv X pins σ1 H1 { t with heap := h3 } := JI.landed nb fl3.1 (up.trans up3) os ag
    (obtain ⟨oe3, vs3, he3, hz3, hd3⟩ := fl3.there)
    have nfr : a ∉ frs (X.env :: X.outer) := fun hm => by
      obtain ⟨_, o', e', hnf⟩ := fl3.2.2.1.mem hm
      rw [he3] at e'
      cases e'
      exact hnf _ hd3
    have nL : a ≠ X.env.locals := fun zz => nfr (List.mem_filterMap.mpr ⟨X.env, List.mem_cons_self, by rw [hf, zz]⟩)
    have nF : ¬ a ∈ X.fs := fun hm => by
      (obtain ⟨e, he, q⟩ := List.mem_filterMap.mp hm)
      (exact nfr (List.mem_filterMap.mpr ⟨e, List.mem_cons_of_mem _ he, q⟩))
    -- the exception came in the body
    have nI : sI.heap.get? a = none := by
      cases e : sI.heap.get? a with
      | none => rfl
      | some o =>
        have z := nb a o e (by rw [hs]; exact nfr)
        have k2 : B.get? a = none := fl3.2.1
        rw [k2] at z
        cases z
    have n0 : X.s_0.heap.get? a = (none : Option Obj) := by
      cases e : (X.s_0.heap.get? a) with
      | none => rfl
      | some o =>
        obtain ⟨o', q⟩ := JI.base.there a o e (by rw [hex]; exact fun z => nomatch z)
        rw [nI] at q
        cases q
    have np' : ∀ p ∈ X.pn ++ pins, p.1 ≠ a := fun p hp z => by
      have q := (JI.pin p hp).1
      rw [z, nI] at q
      cases q
    have nc : ∀ y k, X.env.cells.lookup y = some k → k ≠ a := fun y k e z => by
      obtain ⟨v, o, q, _⟩ := JI.cell y k e
      rw [z, nI] at q
      cases q
    have S3 := (J3.suite he3 hd3 na nL nF)
    (refine wpAny_handleBy_cons (codeAny_handlers_test ?_) (by intro q; cases q))
    have LT : PySem.W.Looks (model X.prog X.w) h3 (typeOf (.ref a)) cls := (fun A Q E s k q => wpAny_typeOf_ref (k _ _ he3) (by rw [hz3.1]; exact q))
    have named : ∀ {x : Str} {c : Value} {np : Pos}, Names X x c → ∀ {Q : Value → Shared → Prop} {E : Value → Shared → Prop}, Q c { t with heap := h3 } → wpAny (model X.prog X.w) (X.A.mark (some (.ref a))) (eval (.Name x np) X.env) Q E { t with heap := h3 } := fun {x c np} hc {Q E} q => by
      (obtain ⟨hg, hdbg, hm | ⟨hm, hv, hnn⟩⟩ := hc)
      · (exact ld_glob (X := X.suite a ((a, oe3) :: (X.pn ++ pins))) S3 hg hm q hdbg)
      · (exact ld_blt (X := X.suite a ((a, oe3) :: (X.pn ++ pins))) S3 hg hm hv q hnn hdbg)
    refine wpAny_Tuple ?_
    refine wpAny_items_cons (named hc1 ?_)
    refine wpAny_items_cons (named hc2 ?_)
    refine wpAny_items_nil ⟨by show 2 ≤ sizeLine; decide, ?_⟩
    have kp : ∀ q o, h3.get? q = some o → (h3.push { cls := .type "tuple", data := .seq [c1, c2].toArray }).get? q = some o := fun _ _ z => Heap.get?_push_of_some _ z
    refine (PySem.W.exm_tup2 (J3.kIn.keeps kp) (LT.keeps kp) (Heap.get?_push_size h3 rfl) hb1).here ?_
    have fl5 := flying_keep fl3 kp
    have up5 := (up.trans up3).trans (Heap.UpToSlots.of_keeps kp)
    refine codeAny_handlers_suite_as (HandSPX.lands_againZ fl5 fun h4 fl4 up4 => ?_)
    have J4 : Inv X pins σ1 H1 { t with heap := h4 } := JI.landed nb fl4.1 (up5.trans up4) os ag
    (obtain ⟨oe4, vs4, he4, hz4, hd4⟩ := fl4.there)
    refine store_ok (X := X.suite a ((a, oe4) :: (X.pn ++ pins))) (v := .ref a) (J4.suite he4 hd4 na nL nF) hN hi (.inl hln) rfl (fun s5 S5 => ?_) (.inr hln)
    refine wpAny_mono ((hsu a oe4 cls d (X.pn ++ pins) hz4 ⟨_, hd4⟩).run [] s5 _ H1 _ S5 (hyes a na)) (fun f s6 hsp => ?_) (fun _ _ z => False.elim z)
    cases f
    case next =>
      (obtain ⟨σ6, H6, S6, q6⟩ := hsp)
      obtain ⟨g1, g2, _⟩ := S6.pin (a, oe4) (List.mem_append_left _ List.mem_cons_self)
      have J7 := track (o := ExV cls d a) (S6.unsuite okX) g2 nL nc n0 np' (exV_ok g1 hz4 hd4)
      exact gone_ok J7 hN hi hln fun s7 J8 => ⟨_, _, J8, q6⟩
    case ret v =>
      obtain ⟨_, _, _, _, _, q6⟩ := hsp
      exact False.elim q6
    all_goals
      obtain ⟨_, _, _, q6⟩ := hsp
      exact False.elim q6
end
end K03

namespace K03
open L2 PySem PySem.Spec PyProof.Rows LamX
/-! ### a lambda that is called where the caller's locals are known -/
section
variable {X : Cx} {pins : List (Addr × Obj)} {σ : L2.St} {H HZ : Hp} {s s1 : Shared}
theorem pe_actS {CXg : CXT} {Eg : XK} {Ng : List Str} {qg : Str} {sg : Scope} {g f c' : Addr} {cdg pm ctv : Value} {params : Arguments} {body : Expr} {scope : Scope} {k i : Nat} {a : Str} {pn : List (Addr × Obj)} {xe : Value → Shared → Prop} {W : WX} {E : XK} {tb : TE} {p1 p2 : Pos} (σ0 : L2.St)
    (I : Inv X pins σ H s) (L : LamS X.env.scope scope) (hf : s.heap.get? f = some (PySem.W.kla_obj "<lambda>" (X.env.qual ++ "<lambda>") params body scope (cloFrom X.env.cells scope.names []) pm c' ctv)) (hfn : H f = none) (hfr : f ∉ frs X.stack)
    (hbind : bindArgs (PySem.W.kla_fn "<lambda>" (X.env.qual ++ "<lambda>") params body scope (cloFrom X.env.cells scope.names []) pm (.ref c') ctv) ⟨[], []⟩ = pure []) (tk : L2.Takes ((cxOf CXg X.prog X.w X.K X.mg X.base Ng qg sg g cdg X.A X.stack s H Eg).tr pn xe) W)
    (hW : ∀ cls d H', E cls d H' → W cls d σ0 H') (hr : Room (k + 1) (X.A.deeper (envOfC qg sg s.heap.objs.size g cdg)))
    (hbody : ∀ (A : Around) (outer : List Env) (s : Shared) (H : Hp), Room k (A.deeper (lamEnv X scope s.heap.objs.size f c')) → PE (lamCx X A outer s H E scope f c') body tb) (hN : Ng[i]? = some a) (hv : Vis sg a)
    (hd : (a == ("__debug__" : Str)) = false := by decide) (hcd : (a == ("__classdict__" : Str)) = false := by decide) : PE ((cxOf CXg X.prog X.w X.K X.mg X.base Ng qg sg g cdg X.A X.stack s H Eg).tr pn xe) (.Call (.Name a p1) [] [] p2)
      (fun σZ HZ Q => σZ = σ0 ∧ σZ[i]? = some (some (.ref f)) ∧ HZ c' = some (CodeO c' (X.env.qual ++ "<lambda>")) ∧ tb σ HZ Q) := by
  refine ⟨fun pinsZ sZ σZ HZ Q IZ ⟨eσ, hs, hc, ht⟩ => ?_⟩
  subst eσ
  refine wpAny_Call_Name_kw (thn ((pe_var (pos := p1) (i := i) hN hv hd hcd).run pinsZ sZ σZ HZ (fun v H1 => v = .ref f ∧ H1 = HZ) IZ ⟨.ref f, hs, rfl, rfl⟩) fun u s1 hh => ?_)
  obtain ⟨v, H1, I1, r1, ev, eH⟩ := hh
  subst ev
  subst eH
  (obtain rfl : u = Value.ref f := r1)
  have there : s1.heap.get? f = some (PySem.W.kla_obj "<lambda>" (X.env.qual ++ "<lambda>") params body scope (cloFrom X.env.cells scope.names []) pm c' ctv) :=
    I1.base.keep f _ hf hfn hfr (fun z => nomatch (show f ∈ ([] : List Addr) from z))
  refine PySem.W.callWith_F0 ⟨_, _, _, _, there⟩ ?_
  have under : Un (frs X.stack) [] H H1 s.heap s1.heap := I1.base
  (obtain ⟨⟨oc, vs, t, hoc, hdc, hvc⟩, _, _⟩ := I1.hok c' _ hc)
  have ran : codeAny (model X.prog X.w) (X.A.deeper (envOfC qg sg s.heap.objs.size g cdg)) (.call (.ref f) ⟨[], []⟩) (CR (L2.CX X.prog X.w) (envOfC qg sg s.heap.objs.size g cdg :: X.stack) X.prog X.w H1 s1 Q E) s1 := by
    refine PySem.W.kla_callFunE hr.depth there rfl L.co L.gen rfl ⟨c', oc, vs, t, rfl, hoc, hdc, hvc⟩ ?_
    rw [hbind]
    refine wpAny_pure (wpAny_newFunctionEnv (fun y hy => (L.own y hy).2) (fun y hy => absurd hy (by simp)) (fun h₁ hns hsb => ⟨I1.nolimit.fresh _ hsb, ?_⟩) L.kind)
    (show codeAny _ _ (.expr body (lamEnv X scope s1.heap.objs.size f c')) _ _)
    have old : ∀ b o, s1.heap.get? b = some o → h₁.get? b = some o := fun b o e => hsb.extBut b o (Nat.ne_of_lt (Heap.lt_size e)) (Heap.get?_push_of_some _ e)
    have J : Inv (lamCx X (X.A.deeper (envOfC qg sg s.heap.objs.size g cdg)) (envOfC qg sg s.heap.objs.size g cdg :: X.stack) s1 H1 E scope f c') [] σ H1 { s1 with heap := h₁, toks := s1.toks + ([] : List (Str × Value)).length } :=
      lam_start2 I L I1.env0 hr.hd under hns old
    refine PySem.W.kla_codeExpr (wpAny_mono ((hbody _ _ s1 H1 (hr.deeper _)).run [] _ _ H1 Q J ht) (fun v s' hq => ?_) fun e s' hq => hq)
    (obtain ⟨w', H', J', rv, q⟩ := hq)
    (exact ⟨w', H', J'.os, J'.bare, J'.base, J'.hok, rv, q⟩)
  refine wpAny_call (codeAny_mono ran fun r s' hq => ?_)
  cases r with
  | error e => exact tk e s' (XE.of_call I1 (fun cls d H' h => hW cls d H' h) hq)
  | ok fl =>
    cases fl with
    | ret u => exact I1.after hq
    | next => exact False.elim hq
    | brk => exact False.elim hq
    | cont => exact False.elim hq
end
/-- the def that calls what it got: as GivesTo, its locals being told -/
def GivesS (X : Cx) (Ng : List Str) (x : Str) (sg : Scope) (g : Addr) (cdg : Value) (bg : List Stmt) (a : Str) (q : Str) (TT : (XK → Hp → VK → Prop) → Hp → VK → Prop) : Prop :=
  ∀ (f c' : Addr) (s : Shared) (H : Hp) (Q : VK) (tl : XK → Hp → VK → Prop),
    (∀ (σ0 : L2.St) (W : WX) (pn : List (Addr × Obj)) (xe : Value → Shared → Prop) (E : XK) (p1 p2 : Pos), L2.Takes ((cxOf C8.CX0 X.prog X.w X.K X.mg X.base Ng x sg g cdg X.A X.stack s H C8.E0).tr pn xe) W → (∀ cls d H', E cls d H' → W cls d σ0 H') →
      PE ((cxOf C8.CX0 X.prog X.w X.K X.mg X.base Ng x sg g cdg X.A X.stack s H C8.E0).tr pn xe) (.Call (.Name a p1) [] [] p2) (fun σZ HZ Q => σZ = σ0 ∧ σZ[0]? = some (some (.ref f)) ∧ HZ c' = some (CodeO c' q) ∧ tl E HZ Q)) →
    H c' = some (CodeO c' q) → TT tl H Q →
    ∃ t, PSs (cxOf C8.CX0 X.prog X.w X.K X.mg X.base Ng x sg g cdg X.A X.stack s H C8.E0).nox bg t ∧ t { nx := fun _ H' => Q .non H', rt := Q } (L2.start Ng [.ref f]) H
section
variable {X : Cx}
theorem pe_lamcallS {T : List (Addr × Str)} {TT : (XK → Hp → VK → Prop) → Hp → VK → Prop} {x a : Str} {g c P : Addr} {k : Nat} {pg : Arguments} {bg : List Stmt} {sg : Scope} {dV kV doc pm cdv ct oc : Value} {an od : Option Addr} {osl : Array (Option Value)} {Ng : List Str}
    {params : Arguments} {body : Expr} {scope : Scope} {t : XK → TE} {p lpos pos : Pos} (hg : Gl X x) (hm : X.mg x = some (.ref g)) (hk : PySem.W.keepIn X.K (.ref g) = true) (lk : X.K.lookup g = some ⟨oc, od, .func (PySem.W.fnOf x x pg bg sg dV kV doc pm an cdv ct), osl⟩)
    (hcg : PySem.W.codeIn X.K cdv x = true) (hb : L2.Binds X.K (PySem.W.fnOf x x pg bg sg dV kV doc pm an cdv ct) [a] []) (Sg : FnScope Ng [a] sg) (hNg : Ng[0]? = some a) (hva : Vis sg a) (hG : GivesS X Ng x sg g cdv bg a (X.env.qual ++ "<lambda>") TT)
    (TB : TabB X.base X.mg c P) (hcode : X.env.code = .ref c) (hmT : (P, X.env.qual ++ "<lambda>") ∈ T) (hu : ∀ p ∈ T, p.1 = P → p.2 = X.env.qual ++ "<lambda>") (hr : Room (k + 2) X.A) (L : LamS X.env.scope scope) (hdef : defaultsOf params X.env = ([], []))
    (hbind : ∀ (q : Str) (cl : List (Str × Addr)) (pm cv ctv : Value), bindArgs (PySem.W.kla_fn "<lambda>" q params body scope cl pm cv ctv) ⟨[], []⟩ = pure []) (hbody : ∀ (A : Around) (outer : List Env) (s : Shared) (H : Hp) (E : XK) (f c' : Addr), Room k (A.deeper (lamEnv X scope s.heap.objs.size f c')) → PE (lamCx X A outer s H E scope f c') body (t E))
    (hdb : (x == ("__debug__" : Str)) = false := by decide) (hd : (a == ("__debug__" : Str)) = false := by decide) (hcd : (a == ("__classdict__" : Str)) = false := by decide) : PE X (.Call (.Name x p) [.Lambda params body scope lpos] [] pos) (tLam T TT t) := by
  refine ⟨fun pins s σ H Q I ⟨hT, h⟩ => ?_⟩
  refine wpAny_Call_Name_kw (ld_glob I hg hm ?_ hdb)
  (refine PySem.W.callWith_K (h₀ := X.base) I.ok.mod.kin hk ?_ (by rfl) (by rfl))
  (show wpAny _ _ (spliced ((false, eval (.Lambda params body scope lpos) X.env) :: backTo pos (starEach [] X.env))) _ _ s)
  refine Calls.spliced_cons (lam_make2 I TB hcode hmT hu hT hdef (L.has I.ok) fun f c' pm' ctv H1 s' I1 eN T1 hf hfn hfr hco => ?_)
  refine Calls.spliced_nil ⟨I1.kIn, ?_⟩
  have ran : codeAny (model X.prog X.w) X.A (.call (.ref g) ⟨[.ref f], []⟩) (CR C8.CX0 X.stack X.prog X.w H1 s' Q C8.E0) s' := by
    refine run_ofS (N := Ng) (ps := [a]) (us := [.ref f]) (vs := [.ref f]) lk hcg Sg hr I1.env0 (hb s' [.ref f] I1.kIn rfl) (.cons rfl .nil) rfl fun hr' => ?_
    obtain ⟨t', ht', hq'⟩ := hG f c' s' H1 Q (fun E H' Q' => t E σ H' Q') (fun σ0 W pn xe E p1 p2 tk hW => pe_actS (i := 0) σ0 I1 L hf hfn hfr (hbind _ _ _ _ _) tk hW hr' (fun A outer s H hr2 => hbody A outer s H E f c' hr2) hNg hva hd hcd) hco (h H1 eN T1)
    (exact ⟨t', ht'.nox, hq'⟩)
  refine wpAny_call (codeAny_mono ran fun r s2 hq => ?_)
  cases r with
  | error e => exact False.elim hq
  | ok fl =>
    cases fl with
    | ret u => exact I1.after hq
    | next => exact False.elim hq
    | brk => exact False.elim hq
    | cont => exact False.elim hq
end
end K03

/-! xs.count(y), all flat -/
namespace L2
open PySem PySem.Spec PyProof.Rows
section
variable {X : Cx}
def rCntF (K : PySem.W.Frag) : V → List V → Hp → VK → Prop := fun x xs H Q => ∃ (p : Addr) (ys : List V) (y : V), x = .ref p ∧ xs = [y] ∧ SqL K H p ys ∧ flatV y = true ∧ ys.all flatV = true ∧ Q (.int (ys.countP fun z => eqV z y : Nat)) H
theorem cntF_eq {y : V} : ∀ {ys : List V} {us : List Value}, Vals ys us → ys.all flatV = true → us.countP (eqU y) = ys.countP fun z => eqV z y
  | _, _, .nil, _ => rfl
  | _, _, .cons (a := x) r rr, h => by
    obtain ⟨h1, h2⟩ := Bool.and_eq_true_iff.mp (show (flatV x && List.all _ flatV) = true from h)
    rw [List.countP_cons, List.countP_cons, cntF_eq rr h2, eqU_of r h1]
theorem mt_countF : MtR X "list.count" (rCntF X.K) := by
  (intro pins s σ H x xs v us Q I rx rxs h)
  obtain ⟨p, ys, y, rfl, rfl, hs, fy, fys, q⟩ := h
  cases rx
  cases rxs with
  | cons ry rt =>
    rename_i uy ut
    cases rt
    (obtain ⟨its, rv, ⟨⟨cls, dd, data, sl⟩, n, ho, hc, hdn, hd⟩, hlen⟩ := I.list hs)
    (simp only at hc hd)
    subst hc hd
    refine call_meets PySem.F.slot_list_count ⟨_, ho, rfl⟩ PySem.F.entry_list_count (PySem.F.args_list_count_2 _ _)
      (SeqAt.list_countAt p its.toArray n dd sl uy (eqU y)) ⟨ho, fun u' hu' => mem_eqAt ry fy rv fys u' (by simpa using hu'), ?_⟩
    have ec : its.toArray.toList.countP (eqU y) = ys.countP fun z => eqV z y := cntF_eq rv fys
    refine ⟨.int (ys.countP fun z => eqV z y : Nat), H, I.tok _, ⟨s.toks, ?_⟩, q⟩
    (show Value.int ((its.toArray.toList.countP (eqU y) : Nat) : Int) s.toks = Value.int ((ys.countP fun z => eqV z y : Nat) : Int) s.toks)
    rw [ec]
end
end L2

namespace K03
open L2 PySem PySem.Spec PyProof.Rows LamX
/-! ### _law_heard(lambda: ..) -/
abbrev sHeard : Stmt := top 60
abbrev nHeard : List Str := ["_law_call", "_law_caught", "_law_found", "error", "_law_marks", "_law_is_key"]
theorem scHeard : FnScope nHeard ["_law_call"] (defScope sHeard) := ⟨rfl, rfl, rfl, by decide +kernel, rfl, by decide +kernel, by decide +kernel⟩
/-- what _law_heard knows of the errors -/
structure HeardN (K : PySem.W.Frag) (mg : Str → Option Value) (CS CM CB CN CP CO : Addr) : Prop where
  gS : mg "SettledError" = some (.ref CS)
  gM : mg "Missing" = some (.ref CM)
  gB : mg "BadPairs" = some (.ref CB)
  gN : mg "NoKey" = some (.ref CN)
  gP : mg "Parted" = some (.ref CP)
  gO : mg "OtherSheet" = some (.ref CO)
  te : PySem.W.exmAny K (.ref CN) [.ref CS, .ref CM] = some true
  ec : ExcC K CN
  xf : XfC K CN
  nv : PySem.W.findIn K (.ref CN) "value" = some none
  kB : PySem.W.kitOne K (.ref CN) (.ref CB) = some false
  kN : PySem.W.kitOne K (.ref CN) (.ref CN) = some true
  kP : PySem.W.kitOne K (.ref CN) (.ref CP) = some false
  kO : PySem.W.kitOne K (.ref CN) (.ref CO) = some false
  kK : PySem.W.kitOne K (.ref CN) (.type "KeyError") = some true
  kV : PySem.W.kitOne K (.ref CN) (.type "ValueError") = some false
  isinst : mg "isinstance" = none
  keyE : mg "KeyError" = none
  valE : mg "ValueError" = none
theorem look_fV (v : V) : (fV v).lookup ("value" : Str) = some v := by
  simp [fV, List.lookup]
/-- heard: told, or the key that is none -/
def TTheard (CN : Addr) : (XK → Hp → VK → Prop) → Hp → VK → Prop := fun tl H Q => ∀ (Ech : XK) (R : VK) (H1 : Hp), Same H H1 →
  (∀ (d0 : Addr) (y : V) (H' : Hp), H' d0 = some (.xd (fV y)) → (∀ H'' p, Same H' H'' → H' p = none → H'' p = some (.tup [.str "key", y]) → Q (.ref p) H'') → Ech (.ref CN) (some d0) H') →
  (∀ (v : V) (H' : Hp), (∀ H'' p, Same H' H'' → H' p = none → H'' p = some (.tup [.str "told", v]) → Q (.ref p) H'') → R v H') → tl Ech H1 R
theorem heard_gives {X : Cx} {g CS CM CB CN CP CO : Addr} {cdg : Value} {q : Str} (Z : HeardN X.K X.mg CS CM CB CN CP CO) : GivesS X nHeard "_law_heard" (defScope sHeard) g cdg (defBody sHeard) "_law_call" q (TTheard CN) := by
  intro f c' s H Q tl act hc h
  have isV : ∀ {Y : Cx} {x : Str} {D : Addr} {p1 p2 p3 p4 p5 p6 : Pos} {kk : Nat}, True := fun {Y x D p1 p2 p3 p4 p5 p6 kk} => trivial
  refine ⟨_, pss_cons (ps_asg (pe_tup (pa_cons pe_non (pa_cons pe_non pa_nil))) (pg_tup rfl (pgs_cons (pg_name (i := 1) scHeard.nd rfl (.inl rfl)) (pgs_cons (pg_name (i := 2) scHeard.nd rfl (.inl rfl)) pgs_nil))))
    (pss_cons (ps_try_two_keep (i := 3) (tb := fun W D σ H => ∃ Ech : XK, (∀ cls d H', Ech cls d H' → W cls d σ H') ∧ σ[0]? = some (some (.ref f)) ∧ H c' = some (CodeO c' q) ∧ tl Ech H (fun v H' => gName 2 v σ H' D.nx)) (ts := fun _ _ _ => tAsg (tVar 3) (gName 1)) rfl rfl rfl scHeard.nd rfl rfl ⟨rfl, by decide, .inl Z.gS⟩ ⟨rfl, by decide, .inl Z.gM⟩
        (fun W pn xe tk _ => ⟨fun pins s' σ H' D I ⟨Ech, hW, h1, h2, h3⟩ => (pss_one (ps_set (i := 2) scHeard.nd rfl (.inl rfl) (act σ W pn xe Ech _ _ tk hW))).run pins s' σ H' D I ⟨rfl, h1, h2, h3⟩⟩)
        (fun a oe cls d pn hz hf => pss_one (ps_set (i := 1) scHeard.nd rfl (.inl rfl) (pv 3))))
    (pss_cons (ps_if (pt_cmpR op_isN (pv 1) pe_non (nomark _)) (pss_one (ps_ret (pe_tup (pa_cons pe_str (pa_cons (pv 2) pa_nil))))) pss_nil)
    (pss_cons (ps_set (i := 4) scHeard.nd rfl (.inl rfl) (pe_lst (pa_cons (pe_callB (call_isV Z.ec) (by rfl) Z.isinst (by decide +kernel) (pa_cons (pv 1) (pa_cons (pe_glob (v := .ref CB) (by rfl) Z.gB rfl) pa_nil)))
        (pa_cons (pe_callB (call_isV Z.ec) (by rfl) Z.isinst (by decide +kernel) (pa_cons (pv 1) (pa_cons (pe_glob (v := .ref CN) (by rfl) Z.gN rfl) pa_nil))) (pa_cons (pe_callB (call_isV Z.ec) (by rfl) Z.isinst (by decide +kernel) (pa_cons (pv 1) (pa_cons (pe_glob (v := .ref CP) (by rfl) Z.gP rfl) pa_nil))) pa_nil)))))
    (pss_cons (ps_set (i := 4) scHeard.nd rfl (.inl rfl) (pe_op op_cat (pv 4) (pe_lst (pa_cons (pe_callB (call_isV Z.ec) (by rfl) Z.isinst (by decide +kernel) (pa_cons (pv 1) (pa_cons (pe_glob (v := .ref CO) (by rfl) Z.gO rfl) pa_nil))) pa_nil))))
    (pss_cons (ps_set (i := 5) scHeard.nd rfl (.inl rfl) (pe_callB (call_isV Z.ec) (by rfl) Z.isinst (by decide +kernel) (pa_cons (pv 1) (pa_cons (pe_glob (v := .ref CN) (by rfl) Z.gN rfl) pa_nil))))
    (pss_cons (ps_if (PW.pt (pw_or (pt_cmpR op_ne (pe_bm PySem.F.plainAttrs_list PySem.F.slot_list_count PySem.F.type_list_count mt_countF (pv 4) (pa_cons pe_bl pa_nil)) pe_int (nomark _))
        (pw_or1 (pt_cmpR op_ne (pe_callB (call_isV Z.ec) (by rfl) Z.isinst (by decide +kernel) (pa_cons (pv 1) (pa_cons (pe_bltn (v := .ty "KeyError") (by rfl) Z.keyE PyProof.Rows.Boot.«KeyError» rfl) pa_nil))) (pv 5) (nomark _))))) (pss_one (ps_ret (pe_tup (pa_cons pe_str (pa_cons pe_non pa_nil))))) pss_nil)
    (pss_cons (ps_if (pt_cmpR op_eq (pe_callB (call_isV Z.ec) (by rfl) Z.isinst (by decide +kernel) (pa_cons (pv 1) (pa_cons (pe_bltn (v := .ty "ValueError") (by rfl) Z.valE PyProof.Rows.Boot.«ValueError» rfl) pa_nil))) (pv 5) (nomark _)) (pss_one (ps_ret (pe_tup (pa_cons pe_str (pa_cons pe_non pa_nil))))) pss_nil)
    (pss_one (ps_ret (pe_tup (pa_cons (pe_ix ix_list (pe_lst (pa_cons pe_str (pa_cons pe_str (pa_cons pe_str (pa_cons pe_str pa_nil))))) (pe_bm PySem.F.plainAttrs_list PySem.F.slot_list_index PySem.F.type_list_index mt_index (pv 4) (pa_cons pe_bl pa_nil)) (fun _ _ => rfl)) (pa_cons (pe_exv Z.xf Z.nv (pv 1)) pa_nil)))))))))))), ?_⟩
  refine ⟨(by show 2 ≤ sizeLine; decide), fun T nT => ?_⟩
  have sT := same_upd (o := .tup [V.non, V.non]) nT
  refine ⟨T, _, rfl, SqT.of upd_same, rfl, .non, _, rfl, .non, _, rfl, rfl, ?_⟩
  refine ⟨fun cls d H' => wTwoK X.K (.ref CS) (.ref CM) 3 (fun _ _ _ => tAsg (tVar 3) (gName 1)) _ cls d _ H', fun cls d H' z => z, rfl, sT _ _ hc, h _ _ _ sT (fun d0 y H' hd k => ?_) (fun v H' k => ?_)⟩
  · refine ⟨Z.te, fun a na => ⟨.ref a, rfl, ?_⟩⟩
    have s1 := same_upd (o := ExV (.ref CN) (some d0) a) na
    have ea : (upd H' a (ExV (.ref CN) (some d0) a)) a = some (ExV (.ref CN) (some d0) a) := upd_same
    have ed := s1 _ _ hd
    (refine ⟨_, rfl, rfl, _, rfl, ?_⟩)
    refine ite2 (fun q => by cases of_decide_eq_true q) (fun _ => ?_)
    refine ⟨_, rfl, a, d0, fV y, .ref CB, .ref CB, false, rfl, ea, ed, fun u r => r, Z.kB, _, rfl, a, d0, fV y, .ref CN, .ref CN, true, rfl, ea, ed, fun u r => r, Z.kN, _, rfl, a, d0, fV y, .ref CP, .ref CP, false, rfl, ea, ed, fun u r => r, Z.kP, (by show 3 ≤ sizeLine; decide), fun L1 n1 => ?_⟩
    have s2 := same_upd (o := .lst [V.bl false, V.bl true, V.bl false]) n1
    have e1 := upd_same (H := upd H' a (ExV (.ref CN) (some d0) a)) (a := L1) (o := .lst [V.bl false, V.bl true, V.bl false])
    have ea3 := s2 _ _ ea
    have ed3 := s2 _ _ ed
    refine ⟨_, rfl, _, rfl, a, d0, fV y, .ref CO, .ref CO, false, rfl, ea3, ed3, fun u r => r, Z.kO, (by show 1 ≤ sizeLine; decide), fun L2 n2 => ?_⟩
    refine ⟨L1, L2, _, _, rfl, rfl, get_new e1 n2, upd_same, (by decide), fun L3 n3 => ?_⟩
    have s35 := (s2.trans (same_upd (o := .lst [V.bl false]) n2)).trans (same_upd (o := .lst ([V.bl false, V.bl true, V.bl false] ++ [V.bl false])) n3)
    have s5 := s1.trans s35
    have ea5 := s35 _ _ ea
    have ed5 := s35 _ _ ed
    have e5 := upd_same (H := upd (upd (upd H' a (ExV (.ref CN) (some d0) a)) L1 (.lst [V.bl false, V.bl true, V.bl false])) L2 (.lst [V.bl false])) (a := L3) (o := .lst ([V.bl false, V.bl true, V.bl false] ++ [V.bl false]))
    refine ⟨_, rfl, a, d0, fV y, .ref CN, .ref CN, true, rfl, ea5, ed5, fun u r => r, Z.kN, ?_⟩
    refine ⟨.ref L3, rfl, .inl ⟨rfl, _, SqL.of e5⟩, L3, _, .bl true, rfl, rfl, SqL.of e5, rfl, rfl, rfl, _, rfl, ?_⟩
    refine ite2 (fun z => by cases z) (fun _ => ?_)
    refine ⟨_, rfl, a, d0, fV y, .ty "KeyError", .type "KeyError", true, rfl, ea5, ed5, fun u r => r, Z.kK, _, rfl, rfl, _, rfl, ?_⟩
    refine ite2 (fun z => by cases z) (fun _ => ?_)
    refine ⟨_, rfl, a, d0, fV y, .ty "ValueError", .type "ValueError", false, rfl, ea5, ed5, fun u r => r, Z.kV, _, rfl, rfl, _, rfl, ?_⟩
    refine ite2 (fun z => by cases z) (fun _ => ?_)
    refine ⟨(by show 4 ≤ sizeLine; decide), fun L4 n4 => ?_⟩
    have s6 := same_upd (o := .lst [V.str "pairs", V.str "key", V.str "parted", V.str "sheet"]) n4
    refine ⟨.ref L3, rfl, .inl ⟨rfl, _, SqL.of (s6 _ _ e5)⟩, L3, _, .bl true, 1, .bl true, rfl, rfl, SqL.of (s6 _ _ e5), rfl, rfl, rfl, rfl, (fun m z' hm hz => ?_), L4, _, 1, .str "key", rfl, rfl, SqL.of upd_same, rfl, _, rfl, a, d0, fV y, y, rfl, s6 _ _ ea5, s6 _ _ ed5, look_fV _, (by show 2 ≤ sizeLine; decide), fun p np => ?_⟩
    · match m, hm, hz with
      | 0, _, hz => cases hz; rfl
      | n + 1, hm, _ => omega
    · exact k _ p ((s5.trans s6).trans (same_upd np)) ((s5.trans s6).free np) upd_same
  · (refine ⟨_, rfl, rfl, _, rfl, ?_⟩)
    refine ite2 (fun _ => ?_) (fun q => absurd (decide_eq_true rfl) q)
    exact ⟨_, rfl, (by show 2 ≤ sizeLine; decide), fun p np => k _ p (same_upd np) np upd_same⟩
end K03

namespace K03
open L2 PySem PySem.Spec PyProof.Rows
abbrev sAreWorths : Stmt := top 32
section
variable {base : Heap} {P : Program} {w : World} {K : PySem.W.Frag} {mg : Str → Option Value}
def spAreW (K : PySem.W.Frag) (C CR : Addr) : Sp := fun vs H Q _ => ∃ (S wv : Addr) (z : Str) (ks : List Key) (rows : List RuleL) (eds : List (List Nat)) (r : List Nat), vs = [.ref S, .ref wv] ∧ ShAt K C CR H S z ks rows eds ∧ (ks.map (fun q : Key => q.1)).Nodup ∧ ks.length ≤ 3 ∧ KnOk ks (full r) ∧ SqT K H wv (rowV r) ∧
  ∀ H', Same H H' → Q (.bl true) H'
abbrev nAreW : List Str := ["sheet", "worths", "name", "worth"]
theorem scAreW : FnScope nAreW ["sheet", "worths"] (defScope sAreWorths) := ⟨rfl, rfl, rfl, by decide +kernel, rfl, by decide +kernel, by decide +kernel⟩
theorem ok_areW {f C CR : Addr} {fd : FuncData} (F : Fun K "are_worths" "are_worths" sAreWorths f fd) (T : Txt8 K mg) (TS : ShK P w K mg base C) (GW : Has P w K mg base "is_worth" 3 ["sheet", "key", "worth"] (spIsW K C CR)) : FnOk P w K mg base CX0 4 f fd ["sheet", "worths"] (spAreW K C CR) := by
  refine F.ok scAreW (fun vs H Q E h => ?_) (fun cdv A outer s H vs Q E hr h => ?_)
  · obtain ⟨S, wv, z, ks, rows, eds, r, rfl, _⟩ := h
    rfl
  · obtain ⟨S, wv, z, ks, rows, eds, r, rfl, hS, hn, h3, ok, hw, k⟩ := h
    have r2 : Room 2 _ := hr.mono (by decide)
    refine ⟨_, pss_cons (ps_if (PW.pt (pw_or (pt_not (pt_val (pe_callB call_isi (by rfl) T.isinst (by decide +kernel) (pa_cons (pv 1) (pa_cons (pe_bltn (v := .ty "tuple") (by rfl) T.tuple PyProof.Rows.boot_tuple rfl) pa_nil)))))
        (pw_or1 (pt_cmpR op_ne (pe_callB call_len_seq (by rfl) T.len PySem.boot_len (pa_cons (pv 1) pa_nil)) (pe_callB call_len_seq (by rfl) T.len PySem.boot_len (pa_cons (pe_get TS.pN TS.cl r2 (pv 0)) pa_nil)) (nomark _))))) (pss_one (ps_ret pe_bl)) pss_nil)
      (pss_one (ps_ret (pe_callB (cr_all rfl) (by rfl) T.all (by decide +kernel) (pa_cons (pe_lc (own := [("name", 2), ("worth", 3)]) (g := gTup K 2 (gCons (gName 2) (gCons (gName 3) gNil))) (tt := tYes) rfl scAreW.nd
          (pi_zipM false false (by rfl) T.zip (pa_cons (pe_get TS.pN TS.cl r2 (pv 0)) (pa_cons (pv 1) pa_nil)))
          (blkOk_by (N := nAreW) (sc := defScope sAreWorths) (by decide +kernel)) (fun _ _ _ _ _ => pg_tup rfl (pgs_cons (pg_name (i := 2) scAreW.nd rfl (Or.inl rfl)) (pgs_cons (pg_name (i := 3) scAreW.nd rfl (Or.inl rfl)) pgs_nil))) (fun _ _ _ _ _ => pts_nil)
          (fun _ _ _ _ _ => pe_has GW hr (pa_cons (pv 0) (pa_cons (pv 2) (pa_cons (pv 3) pa_nil))))) pa_nil)))), ?_⟩
    obtain ⟨dxs, n, sz, e, q, h1, hN, _, _, _⟩ := hS.at_
    have lk : ks.length = r.length := by
      have := ok.length
      unfold full at this
      rw [List.length_map] at this
      exact this
    have ln : (namesV ks).length = ks.length := by unfold namesV; rw [List.length_map]
    have lr : (rowV r).length = r.length := by unfold rowV; rw [List.length_map]
    have lm : ks.length = min (namesV ks).length (rowV r).length := by omega
    refine ⟨_, rfl, _, _, _, _, true, rfl, .ty "tuple", sqT_ty hw, kit_ty (r := true) (by decide +kernel), true, rfl, ?_⟩
    refine ite2 (fun z => by cases z) (fun _ => ?_)
    refine ⟨_, rfl, wv, _, rfl, .inr hw, _, rfl, S, dxs, _, rfl, h1, S, dxs, _, _, rfl, h1, sf_names, n, _, rfl, .inr hN.sq, rfl, _, rfl, ?_⟩
    refine ite2 (fun z => ?_) (fun _ => ?_)
    · rw [ln, lr, lk] at z
      have : (!decide (V.int (r.length : Int) = V.int (r.length : Int))) = true := z
      simp at this
    refine ⟨_, rfl, S, dxs, _, rfl, h1, S, dxs, _, _, rfl, h1, sf_names, _, rfl, n, wv, _, _, rfl, hN.sq, hw, fun D nD => ?_⟩
    refine lc_it (walk_zipM (ka := false) (kb := false) (K := K) (xs := namesV ks) (ys := rowV r) lm) (fun i H' => Same H H' ∧ H' D = some (.lst ((List.replicate i true).map V.bl)) ∧ i ≤ 3) ⟨same_upd nD, upd_same, by decide⟩ (fun i H' _ z => ⟨sqT_same z.1 hN.sq, sqT_same z.1 hw⟩) ?_ ?_
    · rintro i x H3 H4 hi ⟨s3, hD, hi3⟩ ⟨T1, x1, x2, rfl, nT, rfl, e1, e2⟩
      dsimp only at e1 e2
      unfold namesV at e1
      unfold rowV at e2
      rw [List.getElem?_map] at e1 e2
      obtain ⟨k1, hk, rfl⟩ := Option.map_eq_some_iff.mp e1
      obtain ⟨wo, ho, rfl⟩ := Option.map_eq_some_iff.mp e2
      have hD4 := get_new (o := .tup [V.str k1.1, V.int (wo : Int)]) hD nT
      have s4 := s3.trans (same_upd (o := .tup [V.str k1.1, V.int (wo : Int)]) nT)
      refine ⟨T1, _, rfl, SqT.of upd_same, rfl, .str k1.1, _, rfl, .int (wo : Int), _, rfl, rfl, ?_⟩
      refine ⟨rfl, _, rfl, _, rfl, _, rfl, S, z, ks, rows, eds, i, wo, k1, rfl, hS.pres (Pres.of s4), hn, hk, paired_kn ok hk (by unfold full; rw [List.getElem?_map, ho]; rfl), _, hD4, ?_, same_new s4 nD, ?_, by omega⟩
      · rw [List.length_map, List.length_replicate]
        exact small1000 (by omega)
      · rw [upd_same, List.replicate_succ', List.map_append]
        rfl
    · rintro H3 ⟨s3, hD, _⟩
      refine ⟨D, _, rfl, SqL.of hD, ?_⟩
      have ea : (List.replicate ks.length true).all id = true := by simp
      rw [ea]
      exact k H3 s3
/-! ### View.whole -/
def spWhole (K : PySem.W.Frag) (C CR CV : Addr) : Sp := fun vs H Q _ => ∃ (S wv : Addr) (z : Str) (ks : List Key) (rows : List RuleL) (eds : List (List Nat)) (r : List Nat), vs = [.ref S, .ref wv] ∧ ShAt K C CR H S z ks rows eds ∧ (ks.map (fun q : Key => q.1)).Nodup ∧ ks.length ≤ 3 ∧ KnOk ks (full r) ∧ SqT K H wv (rowV r) ∧
  ∀ H' v, Same H H' → H v = none → VwAt K CV H' v S ks (full r) → Q (.ref v) H'
theorem scWhole : FnScope ["sheet", "worths"] ["sheet", "worths"] (defScope sVWhole) := ⟨rfl, rfl, rfl, by decide +kernel, rfl, by decide +kernel, by decide +kernel⟩
theorem ok_whole {f C CR CV : Addr} {fd : FuncData} (F : Fun K "whole" "View.whole" sVWhole f fd) (GA : Has P w K mg base "are_worths" 4 ["sheet", "worths"] (spAreW K C CR)) (GV : Has P w K mg base "view_of" 7 ["sheet", "worths"] (spVO false K C CR CV)) : FnOk P w K mg base CX0 8 f fd ["sheet", "worths"] (spWhole K C CR CV) := by
  refine F.ok scWhole (fun vs H Q E h => ?_) (fun cdv A outer s H vs Q E hr h => ?_)
  · obtain ⟨S, wv, z, ks, rows, eds, r, rfl, _⟩ := h
    rfl
  · obtain ⟨S, wv, z, ks, rows, eds, r, rfl, hS, hn, h3, ok, hw, k⟩ := h
    have r4 : Room 4 _ := hr.mono (by decide)
    refine ⟨_, pss_cons (ps_if (pt_not (pt_val (pe_has GA r4 (pa_cons (pv 0) (pa_cons (pv 1) pa_nil))))) (pss_one ps_never) pss_nil)
      (pss_one (ps_ret (pe_has GV hr (pa_cons (pv 0) (pa_cons (pv 1) pa_nil))))), ?_⟩
    refine ⟨_, rfl, _, rfl, S, wv, z, ks, rows, eds, r, rfl, hS, hn, h3, ok, hw, fun H1 s1 => ⟨_, rfl, ?_⟩⟩
    refine ite2 (fun z => by cases z) (fun _ => ?_)
    refine ⟨_, rfl, _, rfl, S, wv, z, ks, rows, eds, full r, rfl, hS.pres (Pres.of s1), hn, h3, ok, ?_, fun H2 v s2 nv hv => k H2 v (s1.trans s2) (s1.free nv) hv⟩
    show SqT K H1 wv _
    rw [full_wV]
    exact sqT_same s1 hw
end
end K03

namespace K03
open L2 PySem PySem.Spec PyProof.Rows LamX
abbrev sKR : Stmt := top 61
/-! ### things that are no key -/
theorem upper_low {z : Str} (h : ∀ c ∈ tx z, Low c) : Txt.upper z = ⟨z.cps.map fun c => c - 32⟩ := by
  have all : ∀ k : Nat, k < 26 → PySem.Unicode.upperOf (97 + k) = [97 + k - 32] := by decide +kernel
  unfold Txt.upper
  rw [placed_single z (fun _ c => PySem.Unicode.upperOf c) (fun c => c - 32) (fun i c e => ?_)]
  have hc := h c (List.mem_of_getElem? e)
  unfold Low at hc
  have q := all (c - 97) (by omega)
  have e : 97 + (c - 97) = c := by omega
  rw [e] at q
  exact q
theorem upper_len {z : Str} (h : ∀ c ∈ tx z, Low c) : (Txt.upper z).length = z.length := by
  rw [upper_low h]
  show (Array.map _ z.cps).size = z.cps.size
  simp
theorem upper_mem {z : Str} (h : ∀ c ∈ tx z, Low c) : ∀ c ∈ tx (Txt.upper z), 65 ≤ c ∧ c ≤ 90 := by
  rw [upper_low h]
  intro c hc
  have hc' : c ∈ (Array.map (fun c => c - 32) z.cps).toList := hc
  rw [Array.toList_map] at hc'
  obtain ⟨b, hb, rfl⟩ := List.mem_map.mp hc'
  have := h b hb
  unfold Low at this
  omega
def thD (n0 : Str) : List PyData := [.none, .int 0, .bool true, .str "", .str (n0 ++ ("x" : Str)), .str (Txt.upper n0), .tuple [], .list [], .dict [], .list [.str n0], .tuple [.str n0]]
theorem fit_low {z : Str} (h : ∀ c ∈ tx z, c < 128) (l : z.length ≤ 20) : Fit 20 0 (.str z) := by
  refine fit_str ?_ l
  unfold lowC
  rw [List.all_eq_true]
  intro c hc
  have := h c hc
  have e : (16 : Nat) ^ 8 = 4294967296 := by decide
  exact decide_eq_true (by omega)
theorem tx_app (a b : Str) : tx (a ++ b) = tx a ++ tx b := by
  show TL.tl (a ++ b) = TL.tl a ++ TL.tl b
  exact TL.tl_append a b
theorem th_fit {n0 : Str} (h : IsNm n0) : ∀ d ∈ thD n0, Fit 100 1 d := by
  have h1 : ∀ c ∈ tx n0, c < 128 := fun c hc => by have := h.low c hc; unfold Low at this; omega
  have l := h.len
  have x1 : ("x" : Str).length = 1 := by decide +kernel
  have x2 : tx ("x" : Str) = [120] := by decide +kernel
  intro d hd
  unfold thD at hd
  simp only [List.mem_cons, List.not_mem_nil, or_false] at hd
  have F0 : Fit 20 0 (.str n0) := fit_low h1 (by omega)
  rcases hd with rfl | rfl | rfl | rfl | rfl | rfl | rfl | rfl | rfl | rfl | rfl
  · exact fit_none.mono (by decide) (by decide)
  · exact ⟨rfl, rfl, by decide, by decide +kernel⟩
  · exact (fit_bool true).mono (by decide) (by decide)
  · exact (fit_low (z := "") (fun c hc => by
      have e : tx ("" : Str) = [] := by decide +kernel
      rw [e] at hc
      cases hc) (by decide +kernel)).mono (by decide) (by decide)
  · refine (fit_low (fun c hc => ?_) ?_).mono (by decide) (by decide)
    · rw [tx_app] at hc
      rcases List.mem_append.mp hc with hc | hc
      · exact h1 c hc
      · rw [x2] at hc
        have := List.mem_singleton.mp hc
        omega
    · rw [Str.length_append]
      omega
  · refine (fit_low (fun c hc => ?_) ?_).mono (by decide) (by decide)
    · have := upper_mem h.low c hc
      omega
    · rw [upper_len h.low]
      omega
  · exact ⟨rfl, rfl, by decide, by decide⟩
  · exact ⟨rfl, rfl, by decide, by decide⟩
  · exact ⟨rfl, rfl, by decide +kernel, by decide +kernel⟩
  · exact (fit_lst (n := 1) (l := [.str n0]) (fun d hd => by rw [List.mem_singleton.mp hd]; exact F0) (Nat.le_refl 1)).mono (by decide) (by decide)
  · exact (fit_tup (n := 1) (l := [.str n0]) (fun d hd => by rw [List.mem_singleton.mp hd]; exact F0) (Nat.le_refl 1)).mono (by decide) (by decide)
theorem th_no {n0 : Str} {l : List Str} (h : IsNm n0) (hl : ∀ x ∈ l, IsNm x) (hL : ∀ x ∈ l, x.length = n0.length) : ∀ d ∈ thD n0, inS d l = false := by
  intro d hd
  unfold thD at hd
  simp only [List.mem_cons, List.not_mem_nil, or_false] at hd
  have nostr : ∀ d : PyData, (∀ z, d ≠ .str z) → inS d l = false := fun d hd => by
    refine Bool.eq_false_iff.mpr fun q => ?_
    obtain ⟨x, e, _⟩ := inS_get q
    exact hd x e
  have str : ∀ z : Str, z ∉ l → inS (.str z) l = false := fun z hz => by
    rw [inS_str]
    exact decide_eq_false hz
  rcases hd with rfl | rfl | rfl | rfl | rfl | rfl | rfl | rfl | rfl | rfl | rfl
  · exact nostr _ fun z e => nomatch e
  · exact nostr _ fun z e => nomatch e
  · exact nostr _ fun z e => nomatch e
  · refine str _ fun hm => ?_
    have := (hl _ hm).pos
    have e : ("" : Str).length = 0 := by decide +kernel
    omega
  · refine str _ fun hm => ?_
    have := hL _ hm
    rw [Str.length_append] at this
    have x1 : ("x" : Str).length = 1 := by decide +kernel
    omega
  · refine str _ fun hm => ?_
    have a := (hl _ hm).pos
    have b : (tx (Txt.upper n0)).length = (Txt.upper n0).length := by
      show (Txt.upper n0).cps.toList.length = (Txt.upper n0).cps.size
      simp
    cases e : tx (Txt.upper n0) with
    | nil =>
      rw [e] at b
      simp at b
      omega
    | cons c r =>
      have m : c ∈ tx (Txt.upper n0) := by rw [e]; exact List.mem_cons_self
      have u := upper_mem h.low c m
      have w := (hl _ hm).low c m
      unfold Low at w
      omega
  · exact nostr _ fun z e => nomatch e
  · exact nostr _ fun z e => nomatch e
  · exact nostr _ fun z e => nomatch e
  · exact nostr _ fun z e => nomatch e
  · exact nostr _ fun z e => nomatch e
/-! ### any value, whatever lambdas are made -/
mutual
theorem Av.ext {H H' : Hp} (s : ExtN H H') : ∀ {v : V} {d : PyData}, Av H v d → Av H' v d
  | _, _, .non => .non
  | _, _, .bl b => .bl b
  | _, _, .int i => .int i
  | _, _, .str x => .str x
  | _, _, .lst e n a => .lst (s _ _ e fun _ z => nomatch z) n (AvAll.ext s a)
  | _, _, .tup e a => .tup (s _ _ e fun _ z => nomatch z) (AvAll.ext s a)
  | _, _, .dic e => .dic (s _ _ e fun _ z => nomatch z)
theorem AvAll.ext {H H' : Hp} (s : ExtN H H') : ∀ {vs : List V} {ds : List PyData}, AvAll H vs ds → AvAll H' vs ds
  | _, _, .nil => .nil
  | _, _, .cons a b => .cons (Av.ext s a) (AvAll.ext s b)
end
theorem AvAll.get {H : Hp} : ∀ {vs : List V} {ds : List PyData} {i : Nat} {x : V}, AvAll H vs ds → vs[i]? = some x → ∃ d, ds[i]? = some d ∧ Av H x d
  | _, _, 0, _, .cons a _, e => by
    cases e
    exact ⟨_, rfl, a⟩
  | _, _, i + 1, _, .cons _ b, e => AvAll.get (i := i) b e
  | _, _, _, _, .nil, e => by simp at e
theorem AvAll.length {H : Hp} : ∀ {vs : List V} {ds : List PyData}, AvAll H vs ds → vs.length = ds.length
  | _, _, .nil => rfl
  | _, _, .cons _ b => congrArg (· + 1) (AvAll.length b)
section
variable {K : PySem.W.Frag} {C CR CV CN PT : Addr} {D : Ends} {H : Hp} {v S : Addr} {z : Str} {ks : List Key} {rows : List RuleL} {eds : List (List Nat)} {kn : Known}
abbrev rdHeard (K : PySem.W.Frag) (C CR CV CN PT : Addr) (q : Str) (i : Nat) (te : TE) : TS :=
  tIfS (tTest (tOp rNe (tCB rReprV (tCons (tLam [(PT, q)] (TTheard CN) fun E => tOwnGetX CV (spVGetA K C CR CV CN) (fun _ => E) (tVar 0) (tVar i)) tNil)) (tCB rReprV (tCons te tNil)))) (tRet (tC (V.bl false))) tNext
theorem rd_heard {q : Str} {i : Nat} {te : TE} {σ : L2.St} {x : V} {d due : PyData} (h0 : σ[0]? = some (some (.ref v))) (hi : σ[i]? = some (some x)) (hT : Tabs [(PT, q)] H) (hS : ShAt K C CR H S z ks rows eds) (g : SG ks eds) (hv : VwAt K CV H v S ks kn) (hx : Av H x d)
    (told : ∀ (j : Nat) (k : Key) (w : Nat), d = .str k.1 → ks[j]? = some k → kn[j]? = some (some w) → due = .tuple [.str "told", .int (w : Int)]) (nok : inS d (hNames ks kn) = false → due = .tuple [.str "key", d]) (ft : Fit 400 3 due)
    (hte : ∀ (H' : Hp) (Q : VK), ExtN H H' → (∀ y H'', Same H' H'' → Av H'' y due → Q y H'') → te σ H' Q) (k : ∀ H', ExtN H H' → Tabs [(PT, q)] H' → D.nx σ H') : rdHeard K C CR CV CN PT q i te D σ H := by
  obtain ⟨f1, f2, f3⟩ := ft.repr (by decide) (by decide)
  have fin : ∀ (H8 : Hp) (fp : Addr), ExtN H H8 → Tabs [(PT, q)] H8 → Av H8 (.ref fp) due → rReprV [.ref fp] H8 fun x H1 => tCB rReprV (tCons te tNil) σ H1 fun y H2 => rNe x y H2 fun x' H' => ∃ k, x' = .bl k ∧ if k = true then tRet (tC (V.bl false)) D σ H' else tNext D σ H' := by
    intro H8 fp e8 T8 hf
    refine ⟨.ref fp, due, rfl, hf, f1, f2, f3, ?_⟩
    refine hte H8 _ e8 fun y H9 s9 hy => ?_
    refine ⟨y, due, rfl, hy, f1, f2, f3, ?_⟩
    refine ⟨rfl, _, rfl, ?_⟩
    refine ite2 (fun z => ?_) (fun _ => k H9 (e8.trans (ExtN.of s9)) (T8.ext s9))
    simp at z
  refine ⟨hT, fun H5 eN T5 => ?_⟩
  intro Ech R H6 s6 kP kT
  have eN6 : ExtN H H6 := eN.trans (ExtN.of s6)
  have P6 : Pres H H6 := Pres.ext eN6
  have T6 : Tabs [(PT, q)] H6 := T5.ext s6
  have hx6 := hx.ext eN6
  refine ⟨_, h0, _, hi, ⟨v, rfl, (hv.pres P6).ins⟩, v, S, z, ks, rows, eds, kn, x, d, rfl, hS.pres P6, g.nd, hv.pres P6, hx6, fun j k1 w e1 e2 e3 => ?_, fun hno => ?_⟩
  · refine kT _ H6 fun H8 fp s8 nf hf => fin H8 fp (eN6.trans (ExtN.of s8)) (T6.ext s8) ?_
    rw [told j k1 w e1 e2 e3]
    exact .tup hf (.cons (.str _) (.cons (.int _) .nil))
  · intro d7 H7 s7 nd hd
    refine kP d7 x H7 hd fun H8 fp s8 nf hf => fin H8 fp (eN6.trans (ExtN.of (s7.trans s8))) (T6.ext (s7.trans s8)) ?_
    rw [nok hno]
    exact .tup hf (.cons (.str _) (.cons (hx6.same (s7.trans s8)) .nil))
end
end K03

namespace K03
open L2 PySem PySem.Spec PyProof.Rows LamX LZ3
/-! ### a def whose code object is known (it makes lambdas), called where no repr runs -/
structure FunC (K : PySem.W.Frag) (x qual : Str) (st : Stmt) (f : Addr) (fd : FuncData) (c : Addr) : Prop where
  ex : ∃ (oc : Value) (od : Option Addr) (kV doc pm : Value) (an : Option Addr) (ct : Value) (osl : Array (Option Value)),
    fd = PySem.W.fnOf x qual (defArgs st) (defBody st) (defScope st) .none kV doc pm an (.ref c) ct ∧ K.lookup f = some ⟨oc, od, .func fd, osl⟩ ∧ PySem.W.codeIn K (.ref c) qual = true
  kp : PySem.W.keepIn K (.ref f) = true
section
variable {base : Heap} {P : Program} {w : World} {K : PySem.W.Frag} {mg : Str → Option Value}
theorem FunC.okG {x qual : Str} {st : Stmt} {f c : Addr} {fd : FuncData} {N ps : List Str} {k : Nat} {sp : Sp} (F : FunC K x qual st f fd c) (S : FnScope N ps (defScope st)) (len : ∀ vs H Q E, sp vs H Q E → vs.length = ps.length)
    (hbody : ∀ (A : Around) (outer : List Env) (s : Shared) (H : Hp) (vs : List V) (Q : VK) (E : XK), A.guards = some [] → Room k (A.deeper (envOfC qual (defScope st) s.heap.objs.size f (.ref c))) → sp vs H Q E →
      ∃ t, PSs (cxOf CX0 P w K mg base N qual (defScope st) f (.ref c) A outer s H E).nox (defBody st) t ∧ t { nx := fun _ H' => Q .non H', rt := Q } (L2.start N vs) H) : FnG P w K mg base (k + 1) f fd ps sp := by
  (obtain ⟨oc, od, kV, doc, pm, an, ct, osl, rfl, lk, hcd⟩ := F.ex)
  refine ⟨len, fun A outer s H args us vs Q E hg hr e0 hb r hsp => ?_⟩
  have nArgs := len _ _ _ _ hsp
  have inK : K.In s.heap := e0.mod.kin.keeps fun b o e => (e0.bs b o e).1
  have noLim : s.heap.NoLimit := e0.mod.nolimit.keeps fun b o e => (e0.bs b o e).1
  have kinds : ∀ y ∈ ps.zip us, (defScope st).names.lookup y.1 = some .local ∨ ((defScope st).names.lookup y.1 = some .cell ∧ ((cellsFrom (s.heap.objs.size + 1) (defScope st).names []).lookup y.1).isSome = true) := fun y hy => by
    rcases S.par y.1 (List.of_mem_zip (a := y.1) (b := y.2) hy).1 with q | q
    · exact Or.inl q
    · exact Or.inr ⟨q, PySem.W.cellsFrom_some _ _ _ (Or.inl q)⟩
  refine codeAny_call_function hr.depth (inK _ _ lk) rfl S.co S.gen rfl (PySem.W.codeRec_of inK hcd) (hb _ _ _ _ (wpAny_newFunctionEnv_cells S.kind kinds fun env he s1 xc => ?_))
  subst he
  obtain ⟨t, ht, hq⟩ := hbody A outer s H vs Q E hg (hr.deeper _) hsp
  have I0 : Inv (cxOf CX0 P w K mg base N qual (defScope st) f (.ref c) A outer s H E) [] (L2.start N vs) H s1 := inv_start S hr.hd e0 nArgs r xc
  have done : ∀ {σ1 : L2.St} {H1 : Hp} {v : V} {u : Value} {t1 : Shared}, Inv (cxOf CX0 P w K mg base N qual (defScope st) f (.ref c) A outer s H E) [] σ1 H1 t1 → RelV v u → Q v H1 → CE outer P w H s Q u t1 :=
    fun {σ1 H1 v u t1} J rv q => ⟨v, H1, J.os, J.bare, J.base, J.hok, rv, q⟩
  refine ⟨noLim.keeps xc.toInCall.keep, codeAny_func (wpAny_mono (ht.nox.run [] s1 (L2.start N vs) H _ I0 hq) (fun fl t1 hs => ?_) fun _ _ hs => hs)⟩
  cases fl
  case ret u =>
    obtain ⟨v, σ1, H1, J, rv, q⟩ := hs
    exact done J rv q
  case next =>
    obtain ⟨σ1, H1, J, q⟩ := hs
    exact done (v := V.non) (u := Value.none) J rfl q
  all_goals
    obtain ⟨_, _, _, q⟩ := hs
    exact False.elim q
end
theorem sqL_ext {K : PySem.W.Frag} {H H' : Hp} {a : Addr} {xs : List V} (s : ExtN H H') (q : SqL K H a xs) : SqL K H' a xs := by
  rcases q with (q | ⟨o, q⟩) | q
  · exact .inl (.inl (s _ _ q (fun _ z => nomatch z)))
  · exact .inl (.inr ⟨o, s _ _ q (fun _ z => nomatch z)⟩)
  · exact .inr q
theorem sqT_ext {K : PySem.W.Frag} {H H' : Hp} {a : Addr} {xs : List V} (s : ExtN H H') (q : SqT K H a xs) : SqT K H' a xs := sqT_pres q (Pres.ext s)
theorem strs_dp {K : PySem.W.Frag} {H : Hp} (l : List Str) : DpAll K H (l.map V.str) (l.map PyData.str) := by
  induction l with
  | nil => exact .nil
  | cons a r ih => exact .cons (.str a) ih
theorem strs_shaped {l : List Str} (h : ∀ x ∈ l, PyData.strOk x = true) : SeqAt.shaped (.list (l.map PyData.str)) = true := by
  have q : PyData.canLayAll0 (l.map PyData.str) = true ∧ PyData.depthAll (l.map PyData.str) = 0 := by
    induction l with
    | nil => exact ⟨rfl, rfl⟩
    | cons a r ih =>
      obtain ⟨x, y⟩ := ih fun b hb => h b (List.mem_cons_of_mem _ hb)
      constructor
      · show (PyData.strOk a && PyData.canLayAll0 (r.map PyData.str)) = true
        rw [x, h a List.mem_cons_self]
        rfl
      · show max 0 (PyData.depthAll (r.map PyData.str)) = 0
        rw [y]
        rfl
  show (PyData.canLayAll0 (l.map PyData.str) && decide (PyData.depthAll (l.map PyData.str) + 1 ≤ 64)) = true
  rw [q.1, q.2]
  rfl
theorem eqv_strs : ∀ l : List Str, PyData.eqv (.list (l.map PyData.str)) (.list (l.map PyData.str)) = true := by
  have all : ∀ l : List Str, PyData.eqvAll (l.map PyData.str) (l.map PyData.str) = true := by
    intro l
    induction l with
    | nil => rfl
    | cons a r ih =>
      show ((a == a) && PyData.eqvAll (r.map PyData.str) (r.map PyData.str)) = true
      rw [ih, beq_self_eq_true]
      rfl
  exact all
/-- what a View tells by its own operators, here -/
structure ViewI (P : Program) (w : World) (K : PySem.W.Frag) (mg : Str → Option Value) (base : Heap) (C CR CV CN : Addr) : Prop where
  get : HasD (L2.CX P w) P w K mg base CV "__getitem__" 3 ["self", "key"] (spVGetA K C CR CV CN)
  gfn : ∀ f, PySem.W.findIn K (.ref CV) "__getitem__" = some (some (.ref f)) → PySem.W.fnIn K f = true
  has : HasD CX0 P w K mg base CV "__contains__" 1 ["self", "key"] (spVHasA K CV)
  len : HasD CX0 P w K mg base CV "__len__" 1 ["self"] (spVLen K CV)
section
variable {base : Heap} {P : Program} {w : World} {K : PySem.W.Frag} {mg : Str → Option Value}
/-! ### _law_keys_right -/
/-- what is due of a key -/
def dueV (k : Key) : Option Nat → List V
  | none => [.str "key", .str k.1]
  | some w => [.str "told", .int (w : Int)]
def dueD (k : Key) : Option Nat → PyData
  | none => .tuple [.str "key", .str k.1]
  | some w => .tuple [.str "told", .int (w : Int)]
theorem due_av {H : Hp} {dp : Addr} {k : Key} {o : Option Nat} (h : H dp = some (.tup (dueV k o))) : Av H (.ref dp) (dueD k o) := by
  cases o with
  | none => exact .tup h (.cons (.str _) (.cons (.str _) .nil))
  | some w => exact .tup h (.cons (.str _) (.cons (.int _) .nil))
theorem nm_asc {z : Str} (h : IsNm z) : Fit 20 0 (.str z) := fit_low (fun c hc => by have := h.low c hc; unfold Low at this; omega) (Nat.le_trans h.len (by decide))
theorem fit_key {d : PyData} (h : Fit 100 1 d) : Fit 400 3 (.tuple [.str "key", d]) := by
  refine (fit_tup (W := 100) (D := 1) (n := 2) (l := [.str "key", d]) (fun x hx => ?_) (Nat.le_refl 2)).mono (by decide) (by decide)
  rcases List.mem_cons.mp hx with rfl | hx
  · exact (fit_low (z := "key") (fun c hc => by
      have e : tx ("key" : Str) = [107, 101, 121] := by decide +kernel
      rw [e] at hc
      simp at hc
      omega) (by decide +kernel)).mono (by decide) (by decide)
  · rw [List.mem_singleton.mp hx]
    exact h
theorem fit_num {w : Nat} (h : w ≤ 3) : Fit 20 0 (.int (w : Int)) := by
  have all : ∀ k : Nat, k < 4 → ((PyData.int (k : Int)).leavesShort 13 && (PyData.int (k : Int)).showable && decide ((PyData.int (k : Int)).weight ≤ 20)) = true := by decide +kernel
  have q := all w (by omega)
  rw [Bool.and_eq_true, Bool.and_eq_true, decide_eq_true_eq] at q
  exact ⟨q.1.1, q.1.2, Nat.le_refl _, q.2⟩
theorem fit_due {k : Key} {o : Option Nat} (h : IsNm k.1) (ho : ∀ w, o = some w → w ≤ 3) : Fit 400 3 (dueD k o) := by
  cases o with
  | none => exact fit_key ((nm_asc h).mono (by decide) (by decide))
  | some w =>
    refine (fit_tup (W := 100) (D := 1) (n := 2) (l := [.str "told", .int (w : Int)]) (fun x hx => ?_) (Nat.le_refl 2)).mono (by decide) (by decide)
    rcases List.mem_cons.mp hx with rfl | hx
    · exact (fit_low (z := "told") (fun c hc => by
        have e : tx ("told" : Str) = [116, 111, 108, 100] := by decide +kernel
        rw [e] at hc
        simp at hc
        omega) (by decide +kernel)).mono (by decide) (by decide)
    · rw [List.mem_singleton.mp hx]
      exact (fit_num (ho w rfl)).mono (by decide) (by decide)
def qLam : Str := "_law_keys_right" ++ ".<locals>." ++ "<lambda>"
def spKR (K : PySem.W.Frag) (C CR CV : Addr) (TT : List (Addr × Str)) : Sp := fun vs H Q _ => ∃ (v S NA t : Addr) (z : Str) (ks : List Key) (rows : List RuleL) (eds : List (List Nat)) (kn : Known), vs = [.ref v, .ref NA, .ref t] ∧ Tabs TT H ∧ ShAt K C CR H S z ks rows eds ∧ SG ks eds ∧ VwAt K CV H v S ks kn ∧
  SqL K H NA (namesV ks) ∧ SqT K H t (kn.map wV) ∧ (∀ k ∈ ks, IsNm k.1) ∧ (∃ L : Nat, ∀ k ∈ ks, k.1.length = L) ∧ 1 ≤ ks.length ∧ (∀ k ∈ ks, k.2 = 2 ∨ k.2 = 3) ∧ ∀ H', ExtN H H' → Tabs TT H' → Q (.bl true) H'
abbrev nKR : List Str := ["_law_view", "_law_names_here", "_law_known", "_law_there", "_law_name", "_law_worth", "_law_due", "_law_thing"]
theorem scKR : FnScope nKR ["_law_view", "_law_names_here", "_law_known"] (defScope sKR) := ⟨rfl, rfl, rfl, by decide +kernel, rfl, by decide +kernel, by decide +kernel⟩
theorem ok_kr {f c PT fH C CR CV CP CS CM CB CN CO : Addr} {fd fdH : FuncData} (F : FunC K "_law_keys_right" "_law_keys_right" sKR f fd c) (TB : TabB base mg c PT) (T : Txt9 K mg) (VO : ViewI P w K mg base C CR CV CN) (Z : HeardN K mg CS CM CB CN CP CO)
    (FH : L2.Fun K "_law_heard" "_law_heard" sHeard fH fdH) (gH : mg "_law_heard" = some (.ref fH)) (bH : L2.Binds K fdH ["_law_call"] []) : FnG P w K mg base 7 f fd ["_law_view", "_law_names_here", "_law_known"] (spKR K C CR CV [(PT, qLam)]) := by
  refine FunC.okG F scKR (fun vs H Q E h => ?_) (fun A outer s H vs Q E hgu hr h => ?_)
  · obtain ⟨v, S, NA, t, z, ks, rows, eds, kn, rfl, _⟩ := h
    rfl
  · obtain ⟨v, S, NA, t, z, ks, rows, eds, kn, rfl, hT, hS, g, hv, hNA, ht, nm, eqL, one, sz, k⟩ := h
    obtain ⟨ocH, odH, kVH, docH, pmH, anH, cdH, ctH, oslH, rfl, lkH, hcH⟩ := FH.ex
    have r2 : Room 2 _ := hr.mono (by decide)
    have r1 : Room 1 _ := hr.mono (by decide)
    have u64 := fun {k : Nat} {A : Around} (h : Room k A) => (show A.units + 64 < cLine by have := units65 h; omega)
    have hLam := fun (i : Nat) (x : Str) (hx : nKR[i]? = some x) => True.intro
    refine ⟨_, pss_cons (ps_setLc (i := 3) (own := [("_law_name", 4), ("_law_worth", 5)]) (g := gTup K 2 (gCons (gName 4) (gCons (gName 5) gNil))) rfl scKR.nd rfl rfl rfl (pi_zipM true false (by rfl) T.zip (pa_cons (pv 1) (pa_cons (pv 2) pa_nil)))
          (blkOk_by (N := nKR) (sc := defScope sKR) (by decide +kernel)) (fun _ _ _ _ _ => pg_tup rfl (pgs_cons (pg_name (i := 4) scKR.nd rfl (Or.inl rfl)) (pgs_cons (pg_name (i := 5) scKR.nd rfl (Or.inl rfl)) pgs_nil))) (fun _ _ _ _ _ => pts_one (pt_cmpR op_notN (pv 5) pe_non (nomark _))) (fun _ _ _ _ _ => pv 4))
      (pss_cons (ps_if (PW.pt (pw_or (pt_cmpR op_ne (pe_callB (call_ownLen VO.len r2) (by rfl) T.len PySem.boot_len (pa_cons (pv 0) pa_nil)) (pe_callB call_len_seq (by rfl) T.len PySem.boot_len (pa_cons (pv 3) pa_nil)) (nomark _))
          (pw_or1 (pt_cmpR (r := rNeD K) (op_neD (u64 hr)) (pe_lc (own := [("_law_name", 4)]) (g := gName 4) rfl scKR.nd (pi_list (pv 1)) (blkOk_by (N := nKR) (sc := defScope sKR) (by decide +kernel)) (fun _ _ _ _ _ => pg_name (i := 4) scKR.nd rfl (Or.inl rfl))
            (fun _ _ _ _ _ => pts_one (pt_cmpR (r := rOwnIn CV (spVHasA K CV) false) (op_ownIn VO.has r1) (pv 4) (pv 0) (by rfl))) (fun _ _ _ _ _ => pv 4)) (pv 3) (nomark _))))) (pss_one (ps_ret pe_bl)) pss_nil)
      (pss_cons (ps_for PassesOwn.never rfl (pi_zipM true false (by rfl) T.zip (pa_cons (pv 1) (pa_cons (pv 2) pa_nil))) (pg_tup rfl (pgs_cons (pg_name (i := 4) scKR.nd rfl (.inr rfl)) (pgs_cons (pg_name (i := 5) scKR.nd rfl (.inl rfl)) pgs_nil)))
        (pss_cons (ps_set (i := 6) scKR.nd rfl (.inl rfl) (pe_ifExp (pt_cmpR op_isN (pv 5) pe_non (nomark _)) (pe_tup (pa_cons pe_str (pa_cons (pv 4) pa_nil))) (pe_tup (pa_cons pe_str (pa_cons (pv 5) pa_nil)))))
        (pss_cons (ps_if (pt_cmpR op_ne (pe_callB (call_reprV hgu (u64 hr)) (by rfl) T.repr (by decide +kernel) (pa_cons (pe_lamcallS (T := [(PT, qLam)]) (k := 4) (t := fun E => tOwnGetX CV (spVGetA K C CR CV CN) (fun _ => E) (tVar 0) (tVar 4)) (by rfl) gH FH.kp lkH hcH bH scHeard rfl (.inl rfl) (heard_gives Z) TB rfl (by exact List.mem_singleton.mpr rfl) (fun p hp _ => by rw [List.mem_singleton.mp hp]; rfl) hr (lamS_by (sc := defScope sKR) (by decide +kernel)) (by rfl) (fun _ _ _ _ _ => by rfl)
              (fun A outer s H E f c' hr4 => pe_ownGetX (E := fun _ => E) VO.get (fun f hf => VO.gfn f hf) hr4 (fun σ => passAt (takes_of rfl rfl rfl rfl) σ) (pv 0) (pv 4))) pa_nil))
            (pe_callB (call_reprV hgu (u64 hr)) (by rfl) T.repr (by decide +kernel) (pa_cons (pv 6) pa_nil)) (nomark _)) (pss_one (ps_ret pe_bl)) pss_nil)
        (pss_one (ps_if (pt_cmpR op_ne (pe_callB (call_reprV hgu (u64 hr)) (by rfl) T.repr (by decide +kernel) (pa_cons (pe_cmpR (r := rOwnIn CV (spVHasA K CV) false) (op_ownIn VO.has r1) (pv 4) (pv 0) (by rfl)) pa_nil)) (pe_callB (call_reprV hgu (u64 hr)) (by rfl) T.repr (by decide +kernel) (pa_cons (pe_cmpR op_notN (pv 5) pe_non (nomark _)) pa_nil)) (nomark _)) (pss_one (ps_ret pe_bl)) pss_nil)))))
      (pss_cons (ps_for PassesOwn.never rfl (pi_tup (pe_tup (pa_cons pe_non (pa_cons pe_int (pa_cons pe_bl (pa_cons pe_str (pa_cons (pe_op op_add_str (pe_ix (r := rIxL K) ix_list (pv 1) pe_int (fun _ _ => rfl)) pe_str) (pa_cons (pe_upper (pe_ix (r := rIxL K) ix_list (pv 1) pe_int (fun _ _ => rfl)))
            (pa_cons (pe_tup pa_nil) (pa_cons (pe_lstS pa_nil) (pa_cons pe_dnewK (pa_cons (pe_lstS (pa_cons (pe_ix (r := rIxL K) ix_list (pv 1) pe_int (fun _ _ => rfl)) pa_nil)) (pa_cons (pe_tup (pa_cons (pe_ix (r := rIxL K) ix_list (pv 1) pe_int (fun _ _ => rfl)) pa_nil)) pa_nil))))))))))))) (pg_name (i := 7) scKR.nd rfl (.inr rfl))
        (pss_cons (ps_if (pt_cmpR op_ne (pe_callB (call_reprV hgu (u64 hr)) (by rfl) T.repr (by decide +kernel) (pa_cons (pe_lamcallS (T := [(PT, qLam)]) (k := 4) (t := fun E => tOwnGetX CV (spVGetA K C CR CV CN) (fun _ => E) (tVar 0) (tVar 7)) (by rfl) gH FH.kp lkH hcH bH scHeard rfl (.inl rfl) (heard_gives Z) TB rfl (by exact List.mem_singleton.mpr rfl) (fun p hp _ => by rw [List.mem_singleton.mp hp]; rfl) hr (lamS_by (sc := defScope sKR) (by decide +kernel)) (by rfl) (fun _ _ _ _ _ => by rfl)
              (fun A outer s H E f c' hr4 => pe_ownGetX (E := fun _ => E) VO.get (fun f hf => VO.gfn f hf) hr4 (fun σ => passAt (takes_of rfl rfl rfl rfl) σ) (pv 0) (pv 7))) pa_nil))
            (pe_callB (call_reprV hgu (u64 hr)) (by rfl) T.repr (by decide +kernel) (pa_cons (pe_tup (pa_cons pe_str (pa_cons (pv 7) pa_nil))) pa_nil)) (nomark _)) (pss_one (ps_ret pe_bl)) pss_nil)
        (pss_one (ps_if (pt_cmpR op_isnot_bl (pe_cmpR (r := rOwnIn CV (spVHasA K CV) false) (op_ownIn VO.has r1) (pv 7) (pv 0) (by rfl)) pe_bl (nomark _)) (pss_one (ps_ret pe_bl)) pss_nil))))
      (pss_one (ps_ret pe_bl))))), ?_⟩
    have h3 := g.le
    have lk : ks.length = kn.length := hv.ok.length
    have lN : (namesV ks).length = ks.length := by unfold namesV; rw [List.length_map]
    have lm : ks.length = min (namesV ks).length (kn.map wV).length := by rw [lN, List.length_map]; omega
    refine ⟨_, rfl, _, rfl, NA, t, _, _, rfl, hNA, ht, fun D1 nD1 => ?_⟩
    refine lc_it (walk_zipM (ka := true) (kb := false) (K := K) (xs := namesV ks) (ys := kn.map wV) lm) (fun i H' => Same H H' ∧ H' D1 = some (.lst ((hNames (ks.take i) (kn.take i)).map V.str))) ⟨same_upd nD1, upd_same⟩ (fun i H' _ z => ⟨SqL.same' z.1 hNA, sqT_same z.1 ht⟩) ?_ ?_
    · rintro i x H3 H4 hi ⟨s3, hD⟩ ⟨T1, x1, x2, rfl, nT, rfl, e1, e2⟩
      dsimp only at e1 e2
      unfold namesV at e1
      rw [List.getElem?_map] at e1 e2
      obtain ⟨k1, hk, rfl⟩ := Option.map_eq_some_iff.mp e1
      obtain ⟨o, ho, rfl⟩ := Option.map_eq_some_iff.mp e2
      have hD4 := get_new (o := .tup [V.str k1.1, wV o]) hD nT
      have s4 := s3.trans (same_upd (o := .tup [V.str k1.1, wV o]) nT)
      have hle : (hNames (ks.take i) (kn.take i)).length ≤ 3 := by
        have a := hn_len (ks := ks.take i) (kn := kn.take i)
        rw [List.length_take] at a
        omega
      refine ⟨T1, _, rfl, SqT.of upd_same, rfl, .str k1.1, _, rfl, wV o, _, rfl, rfl, ?_⟩
      refine ⟨rfl, _, rfl, rfl, _, rfl, ?_⟩
      cases o with
      | none =>
        refine ite2 (fun z => by cases z) (fun _ => ⟨s4, ?_⟩)
        rw [hn_take hk ho]
        simpa [oneP] using hD4
      | some wo =>
        refine ite2 (fun _ => ⟨_, rfl, _, hD4, ?_, same_new s4 nD1, ?_⟩) (fun z => absurd rfl z)
        · rw [List.length_map]
          exact small1000 (by omega)
        · rw [upd_same, hn_take hk ho, List.map_append]
          rfl
    rintro H1 ⟨s1, hD1⟩
    rw [List.take_length, lk, List.take_length] at hD1
    have hS1 := hS.pres (Pres.of s1)
    have hv1 := hv.pres (Pres.of s1)
    have hNA1 := SqL.same' s1 hNA
    have ht1 := sqT_same s1 ht
    have hT1 := hT.ext s1
    have hle : (hNames ks kn).length ≤ 3 := by
      have a := hn_len (ks := ks) (kn := kn)
      omega
    have cnt : (cntK kn : Int) = (((hNames ks kn).map V.str).length : Nat) := by
      rw [List.length_map, hNames_eq, List.length_map, prs_cnt ks kn lk]
    refine ⟨_, rfl, v, rfl, hv1.ins, v, S, ks, kn, rfl, hv1, cntK kn, rfl, ?_, _, rfl, D1, _, rfl, .inl (SqL.of hD1), rfl, _, rfl, ?_⟩
    · rw [List.length_map] at cnt
      omega
    refine ite2 (fun z => ?_) (fun _ => ?_)
    · rw [cnt] at z
      simp at z
    refine ⟨_, rfl, NA, rfl, ⟨_, hNA1⟩, fun D2 nD2 => ?_⟩
    refine lc_list (K := K) (xs := namesV ks) (fun i H' => Same H1 H' ∧ H' D2 = some (.lst ((hNames (ks.take i) (kn.take i)).map V.str))) ⟨same_upd nD2, upd_same⟩ (fun i H' _ z => SqL.same' z.1 hNA1) ?_ ?_
    · rintro i x H3 hx ⟨s3, hD⟩
      unfold namesV at hx
      rw [List.getElem?_map] at hx
      obtain ⟨k1, hk, rfl⟩ := Option.map_eq_some_iff.mp hx
      have ilt := (List.getElem?_eq_some_iff.mp hk).1
      obtain ⟨o, ho⟩ : ∃ o, kn[i]? = some o := ⟨_, List.getElem?_eq_getElem (by omega)⟩
      have hv3 := hv1.pres (Pres.of s3)
      have hle3 : (hNames (ks.take i) (kn.take i)).length ≤ 3 := by
        have a := hn_len (ks := ks.take i) (kn := kn.take i)
        rw [List.length_take] at a
        omega
      refine ⟨rfl, _, rfl, _, rfl, ⟨v, rfl, hv3.ins⟩, v, S, ks, kn, _, .str k1.1, rfl, hv3, .str _, _, rfl, _, rfl, ?_⟩
      rw [inS_str, hn_at g.nd hk ho]
      cases o with
      | none =>
        refine ite2 (fun z => by cases z) (fun _ => ⟨s3, ?_⟩)
        rw [hn_take hk ho]
        simpa [oneP] using hD
      | some wo =>
        refine ite2 (fun _ => ⟨_, rfl, _, hD, ?_, same_new s3 nD2, ?_⟩) (fun z => absurd rfl z)
        · rw [List.length_map]
          exact small1000 (by omega)
        · rw [upd_same, hn_take hk ho, List.map_append]
          rfl
    rintro H2 ⟨s2, hD2⟩
    rw [lN, List.take_length, lk, List.take_length] at hD2
    have hD12 := s2 _ _ hD1
    have okS : ∀ x ∈ hNames ks kn, PyData.strOk x = true := fun x hx => by
      obtain ⟨i, k1, w1, e1, _, rfl⟩ := hn_mem.mp hx
      exact g.nm k1 (List.mem_of_getElem? e1)
    refine ⟨_, rfl, _, _, .lst (SqL.of hD2) (strs_dp _), .lst (SqL.of hD12) (strs_dp _), strs_shaped okS, strs_shaped okS, _, rfl, ?_⟩
    refine ite2 (fun z => ?_) (fun _ => ?_)
    · rw [eqv_strs] at z
      cases z
    clear hD2
    have s12 := s1.trans s2
    refine ⟨_, rfl, _, rfl, NA, t, _, _, rfl, SqL.same' s2 hNA1, sqT_same s2 ht1, ?_⟩
    refine for_it (walk_zipM (ka := true) (kb := false) (K := K) (xs := namesV ks) (ys := kn.map wV) lm) (fun i σ H' => ∃ v4 v5 v6 : Option V, σ = [some (.ref v), some (.ref NA), some (.ref t), some (.ref D1), v4, v5, v6, none] ∧ ExtN H H' ∧ Tabs [(PT, qLam)] H') ⟨none, none, none, rfl, ExtN.of s12, hT1.ext s2⟩ (fun i σ H' _ ⟨_, _, _, _, e, _⟩ => ⟨sqL_ext e hNA, sqT_ext e ht⟩) ?_ ?_
    · clear hS1 hv1 hNA1 ht1 hT1 hD1 hD12 s1 s2 s12
      rintro i x σ H3 H4 hi ⟨v4, v5, v6, rfl, e3, T3⟩ ⟨T1, x1, x2, rfl, nT, rfl, g1, g2⟩
      dsimp only at g1 g2
      unfold namesV at g1
      rw [List.getElem?_map] at g1 g2
      obtain ⟨k1, hk, rfl⟩ := Option.map_eq_some_iff.mp g1
      obtain ⟨o, ho, rfl⟩ := Option.map_eq_some_iff.mp g2
      have km := List.mem_of_getElem? hk
      have s4 := same_upd (o := .tup [V.str k1.1, wV o]) nT
      have e4 := e3.trans (ExtN.of s4)
      have T4 := T3.ext s4
      refine ⟨T1, _, rfl, SqT.of upd_same, rfl, .str k1.1, _, rfl, wV o, _, rfl, rfl, ?_⟩
      generalize (upd H3 T1 (.tup [V.str k1.1, wV o])) = H4 at e4 T4
      clear s4 e3 T3
      refine seq_cut (fun σ' H' => ∃ dp : Addr, σ' = [some (.ref v), some (.ref NA), some (.ref t), some (.ref D1), some (.str k1.1), some (wV o), some (.ref dp), none] ∧ ExtN H H' ∧ Tabs [(PT, qLam)] H' ∧ H' dp = some (.tup (dueV k1 o))) (fun N hN => ?_) ?_
      · refine ⟨_, rfl, rfl, _, rfl, ?_⟩
        cases o with
        | none =>
          refine ite2 (fun _ => ?_) (fun z => absurd rfl z)
          refine ⟨_, rfl, (by show 2 ≤ sizeLine; decide), fun dp ndp => hN _ _ ⟨dp, rfl, e4.trans (ExtN.of (same_upd ndp)), T4.ext (same_upd ndp), upd_same⟩⟩
        | some wo =>
          refine ite2 (fun z => by cases z) (fun _ => ?_)
          refine ⟨_, rfl, (by show 2 ≤ sizeLine; decide), fun dp ndp => hN _ _ ⟨dp, rfl, e4.trans (ExtN.of (same_upd ndp)), T4.ext (same_upd ndp), upd_same⟩⟩
      rintro σ5 H5 ⟨dp, rfl, e5, T5, hdp⟩
      have ow : ∀ w, o = some w → w ≤ 3 := fun w e => by
        have a := paired_kn hv.ok hk (by rw [ho, e])
        rcases sz k1 km with b | b <;> omega
      refine seq_cut (fun σ' H' => σ' = [some (.ref v), some (.ref NA), some (.ref t), some (.ref D1), some (.str k1.1), some (wV o), some (.ref dp), none] ∧ ExtN H H' ∧ Tabs [(PT, qLam)] H') (fun N hN => ?_) ?_
      · refine rd_heard (v := v) (S := S) (z := z) (ks := ks) (rows := rows) (eds := eds) (kn := kn) (x := .str k1.1) (d := .str k1.1) (due := dueD k1 o) rfl rfl T5 (hS.pres (Pres.ext e5)) g (hv.pres (Pres.ext e5)) (.str _) (fun j k2 w d1 d2 d3 => ?_) (fun hno => ?_) (fit_due (nm k1 km) ow) (fun H6 R e6 q => ⟨_, rfl, q _ H6 (Same.refl H6) (due_av (e6 _ _ hdp fun _ z => nomatch z))⟩) (fun H6 e6 T6 => hN _ _ ⟨rfl, e5.trans e6, T6⟩)
        · have eij := keys_uniq g.nd hk d2 (PyData.str.inj d1)
          subst eij
          rw [ho] at d3
          cases d3
          rfl
        · rw [inS_str, hn_at g.nd hk ho] at hno
          cases o with
          | none => rfl
          | some w => cases hno
      rintro σ6 H6 ⟨rfl, e6, T6⟩
      have hv6 := hv.pres (Pres.ext e6)
      obtain ⟨b1, b2, b3⟩ := (fit_bool (inS (.str k1.1) (hNames ks kn))).repr (by decide) (by decide)
      obtain ⟨c1, c2, c3⟩ := (fit_bool (!decide (wV o = V.non))).repr (by decide) (by decide)
      refine ⟨_, rfl, _, rfl, ⟨v, rfl, hv6.ins⟩, v, S, ks, kn, _, .str k1.1, rfl, hv6, .str _, _, rfl, _, _, rfl, .bl _, b1, b2, b3, ?_⟩
      refine ⟨_, rfl, rfl, _, _, rfl, .bl _, c1, c2, c3, rfl, _, rfl, ?_⟩
      have eb : inS (.str k1.1) (hNames ks kn) = !decide (wV o = V.non) := by
        rw [inS_str, hn_at g.nd hk ho]
        cases o <;> rfl
      refine ite2 (fun z => ?_) (fun _ => ⟨_, _, _, rfl, e6, T6⟩)
      rw [eb] at z
      simp at z
    rintro σ H3 ⟨v4, v5, v6, rfl, e3, T3⟩
    obtain ⟨k0, hk0⟩ : ∃ k0, ks[0]? = some k0 := ⟨_, List.getElem?_eq_getElem (by omega)⟩
    have km0 := List.mem_of_getElem? hk0
    have at0 : atI (namesV ks) 0 = some (.str k0.1) := atI_nat (j := 0) (by unfold namesV; rw [List.getElem?_map, hk0]; rfl)
    have n0 := nm k0 km0
    have l0 := n0.len
    have hNA3 := sqL_ext e3 hNA
    have x1 : ("x" : Str).length = 1 := by decide +kernel
    refine ⟨_, rfl, NA, _, 0, _, rfl, rfl, hNA3, at0, _, _, rfl, rfl, (by rw [x1]; exact Nat.le_of_lt (small1000 (by omega))), ?_⟩
    refine ⟨_, rfl, NA, _, 0, _, rfl, rfl, hNA3, at0, ⟨_, rfl⟩, _, rfl, rfl, Nat.le_trans l0 (by decide), ?_⟩
    refine ⟨(by decide), fun t0 nt0 => ?_⟩
    have q1 := same_upd (o := .tup []) nt0
    refine ⟨(by decide), fun l1 nl1 no1 => ?_⟩
    have q2 := same_upd (o := .lst []) nl1
    refine fun d1 nd1 => ?_
    have q3 := same_upd (o := .dK []) nd1
    have hNA4 := SqL.same' ((q1.trans q2).trans q3) hNA3
    refine ⟨_, rfl, NA, _, 0, _, rfl, rfl, hNA4, at0, (by show 1 ≤ sizeLine; decide), fun l2 nl2 no2 => ?_⟩
    have q4 := same_upd (o := .lst [V.str k0.1]) nl2
    refine ⟨_, rfl, NA, _, 0, _, rfl, rfl, SqL.same' q4 hNA4, at0, (by show 1 ≤ sizeLine; decide), fun t2 nt2 => ?_⟩
    have q5 := same_upd (o := .tup [V.str k0.1]) nt2
    refine ⟨(by show 11 ≤ sizeLine; decide), fun TP nTP => ?_⟩
    have q6 := same_upd (o := .tup [V.non, V.int 0, V.bl true, V.str "", V.str (k0.1 ++ ("x" : Str)), V.str (Txt.upper k0.1), V.ref t0, V.ref l1, V.ref d1, V.ref l2, V.ref t2]) nTP
    have r5 := q5.trans q6
    have r4 := q4.trans r5
    have r3 := q3.trans r4
    have r2' := q2.trans r3
    have r1' := q1.trans r2'
    have AV := AvAll.cons (Av.non) (AvAll.cons (Av.int 0) (AvAll.cons (Av.bl true) (AvAll.cons (Av.str "") (AvAll.cons (Av.str (k0.1 ++ ("x" : Str))) (AvAll.cons (Av.str (Txt.upper k0.1))
      (AvAll.cons (Av.tup (r2' _ _ upd_same) .nil) (AvAll.cons (Av.lst (r3 _ _ upd_same) no1 .nil) (AvAll.cons (Av.dic (r4 _ _ upd_same)) (AvAll.cons (Av.lst (r5 _ _ upd_same) no2 (.cons (.str k0.1) .nil)) (AvAll.cons (Av.tup (q6 _ _ upd_same) (.cons (.str k0.1) .nil)) AvAll.nil))))))))))
    have e5 := e3.trans (ExtN.of r1')
    have T5 := T3.ext r1'
    have hTP := upd_same (H := upd (upd (upd (upd (upd H3 t0 (.tup [])) l1 (.lst [])) d1 (.dK [])) l2 (.lst [V.str k0.1])) t2 (.tup [V.str k0.1])) (a := TP) (o := .tup [V.non, V.int 0, V.bl true, V.str "", V.str (k0.1 ++ ("x" : Str)), V.str (Txt.upper k0.1), V.ref t0, V.ref l1, V.ref d1, V.ref l2, V.ref t2])
    refine ⟨TP, rfl, ⟨_, SqT.of hTP⟩, ?_⟩
    generalize (upd (upd (upd (upd (upd (upd H3 t0 (.tup [])) l1 (.lst [])) d1 (.dK [])) l2 (.lst [V.str k0.1])) t2 (.tup [V.str k0.1])) TP (.tup [V.non, V.int 0, V.bl true, V.str "", V.str (k0.1 ++ ("x" : Str)), V.str (Txt.upper k0.1), V.ref t0, V.ref l1, V.ref d1, V.ref l2, V.ref t2])) = H5 at AV e5 T5 hTP
    clear r1' r2' r3 r4 r5 q1 q2 q3 q4 q5 q6 hNA3 hNA4
    generalize [V.non, V.int 0, V.bl true, V.str "", V.str (k0.1 ++ ("x" : Str)), V.str (Txt.upper k0.1), V.ref t0, V.ref l1, V.ref d1, V.ref l2, V.ref t2] = xs at AV hTP
    have hnames : ∀ x ∈ hNames ks kn, IsNm x := fun x hx => by
      obtain ⟨i, k1, w1, e1, _, rfl⟩ := hn_mem.mp hx
      exact nm k1 (List.mem_of_getElem? e1)
    have hlens : ∀ x ∈ hNames ks kn, x.length = k0.1.length := fun x hx => by
      obtain ⟨i, k1, w1, e1, _, rfl⟩ := hn_mem.mp hx
      obtain ⟨L, hL⟩ := eqL
      rw [hL k1 (List.mem_of_getElem? e1), hL k0 km0]
    refine for_tup (K := K) (xs := xs) (fun i σ H' => ∃ v7 : Option V, σ = [some (.ref v), some (.ref NA), some (.ref t), some (.ref D1), v4, v5, v6, v7] ∧ ExtN H5 H' ∧ Tabs [(PT, qLam)] H') ⟨none, rfl, ExtN.refl _, T5⟩ (fun i σ H' _ ⟨_, _, e, _⟩ => sqT_ext e (SqT.of hTP)) ?_ ?_
    · rintro i x σ H6 hx ⟨v7, rfl, e6, T6⟩
      obtain ⟨d, hd, ax⟩ := AvAll.get AV hx
      have dm : d ∈ thD k0.1 := List.mem_of_getElem? (show (thD k0.1)[i]? = some d from hd)
      have ft := th_fit n0 d dm
      have hno := th_no n0 hnames hlens d dm
      have e56 := e5.trans e6
      refine seq_cut (fun σ' H' => σ' = [some (.ref v), some (.ref NA), some (.ref t), some (.ref D1), v4, v5, v6, some x] ∧ ExtN H5 H' ∧ Tabs [(PT, qLam)] H') (fun N hN => ?_) ?_
      · refine rd_heard (v := v) (S := S) (z := z) (ks := ks) (rows := rows) (eds := eds) (kn := kn) (x := x) (d := d) (due := .tuple [.str "key", d]) rfl rfl T6 (hS.pres (Pres.ext e56)) g (hv.pres (Pres.ext e56)) (ax.ext e6) (fun j k2 w d1 d2 d3 => ?_) (fun _ => rfl) (fit_key ft) (fun H7 R e7 q => ?_) (fun H7 e7 T7 => hN _ _ ⟨rfl, e6.trans e7, T7⟩)
        · rw [d1, inS_str] at hno
          exact absurd (hn_mem.mpr ⟨j, k2, w, d2, d3, rfl⟩) (of_decide_eq_false hno)
        · refine ⟨_, rfl, (by show 2 ≤ sizeLine; decide), fun y ny => q _ _ (same_upd ny) (.tup upd_same (.cons (.str _) (.cons ((ax.ext (e6.trans e7)).same (same_upd ny)) .nil)))⟩
      rintro σ7 H7 ⟨rfl, e7, T7⟩
      have hv7 := hv.pres (Pres.ext (e5.trans e7))
      refine ⟨_, rfl, _, rfl, ⟨v, rfl, hv7.ins⟩, v, S, ks, kn, x, d, rfl, hv7, ax.ext e7, _, rfl, _, _, rfl, rfl, _, rfl, ?_⟩
      rw [hno]
      exact ite2 (fun z => by cases z) (fun _ => ⟨_, rfl, e7, T7⟩)
    · rintro σ H6 ⟨v7, rfl, e6, T6⟩
      exact k H6 (e5.trans e6) T6
end
end K03

/-! a staticmethod called through an instance -/
namespace L2
open PySem PySem.Spec PyProof.Rows ClX
structure SMetI (K : PySem.W.Frag) (C : Addr) (m : Str) (p g : Addr) : Prop where
  at_ : PySem.W.findIn K (.ref C) m = some (some (.ref p))
  ty : PySem.W.typeIn K (.ref p) = some (.type "staticmethod")
  gf : PySem.W.specialIn K (.ref p) "__get__" = some (some (.builtin "staticmethod.__get__"))
  tk : PySem.W.takesIn K (.ref p) = some false
  cp : PySem.W.copiedNames.contains m = false
  rc : ∃ rest, PySem.W.recIn K p "staticmethod" = some (.ref g :: rest)
  kp : PySem.W.keepIn K (.ref g) = true
def tSMethI (C : Addr) (m : Str) (sp : Sp) (ta : TE) (t : TA) : TE := fun σ H Q => ta σ H fun x H1 => ∃ (a dx : Addr) (fs : List (Str × V)), x = .ref a ∧ H1 a = some (.ins C dx fs) ∧ fs.lookup m = none ∧ t σ H1 fun vs H2 => sp vs H2 Q E0
section
variable {X : Cx} {k : Nat} {C p g : Addr} {fd : FuncData} {ps : List Str} {sp : Sp} {o e : Expr} {es : List Expr} {m : Str} {pos apos : Pos} {ta : TE} {t : TA} {pl : Sem Bool}
theorem pe_smethI (he : PE X o ta) (c : Cls X.K C) (r : SMetI X.K C m p g) (F : FnOk X.prog X.w X.K X.mg X.base CX0 k g fd ps sp) (hb : Binds X.K fd ps []) (hr : Room k X.A) (ha : PA X (e :: es) t)
    (hst : starEach (e :: es) X.env = (false, eval e X.env) :: starEach es X.env := by rfl) (hpl : (backTo pos (starEach es X.env)).any (·.1) = false := by rfl)
    (ht : eval (.Call (.Attribute o m apos) (e :: es) [] pos) X.env = (do
      let ov ← eval o X.env
      standAt apos.atName
      let (f, first) ← holding [ov] (getMethod ov m pl)
      callWith pos f first (backTo pos (starEach (e :: es) X.env)) (backToKw pos (keywordEach [] X.env))) := by rfl) :
    PE X (.Call (.Attribute o m apos) (e :: es) [] pos) (tSMethI C m sp ta t) := by
  refine ⟨fun pins s σ H Q I h => ?_⟩
  refine PySem.W.methodCall_KW (pl := pl) (thn (he.run pins s σ H _ I h) fun u s1 ⟨x, H1, I1, rx, a, dx, fs, ex, ea, hl, q⟩ => ?_) ht
  subst ex
  obtain rfl : u = Value.ref a := rx
  obtain ⟨rest, hp⟩ := r.rc
  obtain ⟨mA, O, rel, _, _, _⟩ := ins_get I1.hok ea
  have hn : mA m = none := RelO.none_of (by rw [← hl]; exact rel m)
  obtain ⟨od, J, look⟩ := O.look
  have hlook : PySem.W.lookIn m od = some none := by rw [look, hn]
  have I2 : Inv X pins σ H1 { s1 with toks := s1.toks + 1 } := I1.tok _
  refine PySem.W.method_usual (r := some (.ref p)) I1.kIn J (PySem.W.plainGet_of (c.get m)).1 (PySem.W.plainGet_of (c.get m)).2 r.at_ (by simp only [Option.all_some, r.ty, Option.any_some]; decide +kernel)
    (PySem.W.get_bind I1.kIn J (PySem.W.plainGet_of (c.get m)).1 (PySem.W.findObj_fn c.hd r.at_ r.gf r.tk r.cp hlook) (PySem.W.plainGet_of (c.get m)).2
      (wpAny_call (PySem.W.sm_get (s := { s1 with toks := s1.toks + 1 }) I1.kIn hp (PySem.W.handed_on rfl ?_))))
  refine PySem.W.callWith_K (h₀ := X.base) I2.ok.mod.kin r.kp (thn (ha.run pos pins _ σ H1 _ I2 q) fun us s3 ⟨vs, H2, I3, rv, q2⟩ => ⟨I3.kIn, ?_⟩) hst hpl
  exact run_fn (ds := []) (dvs := []) F hr hb .nil pass0 I3 rv (by rw [List.append_nil]; exact q2)
end
end L2

namespace K03
open L2 PySem PySem.Spec PyProof.Rows
section
variable {base : Heap} {P : Program} {w : World} {K : PySem.W.Frag} {mg : Str → Option Value}
/-! ### is_whole -/
def spIsWhole (K : PySem.W.Frag) (CV : Addr) : Sp := fun vs H Q _ => ∃ (v S : Addr) (ks : List Key) (kn : Known), vs = [.ref v] ∧ VwAt K CV H v S ks kn ∧ Q (.bl (allK kn)) H
theorem scIsWhole : FnScope ["self"] ["self"] (defScope sVIsWhole) := ⟨rfl, rfl, rfl, by decide +kernel, rfl, by decide +kernel, by decide +kernel⟩
theorem ok_isWhole {f CV : Addr} {fd : FuncData} (F : Fun K "is_whole" "View.is_whole" sVIsWhole f fd) (TV : ViewT K mg CV) : FnOk P w K mg base CX0 1 f fd ["self"] (spIsWhole K CV) := by
  refine F.ok scIsWhole (fun vs H Q E h => ?_) (fun cdv A outer s H vs Q E hr h => ?_)
  · obtain ⟨v, S, ks, kn, rfl, _⟩ := h
    rfl
  · obtain ⟨v, S, ks, kn, rfl, hv, k⟩ := h
    refine ⟨_, pss_one (ps_ret (pe_cmpR op_notIn_seq pe_non (pe_fld (pv 0) rfl) (by rfl))), ?_⟩
    obtain ⟨dx, pr, nm, wo, sp, h1, _, _, _, hw⟩ := hv.at_
    refine ⟨_, rfl, v, CV, dx, _, _, rfl, h1, TV.cl, TV.n4, vf_worths, wo, _, rfl, .inr hw, rfl, wVs_flat kn, ?_⟩
    show Q (.bl (!inV .non (kn.map wV))) H
    rw [inV_wV, Bool.not_not]
    exact k
/-! ### is_lawful -/
def lawB (eds : List (List Nat)) (kn : Known) : Bool := eds.any fun r => fitsK kn (full r)
def spIsLaw (K : PySem.W.Frag) (C CR CV : Addr) : Sp := fun vs H Q _ => ∃ (v S : Addr) (z : Str) (ks : List Key) (rows : List RuleL) (eds : List (List Nat)) (kn : Known), vs = [.ref v] ∧ ShAt K C CR H S z ks rows eds ∧ SG ks eds ∧ VwAt K CV H v S ks kn ∧ ∀ H', Same H H' → Q (.bl (lawB eds kn)) H'
abbrev nIsLaw : List Str := ["self", "edition"]
theorem scIsLaw : FnScope nIsLaw ["self"] (defScope sVIsLawful) := ⟨rfl, rfl, rfl, by decide +kernel, rfl, by decide +kernel, by decide +kernel⟩
theorem ok_isLaw {f C CR CV : Addr} {fd : FuncData} (F : Fun K "is_lawful" "View.is_lawful" sVIsLawful f fd) (T : Txt8 K mg) (TV : ViewT K mg CV) (TS : ShK P w K mg base C) (GF : Has P w K mg base "fits" 1 ["worths", "edition"] (spFits K)) : FnOk P w K mg base CX0 3 f fd ["self"] (spIsLaw K C CR CV) := by
  refine F.ok scIsLaw (fun vs H Q E h => ?_) (fun cdv A outer s H vs Q E hr h => ?_)
  · obtain ⟨v, S, z, ks, rows, eds, kn, rfl, _⟩ := h
    rfl
  · obtain ⟨v, S, z, ks, rows, eds, kn, rfl, hS, g, hv, k⟩ := h
    have r1 : Room 1 _ := hr.mono (by decide)
    refine ⟨_, pss_one (ps_ret (pe_callB (cr_any rfl) (by rfl) T.any (by decide +kernel) (pa_cons (pe_lc (own := [("edition", 1)]) (g := gName 1) (tt := tYes) rfl scIsLaw.nd
          (pi_tup (pe_get TS.pE TS.cl hr (pe_fld (pv 0) rfl)))
          (blkOk_by (N := nIsLaw) (sc := defScope sVIsLawful) (by decide +kernel)) (fun _ _ _ _ _ => pg_name (i := 1) scIsLaw.nd rfl (Or.inl rfl)) (fun _ _ _ _ _ => pts_nil)
          (fun _ _ _ _ _ => pe_has GF r1 (pa_cons (pe_fldK (K := K) (pv 0)) (pa_cons (pv 1) pa_nil)))) pa_nil))), ?_⟩
    obtain ⟨dx, pr, nm, wo, sp, h1, _, _, _, hw⟩ := hv.at_
    obtain ⟨dxs, n, sz, e, q, s1, _, _, ⟨te, he, pe⟩, _⟩ := hS.at_
    have lt : te.length = eds.length := Paired.length pe
    have few := g.few
    have lk : ks.length = kn.length := hv.ok.length
    have h3 := g.le
    refine ⟨_, rfl, v, CV, dx, _, _, rfl, h1, TV.cl, TV.n1, vf_sheet, S, dxs, _, rfl, s1, S, dxs, _, _, rfl, s1, sf_eds, e, rfl, ⟨_, SqT.of he⟩, fun D nD => ?_⟩
    refine lc_tup (K := K) (xs := te.map V.ref) (fun i H' => Same H H' ∧ H' D = some (.lst (((eds.take i).map fun r => fitsK kn (full r)).map V.bl))) ⟨same_upd nD, upd_same⟩ (fun i H' _ z => sqT_same z.1 (SqT.of he)) ?_ ?_
    · rintro i x H' hx ⟨s2, hD⟩
      rw [List.getElem?_map] at hx
      obtain ⟨t, ht, rfl⟩ := Option.map_eq_some_iff.mp hx
      obtain ⟨r, hr1, hr2⟩ := paired_get pe ht
      have ek := g.ed r (List.mem_of_getElem? hr1)
      have hb : SqT K H' t ((full r).map wV) := by rw [full_wV]; exact sqT_same s2 hr2
      refine ⟨rfl, _, rfl, v, CV, dx, _, _, rfl, s2 _ _ h1, TV.cl, TV.n4, vf_worths, _, rfl, wo, t, kn, full r, rfl, sqT_same s2 hw, hb, lk.symm.trans ek.length, by omega, fun H2 s3 => ⟨_, s3 _ _ hD, ?_, same_new (s2.trans s3) nD, ?_⟩⟩
      · rw [List.length_map, List.length_map, List.length_take]
        exact small1000 (by omega)
      · rw [upd_same, take_one hr1, List.map_append, List.map_append]
        rfl
    · rintro H' ⟨s2, hD⟩
      rw [List.length_map, lt, List.take_length] at hD
      refine ⟨D, _, rfl, SqL.of hD, ?_⟩
      have ea : (eds.map fun r => fitsK kn (full r)).any id = lawB eds kn := by
        rw [List.any_map]
        rfl
      rw [ea]
      exact k H' s2
/-! ### v == u, of any two sheets with the same keys -/
def spVEq2 (K : PySem.W.Frag) (C CR CV : Addr) : Sp := fun vs H Q _ => ∃ (v u S S' : Addr) (z z' : Str) (ks : List Key) (rows rows' : List RuleL) (eds eds' : List (List Nat)) (kn ot : Known), vs = [.ref v, .ref u] ∧ ShAt K C CR H S z ks rows eds ∧ SG ks eds ∧ VwAt K CV H v S ks kn ∧ ShAt K C CR H S' z' ks rows' eds' ∧ VwAt K CV H u S' ks ot ∧ ∀ H', Same H H' → Q (.bl (decide (z = z') && decide (kn = ot))) H'
theorem ok_veq2 {f C CR CV : Addr} {fd : FuncData} (F : Fun K "__eq__" "View.__eq__" sVEq f fd) (T : Txt8 K mg) (TV : ViewT K mg CV) (VK' : VwK K CV) (SE : SEqK P w K mg base C) : FnOk P w K mg base CX0 3 f fd ["self", "other"] (spVEq2 K C CR CV) := by
  refine F.ok scVEq (fun vs H Q E h => ?_) (fun cdv A outer s H vs Q E hr h => ?_)
  · obtain ⟨v, u, S, S', z, z', ks, rows, rows', eds, eds', kn, ot, rfl, _⟩ := h
    rfl
  · obtain ⟨v, u, S, S', z, z', ks, rows, rows', eds, eds', kn, ot, rfl, hS, g, hv, hS', hu, k⟩ := h
    have r1 : Room 1 _ := hr.mono (by decide)
    refine ⟨_, pss_one (ps_ret (pe_and (pe_callB call_isi (by rfl) T.isinst (by decide +kernel) (pa_cons (pv 1) (pa_cons (pe_glob (v := .ref CV) (by rfl) TV.gV rfl) pa_nil)))
      (pe_and (pe_cmpR (op_ownEqS SE.eq r1) (pe_fld (pv 0) rfl) (pe_fld (pv 1) rfl) (nomark _))
      (pe_one (pe_cmpR (op_eqD (units64 hr)) (pe_fld (pv 0) rfl) (pe_fld (pv 1) rfl) (nomark _)))))), ?_⟩
    obtain ⟨dx, pr, nm, wo, sp, h1, hp, so, _, _⟩ := hv.at_
    obtain ⟨dxu, pru, nmu, wou, spu, u1, hpu, sou, _, _⟩ := hu.at_
    obtain ⟨dxs, n, sz, e, q, s1, _⟩ := hS.at_
    obtain ⟨dxs', n', sz', e', q', s1', _⟩ := hS'.at_
    refine ⟨_, rfl, _, _, _, _, true, rfl, .own CV, VK'.ti u1, VK'.cV, true, rfl, ?_⟩
    refine ⟨_, rfl, v, CV, dx, _, _, rfl, h1, TV.cl, TV.n1, vf_sheet, _, rfl, u, CV, dxu, _, _, rfl, u1, TV.cl, TV.n1, vf_sheet, S, .ref C, rfl, ⟨dxs, _, s1⟩, SE.ti s1', SE.fC, S, dxs, _, z, _, rfl, s1, sf_text, .inr ⟨S', dxs', _, z', .ref C, rfl, s1', sf_text, SE.ti s1', SE.cC, fun H1 e1 => ⟨_, rfl, _, rfl, ?_⟩⟩⟩
    by_cases ez : z = z'
    · rw [decide_eq_true ez] at k ⊢
      refine ⟨_, rfl, v, CV, dx, _, _, rfl, e1 _ _ h1, TV.cl, TV.n2, vf_pairs, _, rfl, u, CV, dxu, _, _, rfl, e1 _ _ u1, TV.cl, TV.n2, vf_pairs, prD sp, prD spu, (hp.pres (Pres.of e1)).dp, (hpu.pres (Pres.of e1)).dp, prD_shaped (so.strs g), prD_shaped (sou.strs g), ?_⟩
      have e : PyData.eqv (prD sp) (prD spu) = decide (kn = ot) := by
        rw [prD_eqv]
        refine decide_eq_decide.mpr ⟨fun z => ?_, fun z => ?_⟩
        · subst z
          exact so.inj g.nd hv.ok hu.ok sou
        · subst z
          exact so.uniq sou
      rw [e]
      exact k H1 e1
    · rw [decide_eq_false ez] at k ⊢
      exact k H1 e1
/-! ### v == what is no View -/
def spVEqN (K : PySem.W.Frag) (CV : Addr) : Sp := fun vs H Q _ => ∃ (v S : Addr) (ks : List Key) (kn : Known) (x : V) (t : Value), vs = [.ref v, x] ∧ VwAt K CV H v S ks kn ∧ TyX K H x t ∧ PySem.W.kitOne K t (.ref CV) = some false ∧ Q (.bl false) H
theorem ok_veqN {f C CV : Addr} {fd : FuncData} (F : Fun K "__eq__" "View.__eq__" sVEq f fd) (T : Txt8 K mg) (TV : ViewT K mg CV) (SE : SEqK P w K mg base C) : FnOk P w K mg base CX0 3 f fd ["self", "other"] (spVEqN K CV) := by
  refine F.ok scVEq (fun vs H Q E h => ?_) (fun cdv A outer s H vs Q E hr h => ?_)
  · obtain ⟨v, S, ks, kn, x, t, rfl, _⟩ := h
    rfl
  · obtain ⟨v, S, ks, kn, x, t, rfl, hv, ty, kt, k⟩ := h
    have r1 : Room 1 _ := hr.mono (by decide)
    refine ⟨_, pss_one (ps_ret (pe_and (pe_callB call_isi (by rfl) T.isinst (by decide +kernel) (pa_cons (pv 1) (pa_cons (pe_glob (v := .ref CV) (by rfl) TV.gV rfl) pa_nil)))
      (pe_and (pe_cmpR (op_ownEqS SE.eq r1) (pe_fld (pv 0) rfl) (pe_fld (pv 1) rfl) (nomark _))
      (pe_one (pe_cmpR (op_eqD (units64 hr)) (pe_fld (pv 0) rfl) (pe_fld (pv 1) rfl) (nomark _)))))), ?_⟩
    exact ⟨_, rfl, _, _, _, _, false, rfl, .own CV, ty, kt, false, rfl, k⟩
end
end K03

namespace K03
open L2 PySem PySem.Spec PyProof.Rows LamX LZ3 ClX
abbrev sVR : Stmt := top 62
/-- what a View tells, here -/
structure ViewE (P : Program) (w : World) (K : PySem.W.Frag) (mg : Str → Option Value) (base : Heap) (C CR CV : Addr) : Prop where
  cl : Cls K CV
  ti : ∀ {H : Hp} {a dx : Addr} {fs : List (Str × V)}, H a = some (.ins CV dx fs) → TyX K H (.ref a) (.ref CV)
  nf : PySem.W.notFirst K CV (.ref CV) = true
  nfT : PySem.W.notFirst K CV (.type "tuple") = true
  nfD : PySem.W.notFirst K CV (.type "dict") = true
  kT : PySem.W.kitOne K (.type "tuple") (.ref CV) = some false
  kD : PySem.W.kitOne K (.type "dict") (.ref CV) = some false
  eq2 : HasD CX0 P w K mg base CV "__eq__" 3 ["self", "other"] (spVEq2 K C CR CV)
  eqN : HasD CX0 P w K mg base CV "__eq__" 3 ["self", "other"] (spVEqN K CV)
  pS : HasP P w K mg base CV "sheet" "_sheet"
  pP : HasP P w K mg base CV "pairs" "_pairs"
  pW : HasP P w K mg base CV "worths" "_worths"
  pI : HasQ P w K mg base CV "is_whole" 1 (spIsWhole K CV)
  pL : HasQ P w K mg base CV "is_lawful" 3 (spIsLaw K C CR CV)
  whole : ∃ (mc : Value) (p g : Addr) (fd : FuncData), CRead K CV mc ∧ SMet K CV mc "whole" p g ∧ SMetI K CV "whole" p g ∧ FnOk P w K mg base CX0 8 g fd ["sheet", "worths"] (spWhole K C CR CV) ∧ Binds K fd ["sheet", "worths"] []
theorem allK_full : ∀ {kn : Known}, allK kn = true → ∃ r, kn = full r
  | [], _ => ⟨[], rfl⟩
  | none :: r, h => by cases h
  | some a :: r, h => by
    obtain ⟨q, e⟩ := allK_full (kn := r) h
    exact ⟨a :: q, by rw [e]; rfl⟩
theorem rp_ws {ks : List Key} {kn : Known} (ok : KnOk ks kn) (h3 : ks.length ≤ 3) (sz : ∀ k ∈ ks, k.2 = 2 ∨ k.2 = 3) : Rp (.tuple (kn.map wD)) := by
  obtain ⟨a, b⟩ := ws_lay kn
  have lk : ks.length = kn.length := ok.length
  have small : ∀ d ∈ kn.map wD, Fit 20 0 d := fun d hd => by
    obtain ⟨o, ho, rfl⟩ := List.mem_map.mp hd
    obtain ⟨i, hi⟩ := List.getElem?_of_mem ho
    have ilt := (List.getElem?_eq_some_iff.mp hi).1
    obtain ⟨k, hk⟩ : ∃ k, ks[i]? = some k := ⟨_, List.getElem?_eq_getElem (by omega)⟩
    cases o with
    | none => exact fit_none
    | some w =>
      have q := paired_kn ok hk hi
      have s := sz k (List.mem_of_getElem? hk)
      exact fit_num (by omega)
  have ft : Fit (3 * (20 + 1)) (0 + 1) (.tuple (kn.map wD)) := fit_tup small (by rw [List.length_map]; omega)
  obtain ⟨f1, f2, f3⟩ := ft.repr (by decide) (by decide)
  refine ⟨f1, PyData.hasDict_of_canLay _ ?_, f2, f3⟩
  show PyData.canLayAll0 (kn.map wD) = true
  exact a
theorem fit_two (a b : Bool) : Fit 100 1 (.list [.bool a, .bool b]) := by
  refine (fit_lst (W := 20) (D := 0) (n := 2) (l := [.bool a, .bool b]) (fun d hd => ?_) (Nat.le_refl 2)).mono (by decide) (by decide)
  rcases List.mem_cons.mp hd with rfl | hd
  · exact fit_bool _
  · rw [List.mem_singleton.mp hd]
    exact fit_bool _
theorem law_filter (eds : List (List Nat)) (kn : Known) : (!decide (eds.filter (fun r => fitsK kn (full r)) = [])) = lawB eds kn := by
  unfold lawB
  induction eds with
  | nil => rfl
  | cons a l ih =>
    cases h : fitsK kn (full a) with
    | true => simp [List.filter, h]
    | false => simpa [List.filter, h] using ih
theorem prs_small {ks : List Key} {kn : Known} {sp : List Pr} (ok : KnOk ks kn) (so : SPok ks kn sp) (h3 : ks.length ≤ 3) (nm : ∀ k ∈ ks, IsNm k.1) (sz : ∀ k ∈ ks, k.2 = 2 ∨ k.2 = 3) : Rp (prD sp) := by
  refine rp_prs (fun q hq => ?_) ?_
  · obtain ⟨i, k, e1, e2, e3⟩ := so.mem.mp (show (q.1, q.2) ∈ sp from hq)
    have km := List.mem_of_getElem? e1
    have n := nm k km
    rw [← e3]
    refine ⟨fun c hc => by have := n.low c hc; unfold Low at this; omega, Nat.le_trans n.len (by decide), ?_⟩
    obtain ⟨o, ho, hw⟩ := paired_get ok e1
    rw [e2] at ho
    cases ho
    have := hw q.2 rfl
    rcases sz k km with e | e <;> omega
  · rw [so.len]
    exact Nat.le_trans (prs_len ks kn) h3
section
variable {base : Heap} {P : Program} {w : World} {K : PySem.W.Frag} {mg : Str → Option Value}
def spVR (K : PySem.W.Frag) (C CR CV : Addr) (TT : List (Addr × Str)) : Sp := fun vs H Q _ => ∃ (m tw d NA SA RU RO t : Addr) (z : Str) (ks : List Key) (rows : List RuleL) (eds : List (List Nat)) (kn : Known), vs = [.ref m, .ref tw, .ref d, .ref t] ∧ Tabs TT H ∧ ShAt K C CR H m z ks rows eds ∧ ShAt K C CR H tw z ks rows eds ∧ SG ks eds ∧
  H d = some (.dK (sheetD NA SA RU RO)) ∧ H NA = some (.lst (namesV ks)) ∧ RowsAt K H RO eds ∧ SqT K H t (kn.map wV) ∧ KnOk ks kn ∧ (∀ k ∈ ks, IsNm k.1) ∧ (∃ L : Nat, ∀ k ∈ ks, k.1.length = L) ∧ 1 ≤ ks.length ∧ (∀ k ∈ ks, k.2 = 2 ∨ k.2 = 3) ∧ ∀ H', ExtN H H' → Tabs TT H' → Q (.bl true) H'
abbrev nVR : List Str := ["_law_made", "_law_twin", "_law_sheet_here", "_law_known", "_law_names_here", "_law_pairs_here", "_law_view", "_law_other", "_law_is_whole", "_law_fits", "_law_row", "_law_one", "_law_there"]
theorem scVR : FnScope nVR ["_law_made", "_law_twin", "_law_sheet_here", "_law_known"] (defScope sVR) := ⟨rfl, rfl, rfl, by decide +kernel, rfl, by decide +kernel, by decide +kernel⟩
abbrev tIsN (a : TE) : TE := tOp (fun x y H Q => y = V.non ∧ Q (V.bl (decide (x = V.non))) H) a (tC V.non)
abbrev rdFit (K : PySem.W.Frag) : TT := tTest (tCB (rAll K) (tCons (tLc (iZipM false false K (tCons (tVar 3) (tCons (tVar 10) tNil))) (gTup K 2 (gCons (gName 11) (gCons (gName 12) gNil))) tYes (tOrV (tIsN (tVar 11)) (tOp rEq (tVar 11) (tVar 12))) [11, 12]) tNil))
theorem rd_fit {H : Hp} {Q : Bool → Hp → Prop} {a b : Addr} {kn ot : Known} {x0 x1 x2 x4 x5 x6 x7 x8 x9 x11 x12 : Option V} (ha : SqT K H a (kn.map wV)) (hb : SqT K H b (ot.map wV)) (hl : kn.length = ot.length) (h3 : kn.length ≤ 3) (k : ∀ H', Same H H' → Q (fitsK kn ot) H') :
    rdFit K [x0, x1, x2, some (.ref a), x4, x5, x6, x7, x8, x9, some (.ref b), x11, x12] H Q := by
  have lm : kn.length = min (kn.map wV).length (ot.map wV).length := by rw [List.length_map, List.length_map]; omega
  refine ⟨_, rfl, _, rfl, a, b, _, _, rfl, ha, hb, fun D nD => ?_⟩
  refine lc_it (walk_zipM (ka := false) (kb := false) (K := K) (xs := kn.map wV) (ys := ot.map wV) lm) (fun i H' => Same H H' ∧ H' D = some (.lst ((((kn.zip ot).take i).map fun p => fit1 p.1 p.2).map V.bl))) ⟨same_upd nD, upd_same⟩ (fun i H' _ z => ⟨sqT_same z.1 ha, sqT_same z.1 hb⟩) ?_ ?_
  · rintro i x H3 H4 hi ⟨s3, hD⟩ ⟨T1, x1, x2, rfl, nT, rfl, e1, e2⟩
    dsimp only at e1 e2
    rw [List.getElem?_map] at e1 e2
    obtain ⟨o1, h1, rfl⟩ := Option.map_eq_some_iff.mp e1
    obtain ⟨o2, h2, rfl⟩ := Option.map_eq_some_iff.mp e2
    have hz : (kn.zip ot)[i]? = some (o1, o2) := by rw [List.getElem?_zip_eq_some]; exact ⟨h1, h2⟩
    have hD4 := get_new (o := .tup [wV o1, wV o2]) hD nT
    have s4 := s3.trans (same_upd (o := .tup [wV o1, wV o2]) nT)
    refine ⟨T1, _, rfl, SqT.of upd_same, rfl, wV o1, _, rfl, wV o2, _, rfl, rfl, ?_⟩
    have fin : ∀ b, b = fit1 o1 o2 → ∃ acc, (upd H3 T1 (.tup [wV o1, wV o2])) D = some (.lst acc) ∧ acc.length < sizeLine ∧ Same H (upd (upd H3 T1 (.tup [wV o1, wV o2])) D (.lst (acc ++ [.bl b]))) ∧ (upd (upd H3 T1 (.tup [wV o1, wV o2])) D (.lst (acc ++ [.bl b]))) D = some (.lst ((((kn.zip ot).take (i + 1)).map fun p => fit1 p.1 p.2).map V.bl)) := fun b eb => by
      refine ⟨_, hD4, ?_, same_new s4 nD, ?_⟩
      · rw [List.length_map, List.length_map, List.length_take]
        exact small1000 (by omega)
      · rw [upd_same, take_one hz, List.map_append, List.map_append, eb]
        rfl
    refine ⟨rfl, _, rfl, rfl, _, rfl, ?_⟩
    refine ite2 (fun z => ?_) (fun z => ?_)
    · refine fin true ?_
      rw [wV_non] at z
      unfold fit1
      rw [z]
      rfl
    · refine ⟨_, rfl, _, rfl, ?_, ?_⟩
      · cases o1 <;> cases o2 <;> rfl
      · refine fin _ ?_
        rw [wV_non, Bool.not_eq_true] at z
        rw [wV_eq]
        unfold fit1
        rw [z]
        rfl
  · rintro H3 ⟨s3, hD⟩
    have lz : (kn.zip ot).length = kn.length := by rw [List.length_zip]; omega
    rw [← lz, List.take_length] at hD
    refine ⟨D, _, rfl, SqL.of hD, _, rfl, ?_⟩
    have ea : ((kn.zip ot).map fun p => fit1 p.1 p.2).all id = fitsK kn ot := by
      rw [List.all_map]
      rfl
    rw [ea]
    exact k H3 s3
theorem ok_vr {f C CR CV : Addr} {fd : FuncData} {TT : List (Addr × Str)} (F : Fun K "_law_view_right" "_law_view_right" sVR f fd) (T : Txt9 K mg) (TV : ViewC P w K mg base C CR CV) (VO : ViewE P w K mg base C CR CV) (SE : SEqK P w K mg base C)
    (GPr : Has P w K mg base "_law_pairs" 1 ["_law_names_here", "_law_known"] (spLPairs false K)) (GK : HasG P w K mg base "_law_keys_right" 7 ["_law_view", "_law_names_here", "_law_known"] (spKR K C CR CV TT)) : FnG P w K mg base 9 f fd ["_law_made", "_law_twin", "_law_sheet_here", "_law_known"] (spVR K C CR CV TT) := by
  refine K03.Fun.okG F scVR (fun vs H Q E h => ?_) (fun cdv A outer s H vs Q E hgu hr h => ?_)
  · obtain ⟨m, tw, d, NA, SA, RU, RO, t, z, ks, rows, eds, kn, rfl, _⟩ := h
    rfl
  · obtain ⟨m, tw, d, NA, SA, RU, RO, t, z, ks, rows, eds, kn, rfl, hT, hS, hS', g, hd, hNA, hRO, ht, ok, nm, eqL, one, sz, k⟩ := h
    obtain ⟨fV, fdV, MV, FV, bV⟩ := TV.init
    obtain ⟨mc, pW, gW, fdW, cW, sW, sWI, FW, bW⟩ := VO.whole
    have r8 : Room 8 _ := hr
    have r7 : Room 7 _ := hr.mono (by decide)
    have r6 : Room 6 _ := hr.mono (by decide)
    have r4 : Room 4 _ := hr.mono (by decide)
    have r3 : Room 3 _ := hr.mono (by decide)
    have r2 : Room 2 _ := hr.mono (by decide)
    have r1 : Room 1 _ := hr.mono (by decide)
    have u64 := fun {k : Nat} {A : Around} (h : Room k A) => (show A.units + 64 < cLine by have := units65 h; omega)
    refine ⟨_, pss_cons (ps_par (i := 4) (j := 5) rfl scVR.nd rfl rfl (by decide) rfl rfl (pa_cons (pe_dget (units1 hr) (pv 2) pe_str (fun _ _ => rfl)) (pa_cons (pe_has GPr r1 (pa_cons (pe_dget (units1 hr) (pv 2) pe_str (fun _ _ => rfl)) (pa_cons (pv 3) pa_nil))) pa_nil)) rfl)
      (pss_cons (ps_par3 (i := 6) (j := 7) (l := 8) rfl scVR.nd rfl rfl rfl (by decide) (by decide) (by decide) rfl rfl rfl (pa_cons (pe_make (dvs := []) (ds := []) MV FV r6 rfl TV.gV bV .nil pass0 (pa_cons (pv 0) (pa_cons (pv 5) pa_nil))) (pa_cons (pe_make (dvs := []) (ds := []) MV FV r6 rfl TV.gV bV .nil pass0 (pa_cons (pv 1) (pa_cons (pv 5) pa_nil))) (pa_cons (pe_cmpR op_notIn_seq pe_non (pv 3) (by rfl)) pa_nil))) rfl)
      (pss_cons (ps_setLc (i := 9) (own := [("_law_row", 10)]) (g := gName 10) (tt := tTest (tCB (rAll K) (tCons (tLc (iZipM false false K (tCons (tVar 3) (tCons (tVar 10) tNil))) (gTup K 2 (gCons (gName 11) (gCons (gName 12) gNil))) tYes (tOrV (tIsN (tVar 11)) (tOp rEq (tVar 11) (tVar 12))) [11, 12]) tNil))) rfl scVR.nd rfl rfl rfl (pi_list (pe_dget (units1 hr) (pv 2) pe_str (fun _ _ => rfl)))
          (blkOk_by (N := nVR) (sc := defScope sVR) (by decide +kernel)) (fun _ _ _ _ _ => pg_name (i := 10) scVR.nd rfl (Or.inl rfl))
          (fun _ _ _ _ _ => pts_one (pt_val (pe_callB (cr_all rfl) (by rfl) T.all (by decide +kernel) (pa_cons (pe_lc (own := [("_law_one", 11), ("_law_there", 12)]) (g := gTup K 2 (gCons (gName 11) (gCons (gName 12) gNil))) (tt := tYes) rfl scVR.nd
            (pi_zipM false false (by rfl) T.zip (pa_cons (pv 3) (pa_cons (pv 10) pa_nil))) (blkOk_by (by rfl)) (fun _ _ _ _ _ => pg_tup rfl (pgs_cons (pg_name (i := 11) scVR.nd rfl (Or.inl rfl)) (pgs_cons (pg_name (i := 12) scVR.nd rfl (Or.inl rfl)) pgs_nil))) (fun _ _ _ _ _ => pts_nil)
            (fun _ _ _ _ _ => pe_or (pe_cmpR op_isN (pv 11) pe_non (nomark _)) (pe_one (pe_cmpR op_eq (pv 11) (pv 12) (nomark _))))) pa_nil)))) (fun _ _ _ _ _ => pv 10))
      (pss_cons (ps_if (PW.pt (pw_or (pt_not (pt_cmpR (op_ownEqS SE.eq r1) (pe_get VO.pS VO.cl r2 (pv 6)) (pv 0) (nomark _))) (pw_or (pt_cmpR op_ne (pe_callB (call_reprD hgu (u64 hr)) (by rfl) T.repr (by decide +kernel) (pa_cons (pe_get VO.pP VO.cl r2 (pv 6)) pa_nil)) (pe_callB (call_reprD hgu (u64 hr)) (by rfl) T.repr (by decide +kernel) (pa_cons (pv 5) pa_nil)) (nomark _))
          (pw_or1 (pt_cmpR op_ne (pe_callB (call_reprD hgu (u64 hr)) (by rfl) T.repr (by decide +kernel) (pa_cons (pe_get VO.pW VO.cl r2 (pv 6)) pa_nil)) (pe_callB (call_reprD hgu (u64 hr)) (by rfl) T.repr (by decide +kernel) (pa_cons (pv 3) pa_nil)) (nomark _)))))) (pss_one (ps_ret pe_bl)) pss_nil)
      (pss_cons (ps_if (pt_cmpR op_ne (pe_callB (call_reprV hgu (u64 hr)) (by rfl) T.repr (by decide +kernel) (pa_cons (pe_lstS (pa_cons (pe_getQ VO.pI VO.cl r2 (pv 6)) (pa_cons (pe_getQ VO.pL VO.cl r4 (pv 6)) pa_nil))) pa_nil)) (pe_callB (call_reprV hgu (u64 hr)) (by rfl) T.repr (by decide +kernel) (pa_cons (pe_lstS (pa_cons (pv 8) (pa_cons (pe_cmpR (r := rNeD K) (op_neD (u64 hr)) (pv 9) (pe_lst pa_nil) (nomark _)) pa_nil))) pa_nil)) (nomark _)) (pss_one (ps_ret pe_bl)) pss_nil)
      (pss_cons (ps_if (pt_not (pt_val (pe_hasG GK hgu r7 (pa_cons (pv 6) (pa_cons (pv 4) (pa_cons (pv 3) pa_nil)))))) (pss_one (ps_ret pe_bl)) pss_nil)
      (pss_cons (ps_if (PW.pt (pw_and (pt_val (pv 8)) (pw_and1 (pt_not (pt_cmpR (op_ownEqS VO.eq2 r3) (pe_smeth (pe_glob (v := .ref CV) (by rfl) TV.gV rfl) cW sW FW bW r8 (pa_cons (pv 0) (pa_cons (pv 3) pa_nil))) (pv 6) (nomark _)))))) (pss_one (ps_ret pe_bl)) pss_nil)
      (pss_cons (ps_if (PW.pt (pw_and (pt_val (pv 8)) (pw_and1 (pt_not (pt_cmpR (op_ownEqS VO.eq2 r3) (pe_smethI (pv 6) VO.cl sWI FW bW r8 (pa_cons (pv 1) (pa_cons (pv 3) pa_nil))) (pv 7) (nomark _)))))) (pss_one (ps_ret pe_bl)) pss_nil)
      (pss_one (ps_ret (pe_and (pe_cmpR (op_ownEqS VO.eq2 r3) (pv 6) (pv 7) (nomark _)) (pe_and (pe_not (pe_cmpR (op_ownEqS VO.eqN r3) (pv 6) (pv 5) (nomark _))) (pe_and (pe_not (pe_cmpR (op_ownEqS VO.eqN r3) (pv 6) (pv 3) (nomark _))) (pe_one (pe_not (pe_cmpR (op_ownEqS VO.eqN r3) (pv 6) (pe_callTy (call_dictTP rfl) (by rfl) T.dict (by decide +kernel) (pa_cons (pv 5) pa_nil)) (nomark _)))))))))))))))), ?_⟩
    have h3 := g.le
    have lk : ks.length = kn.length := ok.length
    refine ⟨.ref d, rfl, d, .ref NA, rfl, .inl ⟨_, .inr "names", .inl hd, rfl, rfl⟩, .ref d, rfl, d, .ref NA, rfl, .inl ⟨_, .inr "names", .inl hd, rfl, rfl⟩, _, rfl, NA, t, ks, kn, rfl, SqL.of hNA, ht, g.nd, h3, ok, fun H1 p sp s1 np so hp => ⟨_, _, rfl, ?_⟩⟩
    refine ⟨_, rfl, _, rfl, ?_⟩
    intro v dv nv ndv nev
    have s2 := same_mk (C := CV) nv ndv nev
    refine ⟨v, dv, m, p, z, ks, rows, eds, kn, sp, rfl, upd_same, hS.pres (Pres.of (s1.trans s2)), g.nd, h3, ok, so, hp.pres (Pres.of s2), fun H2 kp2 hv => ⟨rfl, ?_⟩⟩
    have s12 := s1.trans (mk_same nv ndv nev kp2)
    have hp2 := hp.pres (Pres.of (mk_same nv ndv nev kp2))
    refine ⟨_, rfl, _, rfl, ?_⟩
    intro u du nu ndu neu
    have s3 := same_mk (C := CV) nu ndu neu
    refine ⟨u, du, tw, p, z, ks, rows, eds, kn, sp, rfl, upd_same, hS'.pres (Pres.of (s12.trans s3)), g.nd, h3, ok, so, hp2.pres (Pres.of s3), fun H3 kp3 hu => ⟨rfl, ?_⟩⟩
    have s23 := mk_same nu ndu neu kp3
    have s13 := s12.trans s23
    have hv3 := hv.pres (Pres.of s23)
    have hp3 := hp2.pres (Pres.of s23)
    have ht3 := sqT_same s13 ht
    refine ⟨_, rfl, t, _, rfl, .inr ht3, rfl, wVs_flat kn, _, _, _, rfl, ?_⟩
    rw [inV_wV, Bool.not_not]
    have hd3 := s13 _ _ hd
    have hNA3 := s13 _ _ hNA
    have hS3 := hS.pres (Pres.of s13)
    have hS3' := hS'.pres (Pres.of s13)
    have hT3 := hT.ext s13
    have e03 : ExtN H H3 := ExtN.of s13
    have hRO3 : RowsAt K H3 RO eds := by
      obtain ⟨tr, e1, e2⟩ := hRO
      exact ⟨tr, s13 _ _ e1, Paired.mapP e2 fun t r e => sqT_same s13 e⟩
    clear s1 s2 s3 s12 s13 s23 kp2 kp3 hp hp2 hv np hd hNA hS hS' hT hRO ht nv ndv nev nu ndu neu
    dsimp only
    refine seq_cut (fun σ' H' => ∃ fi : Addr, σ' = [some (.ref m), some (.ref tw), some (.ref d), some (.ref t), some (.ref NA), some (.ref p), some (.ref v), some (.ref u), some (.bl (allK kn)), some (.ref fi), none, none, none] ∧ Same H3 H' ∧ RowsAt K H' fi (eds.filter fun r => fitsK kn (full r))) (fun N hN => ?_) ?_
    · obtain ⟨tr, hR1, hR2⟩ := hRO3
      have few := g.few
      have ltr : tr.length = eds.length := Paired.length hR2
      refine ⟨.ref d, rfl, d, .ref RO, rfl, .inl ⟨_, .inr "rows", .inl hd3, rfl, rfl⟩, RO, rfl, ⟨_, SqL.of hR1⟩, fun D nD => ?_⟩
      refine lc_list (K := K) (xs := tr.map V.ref) (fun i H' => Same H3 H' ∧ RowsAt K H' D ((eds.take i).filter fun r => fitsK kn (full r))) ⟨same_upd nD, [], upd_same, .nil⟩ (fun i H' _ z => SqL.of (z.1 _ _ hR1)) ?_ ?_
      · rintro i x H4 hx ⟨s4, us, hD, pu⟩
        rw [List.getElem?_map] at hx
        obtain ⟨ti, hti, rfl⟩ := Option.map_eq_some_iff.mp hx
        obtain ⟨r, hr1, hr2⟩ := paired_get hR2 hti
        have ilt := (List.getElem?_eq_some_iff.mp hti).1
        have okr := g.ed r (List.mem_of_getElem? hr1)
        have lr := okr.length
        have hb : SqT K H4 ti ((full r).map wV) := by rw [full_wV]; exact sqT_same s4 hr2
        have lus : us.length ≤ 27 := by
          have a := Paired.length pu
          have b := List.length_filter_le (fun r => fitsK kn (full r)) (eds.take i)
          rw [List.length_take] at b
          omega
        refine ⟨rfl, ?_⟩
        refine rd_fit (sqT_same s4 ht3) hb (by omega) (by omega) fun H5 s5 => ?_
        have s45 := s4.trans s5
        have hD5 := s5 _ _ hD
        have pu5 := Paired.mapP pu fun t r e => sqT_same s5 e
        cases hf : fitsK kn (full r) with
        | false =>
          refine ite2 (fun z => by cases z) (fun _ => ⟨s45, us, hD5, ?_⟩)
          rw [take_one hr1, List.filter_append, List.filter_cons_of_neg (by rw [hf]; decide), List.filter_nil, List.append_nil]
          exact pu5
        | true =>
          refine ite2 (fun _ => ⟨_, rfl, _, hD5, ?_, same_new s45 nD, us ++ [ti], by rw [upd_same, List.map_append]; rfl, ?_⟩) (fun z => absurd rfl z)
          · rw [List.length_map]
            exact small1000 (by omega)
          · rw [take_one hr1, List.filter_append, List.filter_cons_of_pos (p := fun r => fitsK kn (full r)) hf, List.filter_nil]
            exact paired_snoc (Paired.mapP pu5 fun t r e => sqT_upd hD5 e) (sqT_upd hD5 (sqT_same s45 hr2))
      · rintro H4 ⟨s4, hD⟩
        rw [List.length_map, ltr, List.take_length] at hD
        exact hN _ _ ⟨D, rfl, s4, hD⟩
    rintro σ4 H4 ⟨fi, rfl, s4, hfi⟩
    have hv4 := hv3.pres (Pres.of s4)
    have hu4 := hu.pres (Pres.of s4)
    have hp4 := hp3.pres (Pres.of s4)
    have ht4 := sqT_same s4 ht3
    have hNA4 := s4 _ _ hNA3
    have hS4 := hS3.pres (Pres.of s4)
    have hS4' := hS3'.pres (Pres.of s4)
    have hT4 := hT3.ext s4
    have e04 := e03.trans (ExtN.of s4)
    clear hv3 hu hp3 ht3 hNA3 hS3 hS3' hT3 e03 s4 hRO3 hd3
    refine seq_cut (fun σ' H' => σ' = [some (.ref m), some (.ref tw), some (.ref d), some (.ref t), some (.ref NA), some (.ref p), some (.ref v), some (.ref u), some (.bl (allK kn)), some (.ref fi), none, none, none] ∧ Same H4 H') (fun N hN => ?_) ?_
    · obtain ⟨dx, pr, nmA, wo, sp', h1, hpr, so', hnm, hw⟩ := hv4.at_
      obtain ⟨dxs, n, sz', e, q, s1, _⟩ := hS4.at_
      have esp := so'.uniq so
      subst esp
      obtain ⟨p1, p2, p3, p4⟩ := prs_small ok so h3 nm sz
      obtain ⟨w1, w2, w3, w4⟩ := rp_ws ok h3 sz
      refine ⟨_, rfl, v, dx, _, rfl, h1, v, dx, _, _, rfl, h1, vf_sheet, _, rfl, m, .ref C, rfl, ⟨dxs, _, s1⟩, SE.ti s1, SE.fC, m, dxs, _, z, _, rfl, s1, sf_text, .inr ⟨m, dxs, _, z, .ref C, rfl, s1, sf_text, SE.ti s1, SE.cC, fun H5 s5 => ⟨_, rfl, _, rfl, ?_⟩⟩⟩
      rw [decide_eq_true rfl]
      refine ite2 (fun z => by cases z) (fun _ => ?_)
      have h5 := s5 _ _ h1
      refine ⟨_, rfl, v, dx, _, rfl, h5, v, dx, _, _, rfl, h5, vf_pairs, pr, prD sp', rfl, (hpr.pres (Pres.of s5)).dp, p1, p2, p3, p4, _, rfl, p, prD sp', rfl, (hp4.pres (Pres.of s5)).dp, p1, p2, p3, p4, rfl, _, rfl, ?_⟩
      refine ite2 (fun z => by simp at z) (fun _ => ?_)
      refine ⟨_, rfl, v, dx, _, rfl, h5, v, dx, _, _, rfl, h5, vf_worths, wo, .tuple (kn.map wD), rfl, .tup (sqT_same s5 hw) (ws_dp kn), w1, w2, w3, w4, _, rfl, t, .tuple (kn.map wD), rfl, .tup (sqT_same s5 ht4) (ws_dp kn), w1, w2, w3, w4, rfl, _, rfl, ?_⟩
      exact ite2 (fun z => by simp at z) (fun _ => hN _ _ ⟨rfl, s5⟩)
    rintro σ5 H5 ⟨rfl, s5⟩
    refine seq_cut (fun σ' H' => σ' = [some (.ref m), some (.ref tw), some (.ref d), some (.ref t), some (.ref NA), some (.ref p), some (.ref v), some (.ref u), some (.bl (allK kn)), some (.ref fi), none, none, none] ∧ Same H4 H') (fun N hN => ?_) ?_
    · have hv5 := hv4.pres (Pres.of s5)
      have hS5 := hS4.pres (Pres.of s5)
      obtain ⟨dx, pr, nmA, wo, sp', h1, hpr, so', hnm, hw⟩ := hv5.at_
      obtain ⟨f1, f2, f3⟩ := (fit_two (allK kn) (lawB eds kn)).repr (by decide) (by decide)
      refine ⟨_, rfl, v, dx, _, rfl, h1, v, m, ks, kn, rfl, hv5, _, rfl, v, dx, _, rfl, h1, v, m, z, ks, rows, eds, kn, rfl, hS5, g, hv5, fun H6 s6 => ⟨(by show 2 ≤ sizeLine; decide), fun l1 nl1 no1 => ?_⟩⟩
      have s7 := same_upd (o := .lst [V.bl (allK kn), V.bl (lawB eds kn)]) nl1
      refine ⟨.ref l1, .list [.bool (allK kn), .bool (lawB eds kn)], rfl, .lst upd_same no1 (.cons (.bl _) (.cons (.bl _) .nil)), f1, f2, f3, ?_⟩
      have s57 := s5.trans (s6.trans s7)
      have hfi7 : RowsAt K (upd H6 l1 (.lst [V.bl (allK kn), V.bl (lawB eds kn)])) fi (eds.filter fun r => fitsK kn (full r)) := by
        obtain ⟨tr, e1, e2⟩ := hfi
        exact ⟨tr, s57 _ _ e1, Paired.mapP e2 fun t r e => sqT_same s57 e⟩
      refine ⟨_, rfl, _, rfl, (by decide), fun l2 nl2 => ?_⟩
      have s8 := same_upd (o := .lst []) nl2
      have hfi8 : RowsAt K (upd (upd H6 l1 (.lst [V.bl (allK kn), V.bl (lawB eds kn)])) l2 (.lst [])) fi (eds.filter fun r => fitsK kn (full r)) := by
        obtain ⟨tr, e1, e2⟩ := hfi7
        exact ⟨tr, s8 _ _ e1, Paired.mapP e2 fun t r e => sqT_same s8 e⟩
      refine ⟨_, _, hfi8.dp, .lst (SqL.of upd_same) .nil, rows_shaped _, rows_shaped [], ?_⟩
      rw [rows_eqv, law_filter]
      refine ⟨(by show 2 ≤ sizeLine; decide), fun l3 nl3 no3 => ?_⟩
      have s9 := same_upd (o := .lst [V.bl (allK kn), V.bl (lawB eds kn)]) nl3
      refine ⟨.ref l3, .list [.bool (allK kn), .bool (lawB eds kn)], rfl, .lst upd_same no3 (.cons (.bl _) (.cons (.bl _) .nil)), f1, f2, f3, rfl, _, rfl, ?_⟩
      exact ite2 (fun z => by simp at z) (fun _ => hN _ _ ⟨rfl, s57.trans (s8.trans s9)⟩)
    rintro σ6 H6 ⟨rfl, s6⟩
    clear s5 hfi
    refine seq_cut (fun σ' H' => σ' = [some (.ref m), some (.ref tw), some (.ref d), some (.ref t), some (.ref NA), some (.ref p), some (.ref v), some (.ref u), some (.bl (allK kn)), some (.ref fi), none, none, none] ∧ ExtN H4 H' ∧ Tabs TT H') (fun N hN => ?_) ?_
    · refine ⟨_, rfl, _, rfl, _, rfl, v, m, NA, t, z, ks, rows, eds, kn, rfl, hT4.ext s6, hS4.pres (Pres.of s6), g, hv4.pres (Pres.of s6), SqL.of (s6 _ _ hNA4), sqT_same s6 ht4, nm, eqL, one, sz, fun H7 e7 T7 => ⟨_, rfl, ?_⟩⟩
      exact ite2 (fun z => by cases z) (fun _ => hN _ _ ⟨rfl, (ExtN.of s6).trans e7, T7⟩)
    rintro σ7 H7 ⟨rfl, e7, T7⟩
    clear s6 hT4
    have P7 := Pres.ext e7
    refine seq_cut (fun σ' H' => σ' = [some (.ref m), some (.ref tw), some (.ref d), some (.ref t), some (.ref NA), some (.ref p), some (.ref v), some (.ref u), some (.bl (allK kn)), some (.ref fi), none, none, none] ∧ Same H7 H') (fun N hN => ?_) ?_
    · refine ⟨_, rfl, _, rfl, ?_⟩
      cases hA : allK kn with
      | false => exact ite2 (fun z => by cases z) (fun _ => ite2 (fun z => by cases z) (fun _ => by rw [hA] at hN; exact hN _ _ ⟨rfl, Same.refl _⟩))
      | true =>
        rw [hA] at hN
        obtain ⟨r, rfl⟩ := allK_full hA
        have hv7 := hv4.pres P7
        have hS7 := hS4.pres P7
        have ht7 := sqT_pres ht4 P7
        rw [full_wV] at ht7
        refine ite2 (fun _ => ?_) (fun z => absurd rfl z)
        refine ⟨rfl, _, rfl, _, rfl, m, t, z, ks, rows, eds, r, rfl, hS7, g.nd, h3, ok, ht7, fun H8 w8 s8 nw8 hw8 => ?_⟩
        have hv8 := hv7.pres (Pres.of s8)
        have hS8 := hS7.pres (Pres.of s8)
        obtain ⟨dx, fs, h1⟩ := hv8.ins
        refine ⟨_, rfl, w8, .ref CV, rfl, hw8.ins, VO.ti h1, VO.nf, w8, v, m, m, z, z, ks, rows, rows, eds, eds, full r, full r, rfl, hS8, g, hw8, hS8, hv8, fun H9 s9 => ⟨_, rfl, _, rfl, ?_⟩⟩
        rw [decide_eq_true rfl, decide_eq_true rfl]
        exact ite2 (fun z => by cases z) (fun _ => hN _ _ ⟨rfl, s8.trans s9⟩)
    rintro σ8 H8 ⟨rfl, s8⟩
    have P8 := P7.trans (Pres.of s8)
    refine seq_cut (fun σ' H' => σ' = [some (.ref m), some (.ref tw), some (.ref d), some (.ref t), some (.ref NA), some (.ref p), some (.ref v), some (.ref u), some (.bl (allK kn)), some (.ref fi), none, none, none] ∧ Same H7 H') (fun N hN => ?_) ?_
    · refine ⟨_, rfl, _, rfl, ?_⟩
      cases hA : allK kn with
      | false => exact ite2 (fun z => by cases z) (fun _ => ite2 (fun z => by cases z) (fun _ => by rw [hA] at hN; exact hN _ _ ⟨rfl, s8⟩))
      | true =>
        rw [hA] at hN
        obtain ⟨r, rfl⟩ := allK_full hA
        have hv7 := hv4.pres P8
        have hu7 := hu4.pres P8
        have hS7 := hS4'.pres P8
        have ht7 := sqT_pres ht4 P8
        rw [full_wV] at ht7
        obtain ⟨dx, pr, nmA, wo, sp', h1, _⟩ := hv7.at_
        refine ite2 (fun _ => ?_) (fun z => absurd rfl z)
        refine ⟨_, rfl, v, dx, _, rfl, h1, rfl, _, rfl, _, rfl, tw, t, z, ks, rows, eds, r, rfl, hS7, g.nd, h3, ok, ht7, fun H9 w9 s9 nw9 hw9 => ?_⟩
        have hu9 := hu7.pres (Pres.of s9)
        have hS9 := hS7.pres (Pres.of s9)
        obtain ⟨dxu, fs, u1⟩ := hu9.ins
        refine ⟨_, rfl, w9, .ref CV, rfl, hw9.ins, VO.ti u1, VO.nf, w9, u, tw, tw, z, z, ks, rows, rows, eds, eds, full r, full r, rfl, hS9, g, hw9, hS9, hu9, fun H10 s10 => ⟨_, rfl, _, rfl, ?_⟩⟩
        rw [decide_eq_true rfl, decide_eq_true rfl]
        exact ite2 (fun z => by cases z) (fun _ => hN _ _ ⟨rfl, s8.trans (s9.trans s10)⟩)
    rintro σ9 H9 ⟨rfl, s9⟩
    have P9 := P7.trans (Pres.of s9)
    have e9 := e04.trans (e7.trans (ExtN.of s9))
    have hv9 := hv4.pres P9
    have hu9 := hu4.pres P9
    have hS9 := hS4.pres P9
    have hS9' := hS4'.pres P9
    obtain ⟨dxu, fsu, u1⟩ := hu9.ins
    refine ⟨_, rfl, _, rfl, v, .ref CV, rfl, hv9.ins, VO.ti u1, VO.nf, v, u, m, tw, z, z, ks, rows, rows, eds, eds, kn, kn, rfl, hS9, g, hv9, hS9', hu9, fun H10 s10 => ⟨_, rfl, _, rfl, ?_⟩⟩
    rw [decide_eq_true rfl, decide_eq_true rfl]
    refine ite2 (fun _ => ?_) (fun z => absurd rfl z)
    have hv10 := hv9.pres (Pres.of s10)
    have hp10 := (hp4.pres P9).pres (Pres.of s10)
    have ht10 := sqT_same s10 (sqT_pres ht4 P9)
    obtain ⟨ts, hpt, prp⟩ := hp10
    refine ⟨_, rfl, _, rfl, v, .type "tuple", rfl, hv10.ins, sqT_ty hpt.sq, VO.nfT, v, m, ks, kn, .ref p, .type "tuple", rfl, hv10, sqT_ty hpt.sq, VO.kT, _, rfl, _, rfl, _, rfl, ?_⟩
    refine ite2 (fun _ => ?_) (fun z => absurd rfl z)
    refine ⟨_, rfl, _, rfl, v, .type "tuple", rfl, hv10.ins, sqT_ty ht10, VO.nfT, v, m, ks, kn, .ref t, .type "tuple", rfl, hv10, sqT_ty ht10, VO.kT, _, rfl, _, rfl, _, rfl, ?_⟩
    refine ite2 (fun _ => ?_) (fun z => absurd rfl z)
    have prk : Paired (fun t (kv : L2.Key × V) => SqT K H10 t [kV kv.1, kv.2]) ts (kvsOf sp) := by
      exact paired_mapr (R' := fun t (kv : L2.Key × V) => SqT K H10 t [kV kv.1, kv.2]) (f := fun q : Pr => ((.inr q.1 : L2.Key), V.int (q.2 : Int))) (fun t q e => e) prp
    refine ⟨_, rfl, _, rfl, p, ts, kvsOf sp, rfl, hpt, prk, fun dd ndd => ?_⟩
    have s11 := same_upd (o := .dK (mergeK [] (kvsOf sp))) ndd
    have hv11 := hv10.pres (Pres.of s11)
    refine ⟨v, .type "dict", rfl, hv11.ins, .base (.dK upd_same), VO.nfD, v, m, ks, kn, .ref dd, .type "dict", rfl, hv11, .base (.dK upd_same), VO.kD, _, rfl, _, rfl, ?_⟩
    exact k _ (e9.trans (ExtN.of (s10.trans s11))) ((T7.ext s9).ext (s10.trans s11))
end
end K03

namespace K03
open L2 PySem PySem.Spec PyProof.Rows
abbrev sKnowns : Stmt := top 58
/-! ### _law_knowns -/
/-- tuple(a list) -/
def rTupL (K : PySem.W.Frag) : List V → Hp → VK → Prop := fun xs H Q => ∃ p ys, xs = [.ref p] ∧ SqL K H p ys ∧ ∀ l, H l = none → Q (.ref l) (upd H l (.tup ys))
theorem call_tupL {X : Cx} : CallR X (.type "tuple") (rTupL X.K) := fun pins s σ H xs us Q I r ⟨p, ys, e, h, q⟩ => call_tuple_of pins s σ H xs us Q I r ⟨p, ys, e, .inl ⟨h, q⟩⟩
def kOf (ss r : List Nat) : Known := (r.zip ss).map fun p => if p.1 = p.2 then none else some p.1
def knownsOf (ss : List Nat) : List Known := (worthsOf (ss.map (· + 1))).map (kOf ss)
def KnsAt (K : PySem.W.Frag) (H : Hp) (q : Addr) (kns : List Known) : Prop := ∃ ts : List Addr, H q = some (.lst (ts.map V.ref)) ∧ Paired (fun (t : Addr) (kn : Known) => SqT K H t (kn.map wV)) ts kns
theorem worths_lt : ∀ {ss : List Nat} {r : List Nat}, r ∈ worthsOf ss → ∀ (i v s : Nat), r[i]? = some v → ss[i]? = some s → v < s := by
  have key : ∀ (ss acc_ss : List Nat) (acc : List (List Nat)), (∀ r ∈ acc, r.length = acc_ss.length ∧ ∀ (i v s : Nat), r[i]? = some v → acc_ss[i]? = some s → v < s) → ∀ r ∈ ss.foldl stepR acc, ∀ (i v s : Nat), r[i]? = some v → (acc_ss ++ ss)[i]? = some s → v < s := by
    intro ss
    induction ss with
    | nil =>
      intro acc_ss acc h r hr i v s h1 h2
      rw [List.append_nil] at h2
      exact (h r hr).2 i v s h1 h2
    | cons a l ih =>
      intro acc_ss acc h r hr i v s h1 h2
      rw [List.foldl_cons] at hr
      have e : acc_ss ++ a :: l = (acc_ss ++ [a]) ++ l := by rw [List.append_assoc]; rfl
      rw [e] at h2
      refine ih (acc_ss ++ [a]) (stepR acc a) (fun x hx => ?_) r hr i v s h1 h2
      unfold stepR at hx
      obtain ⟨y, hy, hx⟩ := List.mem_flatMap.mp hx
      unfold ext at hx
      obtain ⟨w, hw, rfl⟩ := List.mem_map.mp hx
      obtain ⟨q1, q2⟩ := h y hy
      refine ⟨by rw [List.length_append, List.length_append, q1]; rfl, fun i v s e1 e2 => ?_⟩
      by_cases hi : i < y.length
      · rw [List.getElem?_append_left hi] at e1
        rw [List.getElem?_append_left (by omega)] at e2
        exact q2 i v s e1 e2
      · rw [List.getElem?_append_right (by omega)] at e1
        rw [List.getElem?_append_right (by omega)] at e2
        have ei : i = y.length := by
          have := (List.getElem?_eq_some_iff.mp e1).1
          simp at this
          omega
        subst ei
        rw [Nat.sub_self] at e1
        rw [q1, Nat.sub_self] at e2
        have a1 : w = v := Option.some.inj e1
        have a2 : a = s := Option.some.inj e2
        rw [← a1, ← a2]
        exact List.mem_range.mp hw
  intro ss r hr i v s h1 h2
  exact key ss [] [[]] (fun r hr => by rw [List.mem_singleton.mp hr]; exact ⟨rfl, fun i v s h => by simp at h⟩) r hr i v s h1 (by rw [List.nil_append]; exact h2)
theorem paired_idx {α β : Type} {R : α → β → Prop} : ∀ {xs : List α} {ys : List β}, xs.length = ys.length → (∀ (i : Nat) (x : α) (y : β), xs[i]? = some x → ys[i]? = some y → R x y) → Paired R xs ys
  | [], [], _, _ => .nil
  | x :: xs, y :: ys, e, h => .cons (h 0 x y rfl rfl) (paired_idx (Nat.succ.inj e) fun i x y a b => h (i + 1) x y a b)
  | [], _ :: _, e, _ => nomatch e
  | _ :: _, [], e, _ => nomatch e
theorem kOf_ok {ks : List Key} {r : List Nat} (hr : r ∈ worthsOf ((ks.map (fun q : Key => q.2)).map (· + 1))) : KnOk ks (kOf (ks.map (fun q : Key => q.2)) r) := by
  have lr := worths_row hr
  rw [List.length_map, List.length_map] at lr
  unfold kOf
  refine paired_idx (by rw [List.length_map, List.length_zip, List.length_map]; omega) fun i k o hk ho w e => ?_
  rw [List.getElem?_map] at ho
  obtain ⟨p, hp, rfl⟩ := Option.map_eq_some_iff.mp ho
  rw [List.getElem?_zip_eq_some] at hp
  obtain ⟨h1, h2⟩ := hp
  rw [List.getElem?_map, hk] at h2
  have e2 : k.2 = p.2 := Option.some.inj h2
  have lt := worths_lt hr i p.1 (p.2 + 1) h1 (by rw [List.getElem?_map, List.getElem?_map, hk]; show some (k.2 + 1) = _; rw [e2])

  split at e
  · cases e
  · cases e
    omega
section
variable {base : Heap} {P : Program} {w : World} {K : PySem.W.Frag} {mg : Str → Option Value}
def spKnowns (K : PySem.W.Frag) : Sp := fun vs H Q _ => ∃ (p : Addr) (ss : List Nat), vs = [.ref p] ∧ SqL K H p (rowV ss) ∧ ss.length ≤ 3 ∧ (∀ s ∈ ss, s = 2 ∨ s = 3) ∧ ∀ H' q, Same H H' → H q = none → KnsAt K H' q (knownsOf ss) → Q (.ref q) H'
abbrev nKnowns : List Str := ["_law_sizes", "_law_rows_here", "_law_size", "_law_row", "_law_one"]
theorem scKnowns : FnScope nKnowns ["_law_sizes"] (defScope sKnowns) := ⟨rfl, rfl, rfl, by decide +kernel, rfl, by decide +kernel, by decide +kernel⟩
abbrev blkN : Scope := { kind := ScopeKind.function, names := [(Str.ofString ".0", NameKind.local), (Str.ofString "_law_row", NameKind.local), (Str.ofString "tuple", NameKind.globalImplicit), (Str.ofString "zip", NameKind.globalImplicit), (Str.ofString "_law_sizes", NameKind.free)], isGenerator := false, isCoroutine := false }
theorem ok_knowns {f : Addr} {fd : FuncData} (F : Fun K "_law_knowns" "_law_knowns" sKnowns f fd) (T : Txt8 K mg) (GR : Has P w K mg base "_law_rows" 1 ["_law_sizes"] (spLRows K)) : FnOk P w K mg base CX0 2 f fd ["_law_sizes"] (spKnowns K) := by
  refine F.ok scKnowns (fun vs H Q E h => ?_) (fun cdv A outer s H vs Q E hr h => ?_)
  · obtain ⟨p, ss, rfl, _⟩ := h
    rfl
  · obtain ⟨p, ss, rfl, hp, h3, h2, k⟩ := h
    refine ⟨_, pss_cons (ps_set (i := 1) scKnowns.nd rfl (.inl rfl) (pe_has GR hr (pa_cons (pe_lc (own := [("_law_size", 2)]) (g := gName 2) (tt := tYes) rfl scKnowns.nd (pi_list (pv 0))
          (blkOk_by (N := nKnowns) (sc := defScope sKnowns) (by decide +kernel)) (fun _ _ _ _ _ => pg_name (i := 2) scKnowns.nd rfl (Or.inl rfl)) (fun _ _ _ _ _ => pts_nil)
          (fun _ _ _ _ _ => pe_op op_add (pv 2) pe_int)) pa_nil)))
      (pss_one (ps_ret (pe_lc (own := [("_law_row", 3)]) (g := gName 3) (tt := tYes) (te := tCB (rTupL K) (tCons (tLc (iZipM false true K (tCons (tVar 3) (tCons (tVar 0) tNil))) (gTup K 2 (gCons (gName 4) (gCons (gName 2) gNil))) tYes (tIf (tB (tOp rEq (tVar 4) (tVar 2))) (tC .non) (tVar 4)) [4, 2]) tNil)) rfl scKnowns.nd (pi_list (pv 1))
          (blkOk_by (N := nKnowns) (sc := defScope sKnowns) (by decide +kernel)) (fun _ _ _ _ _ => pg_name (i := 3) scKnowns.nd rfl (Or.inl rfl)) (fun _ _ _ _ _ => pts_nil)
          (fun _ _ _ _ _ => pe_callTy call_tupL (by rfl) T.tuple (by decide +kernel) (pa_cons (pe_lc (own := [("_law_one", 4), ("_law_size", 2)]) (g := gTup K 2 (gCons (gName 4) (gCons (gName 2) gNil))) (tt := tYes) rfl scKnowns.nd
            (pi_zipM false true (by rfl) T.zip (pa_cons (pv 3) (pa_cons (pv 0) pa_nil)))
            (blkOk_by (by rfl)) (fun _ _ _ _ _ => pg_tup rfl (pgs_cons (pg_name (i := 4) scKnowns.nd rfl (Or.inl rfl)) (pgs_cons (pg_name (i := 2) scKnowns.nd rfl (Or.inl rfl)) pgs_nil))) (fun _ _ _ _ _ => pts_nil)
            (fun _ _ _ _ _ => pe_ifExp (pt_cmpR op_eq (pv 4) (pv 2) (nomark _)) pe_non (pv 4))) pa_nil))))), ?_⟩
    have e1 : ∀ l : List Nat, rowV (l.map (· + 1)) = l.map (fun n : Nat => V.int ((n : Int) + 1)) := fun l => by
      unfold rowV
      rw [List.map_map]
      rfl
    refine ⟨_, rfl, p, rfl, ⟨_, hp⟩, fun D nD => ?_⟩
    refine lc_list (K := K) (xs := rowV ss) (fun i H' => Same H H' ∧ H' D = some (.lst (rowV ((ss.take i).map (· + 1))))) ⟨same_upd nD, upd_same⟩ (fun i H' _ z => SqL.same' z.1 hp) ?_ ?_
    · rintro i x H' hx ⟨s1, hD⟩
      unfold rowV at hx
      rw [List.getElem?_map] at hx
      obtain ⟨n, hn, rfl⟩ := Option.map_eq_some_iff.mp hx
      refine ⟨rfl, _, rfl, _, _, rfl, rfl, _, hD, ?_, same_new s1 nD, ?_⟩
      · unfold rowV
        rw [List.length_map, List.length_map, List.length_take]
        exact small1000 (by omega)
      · rw [upd_same, take_one hn, e1, e1, List.map_append]
        rfl
    rintro H1 ⟨s1, hD⟩
    have lss : (rowV ss).length = ss.length := by unfold rowV; rw [List.length_map]
    rw [lss, List.take_length] at hD
    refine ⟨D, ss.map (· + 1), rfl, SqL.of hD, by rw [List.length_map]; exact h3, fun s hs => ?_, fun H2 q s2 nq hq => ?_⟩
    · obtain ⟨n, hn, rfl⟩ := List.mem_map.mp hs
      rcases h2 n hn with e | e <;> omega
    have s12 := s1.trans s2
    obtain ⟨ts, hq1, pr⟩ := hq
    have few := worths_small4 (ss := ss.map (· + 1)) (by rw [List.length_map]; exact h3) (fun s hs => by
      obtain ⟨n, hn, rfl⟩ := List.mem_map.mp hs
      rcases h2 n hn with e | e <;> omega) (ss.map (· + 1)).length
    rw [List.take_length] at few
    have rl : ∀ r ∈ worthsOf (ss.map (· + 1)), r.length = ss.length := fun r hr => by rw [worths_row hr, List.length_map]
    unfold knownsOf at k
    generalize hrows : worthsOf (ss.map (· + 1)) = rows at pr few rl k
    have lts : ts.length = rows.length := Paired.length pr
    refine ⟨_, rfl, q, rfl, ⟨_, SqL.of hq1⟩, fun D2 nD2 => ?_⟩
    refine lc_list (K := K) (xs := ts.map V.ref) (fun i H' => Same H2 H' ∧ KnsAt K H' D2 ((rows.take i).map (kOf ss))) ⟨same_upd nD2, [], upd_same, .nil⟩ (fun i H' _ z => SqL.of (z.1 _ _ hq1)) ?_ ?_
    · rintro i x H3 hx ⟨s3, us, hD2, pu⟩
      rw [List.getElem?_map] at hx
      obtain ⟨t, ht, rfl⟩ := Option.map_eq_some_iff.mp hx
      obtain ⟨r, hr1, hr2⟩ := paired_get pr ht
      have lr := rl r (List.mem_of_getElem? hr1)
      have ilt := (List.getElem?_eq_some_iff.mp ht).1
      have lrr : (rowV r).length = r.length := by unfold rowV; rw [List.length_map]
      have lm : ss.length = min (rowV r).length (rowV ss).length := by omega
      have ht3 := sqT_same s3 hr2
      have hp3 := SqL.same' (s12.trans s3) hp
      refine ⟨rfl, _, rfl, _, rfl, t, p, _, _, rfl, ht3, hp3, fun D3 nD3 => ?_⟩
      refine lc_it (walk_zipM (ka := false) (kb := true) (K := K) (xs := rowV r) (ys := rowV ss) lm) (fun j H' => Same H3 H' ∧ H' D3 = some (.lst ((((r.zip ss).take j).map fun p => if p.1 = p.2 then none else some p.1).map wV))) ⟨same_upd nD3, upd_same⟩ (fun i H' _ z => ⟨sqT_same z.1 ht3, SqL.same' z.1 hp3⟩) ?_ ?_
      · rintro j x H4 H5 hj ⟨s4, hD3⟩ ⟨T1, x1, x2, rfl, nT, rfl, g1, g2⟩
        dsimp only at g1 g2
        unfold rowV at g1 g2
        rw [List.getElem?_map] at g1 g2
        obtain ⟨n1, m1, rfl⟩ := Option.map_eq_some_iff.mp g1
        obtain ⟨n2, m2, rfl⟩ := Option.map_eq_some_iff.mp g2
        have hz : (r.zip ss)[j]? = some (n1, n2) := by rw [List.getElem?_zip_eq_some]; exact ⟨m1, m2⟩
        have hD5 := get_new (o := .tup [V.int (n1 : Int), V.int (n2 : Int)]) hD3 nT
        have s5 := s4.trans (same_upd (o := .tup [V.int (n1 : Int), V.int (n2 : Int)]) nT)
        have ed : decide (V.int (n1 : Int) = V.int (n2 : Int)) = decide (n1 = n2) := decide_eq_decide.mpr ⟨fun z => by have := V.int.inj z; omega, fun z => by rw [z]⟩
        have fin : ∀ y : V, y = wV (if n1 = n2 then none else some n1) → ∃ acc, (upd H4 T1 (.tup [V.int (n1 : Int), V.int (n2 : Int)])) D3 = some (.lst acc) ∧ acc.length < sizeLine ∧ Same H3 (upd (upd H4 T1 (.tup [V.int (n1 : Int), V.int (n2 : Int)])) D3 (.lst (acc ++ [y]))) ∧ (upd (upd H4 T1 (.tup [V.int (n1 : Int), V.int (n2 : Int)])) D3 (.lst (acc ++ [y]))) D3 = some (.lst ((((r.zip ss).take (j + 1)).map fun p => if p.1 = p.2 then none else some p.1).map wV)) := fun y ey => by
          refine ⟨_, hD5, ?_, same_new s5 nD3, ?_⟩
          · rw [List.length_map, List.length_map, List.length_take]
            exact small1000 (by omega)
          · rw [upd_same, take_one hz, List.map_append, List.map_append, ey]
            rfl
        refine ⟨T1, _, rfl, SqT.of upd_same, rfl, .int (n1 : Int), _, rfl, .int (n2 : Int), _, rfl, rfl, ?_⟩
        refine ⟨rfl, _, rfl, _, rfl, rfl, _, rfl, ?_⟩
        refine ite2 (fun z => ?_) (fun z => ⟨_, rfl, ?_⟩)
        · rw [ed, decide_eq_true_eq] at z
          exact fin .non (by rw [if_pos z]; rfl)
        · rw [ed, decide_eq_true_eq] at z
          exact fin _ (by rw [if_neg z]; rfl)
      · rintro H4 ⟨s4, hD3⟩
        have lz : (r.zip ss).length = ss.length := by rw [List.length_zip]; omega
        rw [← lz, List.take_length] at hD3
        refine ⟨D3, _, rfl, SqL.of hD3, fun l nl => ?_⟩
        have s5 := s4.trans (same_upd (o := .tup ((kOf ss r).map wV)) nl)
        have hD25 := s5 _ _ hD2
        have hl5 : (upd H4 l (.tup ((kOf ss r).map wV))) l = some (.tup ((kOf ss r).map wV)) := upd_same
        refine ⟨_, hD25, ?_, same_new (s3.trans s5) nD2, us ++ [l], by rw [upd_same, List.map_append]; rfl, ?_⟩
        · rw [List.length_map, Paired.length pu, List.length_map, List.length_take]
          exact small1000 (by omega)
        · rw [take_one hr1, List.map_append]
          exact paired_snoc (Paired.mapP pu fun t kn e => sqT_upd hD25 (sqT_same s5 e)) (sqT_upd hD25 (SqT.of hl5))
    · rintro H3 ⟨s3, hk⟩
      rw [List.length_map, lts, List.take_length] at hk
      exact k H3 D2 (s12.trans s3) (s12.free nD2) hk
end
end K03

namespace K03
open L2 PySem
/-! ### a text cut at its first rule -/
abbrev rS : List Nat := [10, 114, 117, 108, 101]
def ruS : Str := "\nrule"
theorem tl_ruS : TL.tl ruS = rS := by decide +kernel
theorem join_app (S : List Nat) : ∀ (as bs : List (List Nat)), as ≠ [] → bs ≠ [] → TL.joinL S (as ++ bs) = TL.joinL S as ++ (S ++ TL.joinL S bs)
  | [], _, h, _ => absurd rfl h
  | [a], [], _, h => absurd rfl h
  | [a], b :: r, _, _ => rfl
  | a :: a2 :: r, bs, _, h => by
    show a ++ (S ++ TL.joinL S ((a2 :: r) ++ bs)) = (a ++ (S ++ TL.joinL S (a2 :: r))) ++ (S ++ TL.joinL S bs)
    rw [join_app S (a2 :: r) bs (by simp) h]
    simp only [List.append_assoc]
theorem pre_at {r : List Nat} {c : Nat} (h : c ≠ 114) : TL.pre rS (10 :: c :: r) = false := by
  cases hp : TL.pre rS (10 :: c :: r) with
  | false => rfl
  | true =>
    have e : (10 :: c :: r).take 5 = rS := eq_of_beq hp
    rw [List.take_succ_cons, List.take_succ_cons] at e
    exact absurd (List.cons.inj (List.cons.inj e).2).1 h
theorem no_rule : ∀ (ls : List (List Nat)) (q : List Nat), (∀ l ∈ ls, 10 ∉ l ∧ ∃ r, l = 107 :: r) → ∀ i, i < (TL.joinL [10] ls).length → TL.pre rS ((TL.joinL [10] ls ++ q).drop i) = false
  | [], _, _, i, hi => absurd hi (Nat.not_lt_zero _)
  | [l], q, h, i, hi => TL.free_of (h l List.mem_cons_self).1 i hi
  | l :: l2 :: r, q, h, i, hi => by
    have e : TL.joinL [10] (l :: l2 :: r) ++ q = l ++ (10 :: (TL.joinL [10] (l2 :: r) ++ q)) := by
      show (l ++ ([10] ++ TL.joinL [10] (l2 :: r))) ++ q = _
      simp only [List.append_assoc, List.cons_append, List.nil_append]
    rw [e]
    by_cases h1 : i < l.length
    · exact TL.free_of (h l List.mem_cons_self).1 i h1
    · obtain ⟨j, rfl⟩ : ∃ j, i = l.length + j := ⟨i - l.length, by omega⟩
      rw [← List.drop_drop, List.drop_left]
      cases j with
      | zero =>
        obtain ⟨_, r2, e2⟩ := h l2 (by simp)
        have hd : ∃ t, TL.joinL [10] (l2 :: r) ++ q = 107 :: t := by
          cases r with
          | nil => exact ⟨r2 ++ q, by rw [e2]; rfl⟩
          | cons l3 r => exact ⟨_, by rw [e2]; rfl⟩
        obtain ⟨t, et⟩ := hd
        rw [List.drop_zero, et]
        exact pre_at (by decide)
      | succ j =>
        show TL.pre rS ((TL.joinL [10] (l2 :: r) ++ q).drop j) = false
        refine no_rule (l2 :: r) q (fun x hx => h x (List.mem_cons_of_mem _ hx)) j ?_
        have el : (TL.joinL [10] (l :: l2 :: r)).length = l.length + (1 + (TL.joinL [10] (l2 :: r)).length) := by
          show (l ++ ([10] ++ TL.joinL [10] (l2 :: r))).length = _
          rw [List.length_append, List.length_append]
          rfl
        omega
theorem key_line {k : Key} (nm : IsNm k.1) (sz : k.2 = 2 ∨ k.2 = 3) : 10 ∉ TL.tl (keyLine k) ∧ ∃ r, TL.tl (keyLine k) = 107 :: r := by
  refine ⟨(key_ok nm (by omega)).2.2, ?_⟩
  unfold keyLine
  rw [TL.tl_append, TL.tl_append, TL.tl_append]
  have e : TL.tl ("key " : Str) = [107, 101, 121, 32] := by decide +kernel
  rw [e]
  exact ⟨_, rfl⟩
theorem tl_nl : TL.tl nl = [10] := by decide +kernel
theorem tl_rule5 : TL.tl ("rule " : Str) = [114, 117, 108, 101, 32] := by decide +kernel
theorem tl_joined (ls : List Str) : TL.tl (joined ls) = TL.joinL [10] (ls.map TL.tl) := by
  unfold joined
  rw [TL.join_eq, TL.tl_join, tl_nl]
/-- the text ahead of its first rule: the lines of its keys -/
theorem cut_rule {ks : List Key} {rules : List (List Lit)} {eds : List (List Nat)} (g : Good ks rules eds) : ∃ r, Txt.split (joined (drawnL ks rules)) ruS = joined (ks.map keyLine) :: r := by
  have hl : ∀ l ∈ (ks.map keyLine).map TL.tl, 10 ∉ l ∧ ∃ r, l = 107 :: r := fun l hl => by
    obtain ⟨x, hx, rfl⟩ := List.mem_map.mp hl
    obtain ⟨k, hk, rfl⟩ := List.mem_map.mp hx
    exact key_line (g.nm k hk) (g.sz k hk)
  have one := g.one
  have ne : (ks.map keyLine).map TL.tl ≠ [] := fun e => by
    have := congrArg List.length e
    rw [List.length_map, List.length_map, List.length_nil] at this
    omega
  have sp := TL.split_spl (joined (drawnL ks rules)) ruS (by rw [tl_ruS]; simp) (TL.kind_ok (by decide +kernel))
  have key : ∃ r, TL.spl rS 0 [] (TL.tl (joined (drawnL ks rules))) = TL.joinL [10] ((ks.map keyLine).map TL.tl) :: r := by
    rw [tl_joined]
    unfold drawnL
    rw [List.map_append]
    cases hr : rules with
    | nil =>
      refine ⟨[], ?_⟩
      rw [List.map_nil, List.map_nil, List.append_nil, TL.spl_last fun i hi => ?_]
      · rfl
      · have := no_rule _ [] hl i hi
        rwa [List.append_nil] at this
    | cons l0 rs =>
      have hru : ∃ t, TL.joinL [10] (((l0 :: rs).map (ruleLine ks)).map TL.tl) = [114, 117, 108, 101] ++ t := by
        have e0 : ∃ t, TL.tl (ruleLine ks l0) = [114, 117, 108, 101] ++ t := by
          unfold ruleLine
          rw [TL.tl_append, tl_rule5]
          exact ⟨_, rfl⟩
        obtain ⟨t, et⟩ := e0
        cases rs with
        | nil => exact ⟨t, et⟩
        | cons l1 rs =>
          refine ⟨t ++ ([10] ++ TL.joinL [10] (((l1 :: rs).map (ruleLine ks)).map TL.tl)), ?_⟩
          show TL.tl (ruleLine ks l0) ++ ([10] ++ TL.joinL [10] (((l1 :: rs).map (ruleLine ks)).map TL.tl)) = _
          rw [et]
          simp only [List.append_assoc]
      obtain ⟨t, et⟩ := hru
      rw [join_app [10] _ _ ne (by simp), et]
      have es : ([10] ++ ([114, 117, 108, 101] ++ t) : List Nat) = rS ++ t := rfl
      rw [es, TL.spl_part (by simp) fun i hi => no_rule _ _ hl i hi]
      exact ⟨_, rfl⟩
  obtain ⟨r, hr⟩ := key
  rw [tl_ruS, hr] at sp
  cases hs : Txt.split (joined (drawnL ks rules)) ruS with
  | nil =>
    rw [hs] at sp
    cases sp
  | cons a rest =>
    rw [hs, List.map_cons] at sp
    have e := (List.cons.inj sp).1
    rw [← tl_joined] at e
    exact ⟨rest, by rw [TL.ext_tl e]⟩
/-! ### the wider sheet: one rule, that the first key has not the worth 1 -/
def wLit : Lit := (0, false, 1)
theorem zero_in : ∀ {ss : List Nat}, (∀ s ∈ ss, 1 ≤ s) → List.replicate ss.length 0 ∈ worthsOf ss := by
  have key : ∀ (ss : List Nat) (acc : List (List Nat)) (n : Nat), (∀ s ∈ ss, 1 ≤ s) → List.replicate n 0 ∈ acc → List.replicate (n + ss.length) 0 ∈ ss.foldl stepR acc := by
    intro ss
    induction ss with
    | nil => exact fun acc n _ h => h
    | cons s l ih =>
      intro acc n hs h
      rw [List.foldl_cons]
      have q := ih (stepR acc s) (n + 1) (fun x hx => hs x (List.mem_cons_of_mem _ hx)) (by
        unfold stepR
        refine List.mem_flatMap.mpr ⟨_, h, ?_⟩
        unfold ext
        refine List.mem_map.mpr ⟨0, List.mem_range.mpr (hs s List.mem_cons_self), ?_⟩
        rw [List.replicate_succ'])
      have e : n + 1 + l.length = n + (s :: l).length := by rw [List.length_cons]; omega
      rwa [e] at q
  intro ss h
  have q := key ss [[]] 0 h (by simp)
  rwa [Nat.zero_add] at q
theorem wide_good {ks : List Key} {rules : List (List Lit)} {eds : List (List Nat)} (g : Good ks rules eds) : Good ks [[wLit]] (keepR [wLit] (worthsOf (ks.map (fun q : Key => q.2)))) := by
  have one := g.one
  obtain ⟨k0, hk0⟩ : ∃ k0, ks[0]? = some k0 := ⟨_, List.getElem?_eq_getElem (by omega)⟩
  have s0 := g.sz k0 (List.mem_of_getElem? hk0)
  refine ⟨g.one, g.three, g.nd, g.nm, g.sz, fun l hl => ?_, rfl, fun e => ?_, g.eqL⟩
  · rw [List.mem_singleton.mp hl]
    refine ⟨by decide, by decide, fun x hx => ?_⟩
    rw [List.mem_singleton.mp hx]
    exact ⟨k0, hk0, by show 1 < k0.2; omega⟩
  · have z := zero_in (ss := ks.map (fun q : Key => q.2)) fun s hs => by
      obtain ⟨k, hk, rfl⟩ := List.mem_map.mp hs
      have := g.sz k hk
      omega
    have m : List.replicate (ks.map (fun q : Key => q.2)).length 0 ∈ keepR [wLit] (worthsOf (ks.map (fun q : Key => q.2))) := by
      unfold keepR
      refine List.mem_filter.mpr ⟨z, ?_⟩
      have e0 : (List.replicate (ks.map (fun q : Key => q.2)).length 0).getD 0 0 = 0 := by
        rw [List.getD_eq_getElem?_getD, List.getElem?_replicate]
        split <;> rfl
      show (soB _ wLit || false) = true
      unfold soB wLit
      rw [e0]
      rfl
    rw [e] at m
    cases m
theorem wide_text {ks : List Key} (one : 1 ≤ ks.length) : ((joined (ks.map keyLine) ++ ("\nrule " : Str)) ++ nameOf ks 0) ++ (" != 1" : Str) = joined (drawnL ks [[wLit]]) := by
  refine TL.ext_tl ?_
  have ne : (ks.map keyLine).map TL.tl ≠ [] := fun e => by
    have := congrArg List.length e
    rw [List.length_map, List.length_map, List.length_nil] at this
    omega
  have e1 : TL.tl ("\nrule " : Str) = [10] ++ TL.tl ("rule " : Str) := by decide +kernel
  have e2 : TL.tl (" != 1" : Str) = TL.tl (" != " : Str) ++ [49] := by decide +kernel
  have e3 : TL.tl (numS 1) = [49] := numS_tx (n := 1) (by decide)
  rw [TL.tl_append, TL.tl_append, TL.tl_append, tl_joined, tl_joined, e1, e2]
  unfold drawnL
  rw [List.map_append, join_app [10] _ _ ne (by simp)]
  show _ = _ ++ ([10] ++ TL.tl (ruleLine ks [wLit]))
  unfold ruleLine
  rw [TL.tl_append]
  show _ = _ ++ ([10] ++ (_ ++ TL.tl (litText ks wLit)))
  unfold litText wLit
  rw [TL.tl_append, TL.tl_append, if_neg Bool.false_ne_true, e3]
  simp only [List.append_assoc]
/-! ### what is known: no row twice -/
theorem worths_nodup : ∀ ss : List Nat, (worthsOf ss).Nodup := by
  have key : ∀ (ss : List Nat) (acc : List (List Nat)), acc.Nodup → (ss.foldl stepR acc).Nodup := by
    intro ss
    induction ss with
    | nil => exact fun acc h => h
    | cons s l ih =>
      intro acc h
      rw [List.foldl_cons]
      refine ih _ ?_
      unfold stepR
      rw [List.Nodup, List.pairwise_flatMap]
      refine ⟨fun a _ => ?_, h.imp fun {a b} hab x hx y hy e => ?_⟩
      · unfold ext
        rw [List.pairwise_map]
        refine List.nodup_range.imp fun {i j} hij e => hij ?_
        have := List.append_cancel_left e
        exact (List.cons.inj this).1
      · unfold ext at hx hy
        obtain ⟨w1, _, rfl⟩ := List.mem_map.mp hx
        obtain ⟨w2, _, rfl⟩ := List.mem_map.mp hy
        exact hab (List.append_inj_left' e rfl)
  exact fun ss => key ss [[]] (by simp)
theorem kOf_inj {ss : List Nat} : ∀ {r r' : List Nat}, r.length = ss.length → r'.length = ss.length → (∀ (i v s : Nat), r[i]? = some v → ss[i]? = some s → v ≤ s) → (∀ (i v s : Nat), r'[i]? = some v → ss[i]? = some s → v ≤ s) → kOf ss r = kOf ss r' → r = r' := by
  intro r r' l l' h h' e
  refine List.ext_getElem? fun i => ?_
  by_cases hi : i < ss.length
  · obtain ⟨v, hv⟩ : ∃ v, r[i]? = some v := ⟨_, List.getElem?_eq_getElem (by omega)⟩
    obtain ⟨v', hv'⟩ : ∃ v', r'[i]? = some v' := ⟨_, List.getElem?_eq_getElem (by omega)⟩
    obtain ⟨s, hs⟩ : ∃ s, ss[i]? = some s := ⟨_, List.getElem?_eq_getElem hi⟩
    have z : (r.zip ss)[i]? = some (v, s) := by rw [List.getElem?_zip_eq_some]; exact ⟨hv, hs⟩
    have z' : (r'.zip ss)[i]? = some (v', s) := by rw [List.getElem?_zip_eq_some]; exact ⟨hv', hs⟩
    have q := congrArg (fun l => l[i]?) e
    unfold kOf at q
    rw [List.getElem?_map, List.getElem?_map, z, z'] at q
    have q' : (if v = s then none else some v) = (if v' = s then none else some v') := Option.some.inj q
    rw [hv, hv']
    by_cases c : v = s
    · by_cases c' : v' = s
      · rw [c, c']
      · rw [if_pos c, if_neg c'] at q'
        cases q'
    · by_cases c' : v' = s
      · rw [if_neg c, if_pos c'] at q'
        cases q'
      · rw [if_neg c, if_neg c'] at q'
        rw [Option.some.inj q']
  · rw [List.getElem?_eq_none (by omega), List.getElem?_eq_none (by omega)]
theorem knowns_nodup (ss : List Nat) : (knownsOf ss).Nodup := by
  unfold knownsOf
  rw [List.Nodup, List.pairwise_map]
  refine List.Pairwise.imp_of_mem (fun {a b} ha hb hab e => hab ?_) (worths_nodup _)
  have la := worths_row ha
  have lb := worths_row hb
  rw [List.length_map] at la lb
  have lim : ∀ {r : List Nat}, r ∈ worthsOf (ss.map (· + 1)) → ∀ (i v s : Nat), r[i]? = some v → ss[i]? = some s → v ≤ s := fun {r} hr i v s hv hs => by
    have := worths_lt hr i v (s + 1) hv (by rw [List.getElem?_map, hs]; rfl)
    omega
  exact kOf_inj la lb (lim ha) (lim hb) e
theorem knowns_ok {ks : List Key} {kn : Known} (h : kn ∈ knownsOf (ks.map (fun q : Key => q.2))) : KnOk ks kn := by
  unfold knownsOf at h
  obtain ⟨r, hr, rfl⟩ := List.mem_map.mp h
  exact kOf_ok hr
theorem knowns_few {ks : List Key} (h3 : ks.length ≤ 3) (sz : ∀ k ∈ ks, k.2 = 2 ∨ k.2 = 3) : (knownsOf (ks.map (fun q : Key => q.2))).length ≤ 64 := by
  have few := worths_small4 (ss := (ks.map (fun q : Key => q.2)).map (· + 1)) (by rw [List.length_map, List.length_map]; exact h3) (fun s hs => by
    obtain ⟨n, hn, rfl⟩ := List.mem_map.mp hs
    obtain ⟨k, hk, rfl⟩ := List.mem_map.mp hn
    rcases sz k hk with e | e <;> omega) ((ks.map (fun q : Key => q.2)).map (· + 1)).length
  rw [List.take_length] at few
  unfold knownsOf
  rw [List.length_map]
  exact few
theorem knowns_two {ks : List Key} (one : 1 ≤ ks.length) (sz : ∀ k ∈ ks, k.2 = 2 ∨ k.2 = 3) : 2 ≤ (knownsOf (ks.map (fun q : Key => q.2))).length := by
  unfold knownsOf
  rw [List.length_map]
  have key : ∀ (ss : List Nat) (acc : List (List Nat)), (∀ s ∈ ss, 3 ≤ s) → acc.length ≤ (ss.foldl stepR acc).length := by
    intro ss
    induction ss with
    | nil => exact fun acc _ => Nat.le_refl _
    | cons s l ih =>
      intro acc h
      rw [List.foldl_cons]
      refine Nat.le_trans ?_ (ih _ fun x hx => h x (List.mem_cons_of_mem _ hx))
      rw [stepR_len]
      exact Nat.le_mul_of_pos_right _ (by have := h s List.mem_cons_self; omega)
  cases ks with
  | nil => exact absurd one (by decide)
  | cons k0 r =>
    have h : ∀ s ∈ ((k0 :: r).map (fun q : Key => q.2)).map (· + 1), 3 ≤ s := fun s hs => by
      obtain ⟨n, hn, rfl⟩ := List.mem_map.mp hs
      obtain ⟨k, hk, rfl⟩ := List.mem_map.mp hn
      rcases sz k hk with e | e <;> omega
    have q := key ((r.map (fun q : Key => q.2)).map (· + 1)) (stepR [[]] (k0.2 + 1)) fun s hs => h s (List.mem_cons_of_mem _ hs)
    rw [stepR_len] at q
    have := sz k0 List.mem_cons_self
    show 2 ≤ (((r.map (fun q : Key => q.2)).map (· + 1)).foldl stepR (stepR [[]] (k0.2 + 1))).length
    have e : ([[]] : List (List Nat)).length * (k0.2 + 1) = k0.2 + 1 := Nat.one_mul _
    omega
end K03

namespace K03
open L2 PySem PySem.Spec PyProof.Rows LZ3 LamX
abbrev sRight : Stmt := top 63
theorem inr_ne {z : Str} {q : List Key × List RuleL × List (List Nat)} {n : Nat} {p : Prop} (h : readS z = .inr q) (e : readS z = .inl n) : p := by
  rw [h] at e
  cases e
theorem fold_mem : ∀ {rules : List (List Lit)} {acc : List (List Nat)} {r : List Nat}, r ∈ rules.foldl (fun e l => keepR l e) acc → r ∈ acc
  | [], _, _, h => h
  | l :: rs, acc, r, h => (List.mem_filter.mp (show r ∈ acc.filter (fun r => l.any (soB r)) from fold_mem (rules := rs) (acc := keepR l acc) h)).1
theorem fold_len : ∀ {rules : List (List Lit)} {acc : List (List Nat)}, (rules.foldl (fun e l => keepR l e) acc).length ≤ acc.length
  | [], _ => Nat.le_refl _
  | l :: rs, acc => Nat.le_trans (fold_len (rules := rs) (acc := keepR l acc)) (List.length_filter_le _ _)
theorem full_ok {ks : List Key} {r : List Nat} (hr : r ∈ worthsOf (ks.map (fun q : Key => q.2))) : KnOk ks (full r) := by
  have lr := worths_row hr
  rw [List.length_map] at lr
  unfold full
  refine paired_idx (by rw [List.length_map]; exact lr.symm) fun i k o hk ho w e => ?_
  rw [List.getElem?_map] at ho
  obtain ⟨p, hp, rfl⟩ := Option.map_eq_some_iff.mp ho
  cases e
  exact worths_lt hr i _ k.2 hp (by rw [List.getElem?_map, hk]; rfl)
theorem good_sg {ks : List Key} {rules : List (List Lit)} {eds : List (List Nat)} (g : Good ks rules eds) : SG ks eds where
  nd := g.nd
  le := g.three
  ed := fun r hr => full_ok (fold_mem (by rw [← g.ed]; exact hr))
  few := by
    have t3 := g.three
    have a := worths_small (ss := ks.map (fun q : Key => q.2)) (by rw [List.length_map]; exact t3) (fun s hs => by
      obtain ⟨k, hk, rfl⟩ := List.mem_map.mp hs
      rcases g.sz k hk with e | e <;> omega) (ks.map (fun q : Key => q.2)).length
    rw [List.take_length] at a
    have b := fold_len (rules := rules) (acc := worthsOf (ks.map (fun q : Key => q.2)))
    rw [← g.ed] at b
    omega
  nm := fun k hk => asc_ok (z := k.1) fun c hc => by have := ((g.nm k hk).low c hc).2; omega
theorem merge3 : mergeK [] [(.inr "keys", .int 3), (.inr "size", .int 3), (.inr "rules", .int 4)] = loreD 3 3 4 := rfl
theorem text_sum {ks : List Key} {rules : List (List Lit)} {eds : List (List Nat)} (g : Good ks rules eds) (r4 : rules.length ≤ 4) : ((drawnL ks rules).map (fun x : Str => x.length)).sum + (drawnL ks rules).length * nl.length ≤ 16777216 ∧ (joined (drawnL ks rules)).length ≤ 500 := by
  have dok : ∀ l ∈ drawnL ks rules, l.length ≤ 60 := fun l hl => (drawn_ok g l hl).1
  have dl := drawn_len (ks := ks) (rules := rules)
  have t3 := g.three
  have nl1 : nl.length = 1 := by decide +kernel
  have a := sum_le (xs := drawnL ks rules) (m := 60) dok
  have b : (joined (drawnL ks rules)).length ≤ 7 * (60 + 1) := joined_len (by omega) dok
  rw [nl1]
  exact ⟨by omega, by omega⟩
/-! ### all but the jar and the tables stays -/
def KeepN (j : Addr) (H H' : Hp) : Prop := ∀ b o, b ≠ j → H b = some o → (∀ ps, o ≠ .tbl ps) → H' b = some o
theorem KeepN.refl (j : Addr) (H : Hp) : KeepN j H H := fun _ _ _ h _ => h
theorem KeepN.trans {j : Addr} {H H1 H2 : Hp} (a : KeepN j H H1) (b : KeepN j H1 H2) : KeepN j H H2 := fun c o n h t => b c o n (a c o n h t) t
theorem KeepN.of {j : Addr} {H H' : Hp} (k : Keep j H H') : KeepN j H H' := fun b o n h _ => k b o n h
theorem KeepN.ext {j : Addr} {H H' : Hp} (k : ExtN H H') : KeepN j H H' := fun b o _ h t => k b o h t
theorem KeepN.same {j : Addr} {H H' : Hp} (k : Same H H') : KeepN j H H' := fun b o _ h _ => k b o h
theorem Pres.keepN {H H' : Hp} {j : Addr} {n : Nat} (hj : Jar H j n) (k : KeepN j H H') : Pres H H' := fun x o e no _ t => k x o (not_jar hj e no) e t
theorem Jar.ext {H H' : Hp} {j : Addr} {n : Nat} (h : Jar H j n) (s : ExtN H H') : Jar H' j n := by
  obtain ⟨a, b, c, e, r⟩ := h
  exact ⟨a, b, c, s _ _ e (fun _ z => nomatch z), r⟩
theorem tabs_keep {T : List (Addr × Str)} {H H' : Hp} {j : Addr} {n : Nat} (hj : Jar H j n) (k : Keep j H H') (t : Tabs T H) : Tabs T H' := fun p hp => by
  obtain ⟨ps, h1, h2, h3⟩ := t p hp
  refine ⟨ps, k _ _ (not_jar hj h1 fun _ z => nomatch z) h1, h2, fun pos cv hc => ?_⟩
  obtain ⟨c, e1, e2⟩ := h3 pos cv hc
  exact ⟨c, e1, k _ _ (not_jar hj e2 fun _ z => nomatch z) e2⟩
/-! ### a view made of pairs -/
section
variable {K : PySem.W.Frag} {C CR CV : Addr} {H : Hp} {σ : L2.St} {Q : VK} {S N t : Addr} {ia ic : Nat} {z : Str} {ks : List Key} {rows : List RuleL} {eds : List (List Nat)} {kn : Known}
abbrev tMkV2 (K : PySem.W.Frag) (C CR CV : Addr) (a : Nat) (te : TE) (c : Nat) : TE := tMake CV (spVI K C CR CV) [] E0 (tCons (tVar a) (tCons (tCall (spLPairs false K) [] E0 (tCons te (tCons (tVar c) tNil))) tNil))
theorem rd_mkV2 {te : TE} (sh : ShAt K C CR H S z ks rows eds) (g : SG ks eds) (ea : σ[ia]? = some (some (.ref S))) (hte : ∀ R : VK, R (.ref N) H → te σ H R) (ec : σ[ic]? = some (some (.ref t)))
    (hN : H N = some (.lst (namesV ks))) (ok : KnOk ks kn) (ht : SqT K H t (kn.map wV)) (k : ∀ (v : Addr) (H' : Hp), Same H H' → H v = none → VwAt K CV H' v S ks kn → Q (.ref v) H') : tMkV2 K C CR CV ia te ic σ H Q := by
  refine ⟨_, ea, hte _ ⟨_, ec, N, t, ks, kn, rfl, SqL.of hN, ht, g.nd, g.le, ok, fun H1 p sp s1 np so hp => ?_⟩⟩
  intro x dx nx ndx ne
  have s2 := same_mk (C := CV) nx ndx ne
  refine ⟨x, dx, S, p, z, ks, rows, eds, kn, sp, rfl, upd_same, sh.pres (Pres.of (s1.trans s2)), g.nd, g.le, ok, so, hp.pres (Pres.of s2), fun H2 kp hv => ⟨rfl, ?_⟩⟩
  exact k x H2 (s1.trans (mk_same nx ndx ne kp)) (s1.free nx) hv
end
/-! ### all but one -/
theorem cut_head (xs : List V) (i : Nat) : cutV xs none (some (i : Int)) = xs.take i := by
  unfold cutV
  rw [HT.sIx_nat]
  show (xs.drop 0).take (min i xs.length - 0) = _
  rw [List.drop_zero, Nat.sub_zero]
  by_cases h : i ≤ xs.length
  · rw [Nat.min_eq_left h]
  · rw [Nat.min_eq_right (by omega), List.take_length, List.take_of_length_le (by omega)]
theorem cut_tail (xs : List V) (i : Nat) : cutV xs (some ((i : Int) + 1)) none = xs.drop (i + 1) := by
  have e : ((i : Int) + 1) = ((i + 1 : Nat) : Int) := by omega
  unfold cutV
  rw [e, HT.sIx_nat]
  show (xs.drop (min (i + 1) xs.length)).take (xs.length - min (i + 1) xs.length) = _
  by_cases h : i + 1 ≤ xs.length
  · rw [Nat.min_eq_left h]
    exact List.take_of_length_le (by rw [List.length_drop]; exact Nat.le_refl _)
  · rw [Nat.min_eq_right (by omega), List.drop_length, List.drop_of_length_le (by omega)]
    simp
theorem but_one {xs : List V} {i : Nat} {y : V} (h : y ∈ xs.take i ++ xs.drop (i + 1)) : ∃ j, j ≠ i ∧ xs[j]? = some y := by
  rcases List.mem_append.mp h with h | h
  · obtain ⟨j, hj⟩ := List.getElem?_of_mem h
    have lt := (List.getElem?_eq_some_iff.mp hj).1
    rw [List.length_take] at lt
    rw [List.getElem?_take_of_lt (by omega)] at hj
    exact ⟨j, by omega, hj⟩
  · obtain ⟨j, hj⟩ := List.getElem?_of_mem h
    rw [List.getElem?_drop] at hj
    exact ⟨_, by omega, hj⟩
section
variable {base : Heap} {P : Program} {w : World} {K : PySem.W.Frag} {mg : Str → Option Value}
structure SheetC (P : Program) (w : World) (K : PySem.W.Frag) (mg : Str → Option Value) (base : Heap) (C CB CR : Addr) : Prop extends SheetT K mg C where
  init : ∃ (fI : Addr) (fd : FuncData), Mk K C fI ∧ FnOk P w K mg base (L2.CX P w) 5 fI fd ["self", "text"] (spSI K C CB CR) ∧ Binds K fd ["self", "text"] []

def spRight (T : List (Addr × Str)) : Sp := fun vs H Q _ => ∃ (j : Addr) (n : Nat), vs = [.ref j] ∧ Tabs T H ∧ Jar H j n ∧ n ≤ 5000 ∧ ∀ H', Tabs T H' → Jar H' j (n + 400) → KeepN j H H' → Q (.bl true) H'
abbrev nRight : List Str := ["_law_jar_here", "_law_sheet_here", "_law_text", "_law_made", "_law_twin", "_law_some", "_law_wider", "_law_at", "_law_known", "_law_view", "_law_others", "_law_near", "_law_strange"]
theorem scRight : FnScope nRight ["_law_jar_here"] (defScope sRight) := ⟨rfl, rfl, rfl, by decide +kernel, rfl, by decide +kernel, by decide +kernel⟩
theorem ok_right {f C CB CR CV : Addr} {TT : List (Addr × Str)} {fd : FuncData} (F : Fun K "_law_right" "_law_right" sRight f fd) (T : Txt9 K mg) (TP : SheetC P w K mg base C CB CR) (TV : ViewC P w K mg base C CR CV) (VO : ViewE P w K mg base C CR CV) (SE : SEqK P w K mg base C) (GO : jarOf P w K mg base)
    (GP : Has P w K mg base "_law_sheet" 4 ["_law_jar_here", "_law_lore"] (spSheet K)) (GL : Has P w K mg base "_law_sheet_lines" 1 ["_law_sheet_here"] (spDrawn K)) (GKn : Has P w K mg base "_law_knowns" 2 ["_law_sizes"] (spKnowns K)) (GPr : Has P w K mg base "_law_pairs" 1 ["_law_names_here", "_law_known"] (spLPairs false K))
    (GV : HasG P w K mg base "_law_view_right" 9 ["_law_made", "_law_twin", "_law_sheet_here", "_law_known"] (spVR K C CR CV TT)) : FnG P w K mg base 10 f fd ["_law_jar_here"] (spRight TT) := by
  refine K03.Fun.okG F scRight (fun vs H Q E h => ?_) (fun cdv A outer s H vs Q E hgu hr h => ?_)
  · obtain ⟨j, n, rfl, _⟩ := h
    rfl
  · obtain ⟨j, n, rfl, hT, hj, hn, k⟩ := h
    obtain ⟨fI, fdI, M, FI, bI⟩ := TP.init
    obtain ⟨fV, fdV, MV, FV, bV⟩ := TV.init
    have r6 : Room 6 _ := hr.mono (by decide)
    have r4 : Room 4 _ := hr.mono (by decide)
    have r3 : Room 3 _ := hr.mono (by decide)
    have r2 : Room 2 _ := hr.mono (by decide)
    have r1 : Room 1 _ := hr.mono (by decide)
    have u64 := fun {k : Nat} {A : Around} (h : Room k A) => (show A.units + 64 < cLine by have := units65 h; omega)
    refine ⟨_, pss_cons (ps_set (i := 1) scRight.nd rfl (.inl rfl) (pe_has GP r4 (pa_cons (pv 0) (pa_cons (pe_disp (pps_cons pe_str pe_int (pps_cons pe_str pe_int (pps_cons pe_str pe_int pps_nil))) rfl rfl (by simp) (by decide)) pa_nil))))
      (pss_cons (ps_set (i := 2) scRight.nd rfl (.inl rfl) (pe_join pe_str (pe_has GL r1 (pa_cons (pv 1) pa_nil))))
      (pss_cons (ps_par3 (i := 3) (j := 4) (l := 5) rfl scRight.nd rfl rfl rfl (by decide) (by decide) (by decide) rfl rfl rfl (pa_cons (pe_makeS M FI r6 rfl TP.gS bI (fun σ => passAt L2.takes0 σ) (pa_cons (pv 2) pa_nil)) (pa_cons (pe_makeS M FI r6 rfl TP.gS bI (fun σ => passAt L2.takes0 σ) (pa_cons (pv 2) pa_nil)) (pa_cons (pe_has GKn r2 (pa_cons (pe_dget (units1 hr) (pv 1) pe_str (fun _ _ => rfl)) pa_nil)) pa_nil))) rfl)
      (pss_cons (ps_set (i := 6) scRight.nd rfl (.inl rfl) (pe_makeS M FI r6 rfl TP.gS bI (fun σ => passAt L2.takes0 σ) (pa_cons (pe_op op_add_str (pe_op op_add_str (pe_op op_add_str (pe_ix (r := rIxL K) ix_list (pe_split (pv 2) pe_str) pe_int (fun _ _ => rfl)) pe_str) (pe_ix (r := rIxL K) ix_list (pe_dget (units1 hr) (pv 1) pe_str (fun _ _ => rfl)) pe_int (fun _ _ => rfl))) pe_str) pa_nil)))
      (pss_cons (ps_for PassesOwn.never rfl (pi_enum (by rfl) T.enum (pa_cons (pv 5) pa_nil)) (pg_tup rfl (pgs_cons (pg_name (i := 7) scRight.nd rfl (.inl rfl)) (pgs_cons (pg_name (i := 8) scRight.nd rfl (.inl rfl)) pgs_nil)))
        (pss_cons (ps_if (pt_not (pt_val (pe_hasG GV hgu hr (pa_cons (pv 3) (pa_cons (pv 4) (pa_cons (pv 1) (pa_cons (pv 8) pa_nil))))))) (pss_one (ps_ret pe_bl)) pss_nil)
        (pss_cons (ps_par (i := 9) (j := 10) rfl scRight.nd rfl rfl (by decide) rfl rfl (pa_cons (pe_make (dvs := []) (ds := []) MV FV r6 rfl TV.gV bV .nil pass0 (pa_cons (pv 3) (pa_cons (pe_has GPr r1 (pa_cons (pe_dget (units1 hr) (pv 1) pe_str (fun _ _ => rfl)) (pa_cons (pv 8) pa_nil))) pa_nil)))
            (pa_cons (pe_op op_cat (pe_slice sl_list (pv 5) po_none (po_some (pv 7))) (pe_slice sl_list (pv 5) (po_some (pe_op op_add (pv 7) pe_int)) po_none)) pa_nil)) rfl)
        (pss_cons (ps_set (i := 11) scRight.nd rfl (.inl rfl) (pe_has GO r2 (pa_cons (pv 0) (pa_cons (pv 10) pa_nil))))
        (pss_cons (ps_if (pt_cmpR (op_ownEqS VO.eq2 r3) (pv 9) (pe_make (dvs := []) (ds := []) MV FV r6 rfl TV.gV bV .nil pass0 (pa_cons (pv 3) (pa_cons (pe_has GPr r1 (pa_cons (pe_dget (units1 hr) (pv 1) pe_str (fun _ _ => rfl)) (pa_cons (pv 11) pa_nil))) pa_nil))) (nomark _)) (pss_one (ps_ret pe_bl)) pss_nil)
        (pss_cons (ps_set (i := 12) scRight.nd rfl (.inl rfl) (pe_make (dvs := []) (ds := []) MV FV r6 rfl TV.gV bV .nil pass0 (pa_cons (pv 6) (pa_cons (pe_has GPr r1 (pa_cons (pe_dget (units1 hr) (pv 1) pe_str (fun _ _ => rfl)) (pa_cons (pv 8) pa_nil))) pa_nil))))
        (pss_one (ps_if (pt_cmpR op_ne (pe_cmpR (op_ownEqS VO.eq2 r3) (pv 9) (pv 12) (nomark _)) (pe_cmpR (op_ownEqS SE.eq r1) (pv 6) (pv 3) (nomark _)) (nomark _)) (pss_one (ps_ret pe_bl)) pss_nil))))))))
      (pss_one (ps_ret pe_bl)))))), ?_⟩
    refine ⟨.ref j, rfl, fun lo nlo => ?_⟩
    have nloj := hj.ne nlo
    refine ⟨upd_same, [(.inr "keys", .int 3), (.inr "size", .int 3), (.inr "rules", .int 4)], rfl, (by show 3 ≤ 15; decide), ?_⟩
    rw [upd_upd, merge3]
    refine ⟨j, lo, n, rfl, hj.upd nloj, by omega, nloj, upd_same, fun d NA SA RU RO H1 ks rules eds g r4' hj1 kp1' sd => ?_⟩
    have kp1 : Keep j H H1 := (Keep.new nlo).trans kp1'
    have hT1 := tabs_keep hj kp1 hT
    refine ⟨⟨_, rfl⟩, .ref d, rfl, j, d, NA, SA, RU, RO, n + 100, ks, rules, eds, rfl, hj1, sd, g, r4', fun H2 L s2 nL hL => ?_⟩
    obtain ⟨tsum, tlen⟩ := text_sum g r4'
    have rd := drawn_read g r4'
    have cut := cut_rule g
    refine ⟨_, L, drawnL ks rules, rfl, rfl, .inl (SqL.of hL), tsum, ?_⟩
    have ezt : Txt.join (PySem.Str.ofString "\n") (drawnL ks rules) = joined (drawnL ks rules) := rfl
    rw [ezt]
    generalize joined (drawnL ks rules) = zt at tlen rd cut
    refine ⟨_, rfl, ?_⟩
    intro m dm nm ndm nem
    refine ⟨m, dm, _, rfl, upd_same, .inr ⟨zt, rfl, by omega, fun n e => inr_ne rd e, fun ks' rows' eds' e H3 a b e4 r k3 e1 e2 e3 e5 e6 => ⟨rfl, ?_⟩⟩⟩
    rw [rd] at e
    cases e
    have s3 := s2.trans (mk_same nm ndm nem k3)
    have shA : ShAt K C CR H3 m zt ks (rules.map (fun ls => (ruleLine ks ls, ls))) eds := ⟨⟨dm, a, b, e4, r, e1, e2, SqT.of e3, e5, e6⟩⟩
    clear e1 e2 e3 e5 e6 k3 nm ndm nem hL nL
    refine ⟨_, rfl, ?_⟩
    intro tw dm2 nm2 ndm2 nem2
    refine ⟨tw, dm2, _, rfl, upd_same, .inr ⟨zt, rfl, by omega, fun n e => inr_ne rd e, fun ks' rows' eds' e H4 a2 b2 e42 r2' k13 e1 e2 e3 e5 e6 => ⟨rfl, ?_⟩⟩⟩
    rw [rd] at e
    cases e
    have s4' := mk_same nm2 ndm2 nem2 k13
    have shB : ShAt K C CR H4 tw zt ks (rules.map (fun ls => (ruleLine ks ls, ls))) eds := ⟨⟨dm2, a2, b2, e42, r2', e1, e2, SqT.of e3, e5, e6⟩⟩
    replace shA := shA.pres (Pres.of s4')
    have s4 := s3.trans s4'
    generalize rules.map (fun ls => ((ruleLine ks ls, ls) : RuleL)) = rows at shA shB rd
    clear e1 e2 e3 e5 e6 k13 nm2 ndm2 nem2 s4' s3 s2 tsum nlo
    have hd4 := s4 _ _ sd.hd
    have ess : sizesV ks = rowV (ks.map (fun q : Key => q.2)) := by
      unfold sizesV rowV
      rw [List.map_map]
      rfl
    have hS4 : SqL K H4 SA (rowV (ks.map (fun q : Key => q.2))) := by
      rw [← ess]
      exact SqL.of (s4 _ _ sd.hS)
    have h3 := g.three
    refine ⟨.ref d, rfl, d, .ref SA, rfl, .inl ⟨_, .inr "sizes", .inl hd4, rfl, rfl⟩, SA, ks.map (fun q : Key => q.2), rfl, hS4, by rw [List.length_map]; exact h3, fun s hs => ?_, fun H5 q s5 nq hq => ⟨_, _, _, rfl, ?_⟩⟩
    · obtain ⟨k, hk, rfl⟩ := List.mem_map.mp hs
      exact g.sz k hk
    have nqj : q ≠ j := (hj1.same s4).ne nq
    have s15 := s4.trans s5
    replace shA := shA.pres (Pres.of s5)
    replace shB := shB.pres (Pres.of s5)
    have hd5 := s5 _ _ hd4
    have hN5 := s15 _ _ sd.hN
    have hj5 := hj1.same s15
    have hT5 := hT1.ext s15
    have kp5 : KeepN j H H5 := (KeepN.of kp1).trans (KeepN.same s15)
    have hO5 : RowsAt K H5 RO eds := by
      obtain ⟨tr, e1, e2⟩ := sd.hO
      exact ⟨tr, s15 _ _ e1, Paired.mapP e2 fun t r e => sqT_same s15 e⟩
    have ndj := sd.nd
    have nNj := sd.nN
    have nOj := sd.nO
    clear hd4 hS4 s4 s5 s15 sd hT1 hj1 hT kp1 kp1' nq
    dsimp only
    -- the wider sheet
    have gw := wide_good g
    have rdw := drawn_read gw (by decide)
    have wt := wide_text (ks := ks) g.one
    obtain ⟨rest, ecut⟩ := cut
    obtain ⟨k0, hk0⟩ : ∃ k0, ks[0]? = some k0 := ⟨_, List.getElem?_eq_getElem (by have := g.one; omega)⟩
    have n0 := g.nm k0 (List.mem_of_getElem? hk0)
    have l0 := n0.len
    have en0 : nameOf ks 0 = k0.1 := by
      unfold nameOf
      rw [List.getD_eq_getElem?_getD, hk0]
      rfl
    have at0 : atI (namesV ks) 0 = some (.str k0.1) := atI_nat (j := 0) (by unfold namesV; rw [List.getElem?_map, hk0]; rfl)
    have lJ : (joined (ks.map keyLine)).length ≤ 3 * (60 + 1) := joined_len (by rw [List.length_map]; exact h3) fun l hl => by
      obtain ⟨k, hk, rfl⟩ := List.mem_map.mp hl
      exact (key_ok (g.nm k hk) (by have := g.sz k hk; omega)).1
    rw [en0] at wt
    generalize joined (ks.map keyLine) = J at ecut wt lJ
    have lr : ("\nrule " : Str).length = 6 := by decide +kernel
    have l1 : (" != 1" : Str).length = 5 := by decide +kernel
    have sl : (sizeLine : Nat) = 16777216 := sizeLine_eq
    refine ⟨_, rfl, ⟨_, rfl⟩, zt, ruS, rfl, rfl, by decide +kernel, by omega, fun cp ncp => ?_⟩
    rw [ecut]
    have sc := same_upd (o := .lst ((J :: rest).map V.str)) ncp
    refine ⟨cp, _, 0, .str J, rfl, rfl, SqL.of upd_same, atI_nat (j := 0) rfl, _, _, rfl, rfl, by rw [lr]; omega, ?_⟩
    refine ⟨.ref d, rfl, d, .ref NA, rfl, .inl ⟨_, .inr "names", .inl (sc _ _ hd5), rfl, rfl⟩, NA, _, 0, _, rfl, rfl, SqL.of (sc _ _ hN5), at0, _, _, rfl, rfl, by rw [Str.length_append, lr]; omega, ?_⟩
    refine ⟨_, _, rfl, rfl, by rw [Str.length_append, Str.length_append, lr, l1]; omega, ?_⟩
    have lw : (joined (drawnL ks [[wLit]])).length ≤ 500 := (text_sum gw (by decide)).2
    rw [wt]
    generalize joined (drawnL ks [[wLit]]) = zw at rdw lw
    clear wt ecut lJ
    intro wd dm3 nm3 ndm3 nem3
    refine ⟨wd, dm3, _, rfl, upd_same, .inr ⟨zw, rfl, by omega, fun n e => inr_ne rdw e, fun ks' rows' eds' e H6 a3 b3 e43 r3' k33 e1 e2 e3 e5 e6 => ⟨rfl, ?_⟩⟩⟩
    rw [rdw] at e
    cases e
    have s6 := sc.trans (mk_same nm3 ndm3 nem3 k33)
    have sgW := good_sg (wide_good g)
    have shW : ShAt K C CR H6 wd zw ks ([[wLit]].map (fun ls => (ruleLine ks ls, ls))) (keepR [wLit] (worthsOf (ks.map (fun q : Key => q.2)))) := ⟨⟨dm3, a3, b3, e43, r3', e1, e2, SqT.of e3, e5, e6⟩⟩
    generalize [[wLit]].map (fun ls => ((ruleLine ks ls, ls) : RuleL)) = rowsW at shW
    generalize keepR [wLit] (worthsOf (ks.map (fun q : Key => q.2))) = edsW at shW sgW
    clear e1 e2 e3 e5 e6 k33 nm3 ndm3 nem3 sc rdw gw lw
    replace shA := shA.pres (Pres.of s6)
    replace shB := shB.pres (Pres.of s6)
    have hd6 := s6 _ _ hd5
    have hN6 := s6 _ _ hN5
    have hj6 := hj5.same s6
    have hT6 := hT5.ext s6
    have kp6 := kp5.trans (KeepN.same s6)
    have hO6 : RowsAt K H6 RO eds := by
      obtain ⟨tr, e1, e2⟩ := hO5
      exact ⟨tr, s6 _ _ e1, Paired.mapP e2 fun t r e => sqT_same s6 e⟩
    obtain ⟨ts, hq5, prq5⟩ := hq
    have hq6 := s6 _ _ hq5
    have prq := Paired.mapP prq5 fun t kn e => sqT_same s6 e
    clear hd5 hN5 hj5 hT5 kp5 hO5 hq5 prq5 s6
    have sg := good_sg g
    have ndk := knowns_nodup (ks.map (fun q : Key => q.2))
    have few := knowns_few h3 g.sz
    have two := knowns_two g.one g.sz
    have kok : ∀ kn ∈ knownsOf (ks.map (fun q : Key => q.2)), KnOk ks kn := fun kn h => knowns_ok h
    generalize knownsOf (ks.map (fun q : Key => q.2)) = kns at prq ndk few two kok
    have lts : ts.length = kns.length := Paired.length prq
    refine ⟨.ref q, rfl, q, _, rfl, SqL.of hq6, ?_⟩
    refine for_it (walk_enum (K := K) (a := q) (xs := ts.map V.ref)) (fun i σ H' => ∃ v7 v8 v9 v10 v11 v12 : Option V, σ = [some (.ref j), some (.ref d), some (.str zt), some (.ref m), some (.ref tw), some (.ref q), some (.ref wd), v7, v8, v9, v10, v11, v12] ∧ Tabs TT H' ∧ Jar H' j (n + 100 + i) ∧ KeepN j H6 H') ⟨_, _, _, _, _, _, rfl, hT6, hj6, KeepN.refl _ _⟩ (fun i σ H' _ ⟨_, _, _, _, _, _, _, _, _, kp⟩ => SqL.of (kp _ _ nqj hq6 (fun _ z => nomatch z))) ?_ ?_
    · rintro i x σ H7 H8 hi ⟨v7, v8, v9, v10, v11, v12, rfl, hT7, hj7, kp7⟩ ⟨T1, x1, x2, rfl, nT, rfl, g1, g2⟩
      dsimp only at g1 g2
      cases g1
      rw [List.getElem?_map] at g2
      obtain ⟨t, ht, rfl⟩ := Option.map_eq_some_iff.mp g2
      obtain ⟨kn, hkn, htk⟩ := paired_get prq ht
      have ilt : i < kns.length := (List.getElem?_eq_some_iff.mp hkn).1
      have okn := kok kn (List.mem_of_getElem? hkn)
      have s8 := same_upd (o := .tup [V.int (i : Nat), V.ref t]) nT
      refine ⟨T1, _, rfl, SqT.of upd_same, rfl, .int (i : Nat), _, rfl, .ref t, _, rfl, rfl, ?_⟩
      have kp8 := kp7.trans (KeepN.same s8)
      have hT8 := hT7.ext s8
      have hj8 := hj7.same s8
      generalize (upd H7 T1 (.tup [V.int (i : Nat), V.ref t])) = H8 at kp8 hT8 hj8
      clear s8 hT7 hj7 kp7 nT
      have rowsN : ∀ {H' : Hp}, KeepN j H6 H' → RowsAt K H' RO eds := fun {H'} kp => by
        obtain ⟨tr, e1, e2⟩ := hO6
        exact ⟨tr, kp _ _ nOj e1 (fun _ z => nomatch z), Paired.mapP e2 fun t r e => sqT_pres e (Pres.keepN hj6 kp)⟩
      dsimp only [gName]
      refine ⟨_, rfl, _, rfl, _, rfl, _, rfl, m, tw, d, NA, SA, RU, RO, t, zt, ks, rows, eds, kn, rfl, hT8, shA.pres (Pres.keepN hj6 kp8), shB.pres (Pres.keepN hj6 kp8), sg, kp8 _ _ ndj hd6 (fun _ z => nomatch z), kp8 _ _ nNj hN6 (fun _ z => nomatch z), rowsN kp8, sqT_pres htk (Pres.keepN hj6 kp8), okn, g.nm, g.eqL, g.one, g.sz, fun H9 e9 T9 => ⟨_, rfl, ?_⟩⟩
      refine ite2 (fun z => by cases z) (fun _ => ?_)
      have kp9 := kp8.trans (KeepN.ext e9)
      have hj9 := hj8.ext e9
      clear kp8 hT8 hj8 e9
      dsimp only [tNext, tSeq, tPar]
      have hd9 := kp9 _ _ ndj hd6 (fun _ z => nomatch z)
      refine rd_mkV2 (S := m) (N := NA) (t := t) (ia := 3) (ic := 8) (z := zt) (ks := ks) (rows := rows) (eds := eds) (kn := kn) (shA.pres (Pres.keepN hj6 kp9)) sg rfl (fun R r => ⟨.ref d, rfl, d, .ref NA, rfl, .inl ⟨_, .inr "names", .inl hd9, rfl, rfl⟩, r⟩) rfl (kp9 _ _ nNj hN6 (fun _ z => nomatch z)) okn (sqT_pres htk (Pres.keepN hj6 kp9)) (fun v H10 s10 nv hv10 => ?_)
      have kp10 := kp9.trans (KeepN.same s10)
      have hj10 := hj9.same s10
      have T10 := T9.ext s10
      have hq10 := kp10 _ _ nqj hq6 (fun _ z => nomatch z)
      clear kp9 hj9 T9 s10 nv hd9
      refine ⟨.ref q, rfl, .int (i : Nat), rfl, _, rfl, q, _, rfl, SqL.of hq10, fun c1 nc1 => ?_⟩
      have q1 := same_upd (o := .lst (cutV (ts.map V.ref) none (some ((i : Nat) : Int)))) nc1
      refine ⟨.ref q, rfl, .int (i : Nat), rfl, _, _, rfl, rfl, _, rfl, q, _, rfl, SqL.of (q1 _ _ hq10), fun c2 nc2 => ?_⟩
      have q2 := same_upd (o := .lst (cutV (ts.map V.ref) (some (((i : Nat) : Int) + 1)) none)) nc2
      have e1 : cutV (ts.map V.ref) none (some ((i : Nat) : Int)) = (ts.map V.ref).take i := cut_head _ i
      have e2 : cutV (ts.map V.ref) (some (((i : Nat) : Int) + 1)) none = (ts.map V.ref).drop (i + 1) := cut_tail _ i
      rw [e1] at q1 nc2 q2 ⊢
      rw [e2] at q2 ⊢
      have lT : (ts.map V.ref).length = kns.length := by rw [List.length_map]; exact lts
      have l1 : ((ts.map V.ref).take i).length = i := by rw [List.length_take]; omega
      have l2 : ((ts.map V.ref).drop (i + 1)).length = kns.length - (i + 1) := by rw [List.length_drop]; omega
      refine ⟨c1, c2, _, _, rfl, rfl, get_new upd_same nc2, upd_same, Nat.le_of_lt (small1000 (by omega)), fun oc noc => ?_⟩
      have q3 := same_upd (o := .lst ((ts.map V.ref).take i ++ (ts.map V.ref).drop (i + 1))) noc
      have s13 := q1.trans (q2.trans q3)
      refine ⟨_, _, rfl, ?_⟩
      have hoc := upd_same (H := upd (upd H10 c1 (.lst ((ts.map V.ref).take i))) c2 (.lst ((ts.map V.ref).drop (i + 1)))) (a := oc) (o := .lst ((ts.map V.ref).take i ++ (ts.map V.ref).drop (i + 1)))
      have nocj : oc ≠ j := (hj10.same (q1.trans q2)).ne noc
      generalize (upd (upd (upd H10 c1 (.lst ((ts.map V.ref).take i))) c2 (.lst ((ts.map V.ref).drop (i + 1)))) oc (.lst ((ts.map V.ref).take i ++ (ts.map V.ref).drop (i + 1)))) = H13 at s13 hoc
      have kp13 := kp10.trans (KeepN.same s13)
      have hj13 := hj10.same s13
      have T13 := T10.ext s13
      have hv13 := hv10.pres (Pres.of s13)
      clear q1 q2 q3 kp10 hj10 T10 hv10 s13 nc1 nc2 noc e1 e2 hq10
      refine ⟨_, rfl, _, rfl, j, n + 100 + i, .ref oc, rfl, hj13, by omega, .inl ⟨oc, _, rfl, nocj, SqL.of hoc, by rw [List.length_append]; omega, by rw [List.length_append]; omega, fun y H14 hy hj14 kp14 => ?_⟩⟩
      obtain ⟨i2, ni2, hi2⟩ := but_one hy
      rw [List.getElem?_map] at hi2
      obtain ⟨t2, ht2, rfl⟩ := Option.map_eq_some_iff.mp hi2
      obtain ⟨kn2, hkn2, htk2⟩ := paired_get prq ht2
      have okn2 := kok kn2 (List.mem_of_getElem? hkn2)
      have hv14 := hv13.pres (Pres.keep hj13 kp14)
      have T14 := tabs_keep hj13 kp14 T13
      have kp14' := kp13.trans (KeepN.of kp14)
      clear hv13 T13 kp13 kp14 hj13 hoc hy
      have hd14 := kp14' _ _ ndj hd6 (fun _ z => nomatch z)
      dsimp only [gName]
      refine ⟨.ref v, rfl, ?_⟩
      refine rd_mkV2 (S := m) (N := NA) (t := t2) (ia := 3) (ic := 11) (z := zt) (ks := ks) (rows := rows) (eds := eds) (kn := kn2) (shA.pres (Pres.keepN hj6 kp14')) sg rfl (fun R r => ⟨.ref d, rfl, d, .ref NA, rfl, .inl ⟨_, .inr "names", .inl hd14, rfl, rfl⟩, r⟩) rfl (kp14' _ _ nNj hN6 (fun _ z => nomatch z)) okn2 (sqT_pres htk2 (Pres.keepN hj6 kp14')) (fun u H15 s15 nu hu15 => ?_)
      have kp15 := kp14'.trans (KeepN.same s15)
      have hv15 := hv14.pres (Pres.of s15)
      have sA15 := shA.pres (Pres.keepN hj6 kp15)
      obtain ⟨dxu, fsu, u1⟩ := hu15.ins
      refine ⟨v, .ref CV, rfl, hv15.ins, VO.ti u1, VO.nf, v, u, m, m, zt, zt, ks, rows, rows, eds, eds, kn, kn2, rfl, sA15, sg, hv15, sA15, hu15, fun H16 s16 => ⟨_, rfl, _, rfl, ?_⟩⟩
      have nek : kn ≠ kn2 := fun e => by
        subst e
        have a := (List.getElem?_inj ilt ndk).mp (hkn.trans hkn2.symm)
        exact ni2 a.symm
      rw [decide_eq_true rfl, decide_eq_false nek]
      refine ite2 (fun z => by cases z) (fun _ => ?_)
      have kp16 := kp15.trans (KeepN.same s16)
      have hj16 := (hj14.same s15).same s16
      have T16 := (T14.ext s15).ext s16
      have hv16 := hv15.pres (Pres.of s16)
      clear kp15 kp14' hj14 T14 hv14 hv15 sA15 s15 s16 nu hu15 u1 hd14
      have hd16 := kp16 _ _ ndj hd6 (fun _ z => nomatch z)
      dsimp only [tNext, tSeq, tAsg, gName]
      refine rd_mkV2 (S := wd) (N := NA) (t := t) (ia := 6) (ic := 8) (z := zw) (ks := ks) (rows := rowsW) (eds := edsW) (kn := kn) (shW.pres (Pres.keepN hj6 kp16)) sgW rfl (fun R r => ⟨.ref d, rfl, d, .ref NA, rfl, .inl ⟨_, .inr "names", .inl hd16, rfl, rfl⟩, r⟩) rfl (kp16 _ _ nNj hN6 (fun _ z => nomatch z)) okn (sqT_pres htk (Pres.keepN hj6 kp16)) (fun u H17 s17 nu hu17 => ?_)
      have kp17 := kp16.trans (KeepN.same s17)
      have hv17 := hv16.pres (Pres.of s17)
      have sA17 := shA.pres (Pres.keepN hj6 kp17)
      have sW17 := shW.pres (Pres.keepN hj6 kp17)
      obtain ⟨dxu, fsu, u1⟩ := hu17.ins
      refine ⟨_, rfl, _, rfl, v, .ref CV, rfl, hv17.ins, VO.ti u1, VO.nf, v, u, m, wd, zt, zw, ks, rows, rowsW, eds, edsW, kn, kn, rfl, sA17, sg, hv17, sW17, hu17, fun H18 s18 => ⟨_, rfl, ?_⟩⟩
      have kp18 := kp17.trans (KeepN.same s18)
      obtain ⟨dxa, na, sa, ea, ra, a1, _⟩ := (shA.pres (Pres.keepN hj6 kp18)).at_
      obtain ⟨dxw, nw, sw, ew, rw', w1, _⟩ := (shW.pres (Pres.keepN hj6 kp18)).at_
      refine ⟨_, rfl, _, rfl, wd, .ref C, rfl, ⟨dxw, _, w1⟩, SE.ti a1, SE.fC, wd, dxw, _, zw, _, rfl, w1, sf_text, .inr ⟨m, dxa, _, zt, .ref C, rfl, a1, sf_text, SE.ti a1, SE.cC, fun H19 s19 => ⟨_, rfl, rfl, _, rfl, ?_⟩⟩⟩
      have eb : (decide (zt = zw) && decide (kn = kn)) = decide (zw = zt) := by
        rw [decide_eq_true rfl, Bool.and_true]
        exact decide_eq_decide.mpr ⟨Eq.symm, Eq.symm⟩
      rw [eb]
      refine ite2 (fun z => by simp at z) (fun _ => ?_)
      have s79 := s17.trans (s18.trans s19)
      exact ⟨_, _, _, _, _, _, rfl, T16.ext s79, (hj16.same s79).mono (by omega), kp16.trans (KeepN.same s79)⟩
    · rintro σ H7 ⟨v7, v8, v9, v10, v11, v12, rfl, hT7, hj7, kp7⟩
      rw [List.length_map, lts] at hj7
      exact k _ hT7 (hj7.mono (by omega)) (kp6.trans kp7)
end
end K03

namespace K03
open PySem L2 LamX
abbrev sLaw : Stmt := top 64
theorem seq_over {K : PySem.W.Frag} {H H5 H6 : Hp} {p a : Addr} {xs : List V} (s : Same H H5) (hp : H p = none) (k : KeepN p H5 H6) (q : SqL K H a xs) : SqL K H6 a xs := by
  rcases q with (q | ⟨o, q⟩) | q
  · exact .inl (.inl (k _ _ (ne_of_none q hp) (s _ _ q) (fun _ z => nomatch z)))
  · exact .inl (.inr ⟨o, k _ _ (ne_of_none q hp) (s _ _ q) (fun _ z => nomatch z)⟩)
  · exact .inr q
section
variable {base : Heap} {P : Program} {w : World} {K : PySem.W.Frag} {mg : Str → Option Value}
def spLaw (TT : List (Addr × Str)) (K : PySem.W.Frag) : Sp := (fun vs H Q _ => ∃ (a : Addr) (ns : List Int), vs = [.ref a] ∧ Tabs TT H ∧ SqL K H a (ns.map V.int) ∧ ns.length ≤ 63 ∧ ∀ H', Q (.bl true) H')
abbrev nLaw : List Str := ["_law_script", "_law_k", "_law_jar_here", "_law_turn"]
theorem scLaw : FnScope nLaw ["_law_script"] (defScope sLaw) := ⟨rfl, rfl, rfl, by decide +kernel, rfl, by decide +kernel, by decide +kernel⟩
theorem ok_law {f : Addr} {TT : List (Addr × Str)} {fd : FuncData} (F : Fun K "law" "law" sLaw f fd) (T : Txt9 K mg) (GJ : Has P w K mg base "_law_jar" 1 ["_law_script", "_law_k"] (spJar K)) (GR : HasG P w K mg base "_law_right" 10 ["_law_jar_here"] (spRight TT)) : FnG P w K mg base 11 f fd ["_law_script"] (spLaw TT K) := by
  refine K03.Fun.okG F scLaw (fun vs H Q E h => ?_) (fun cdv A outer s H vs Q E hgu hr h => ?_)
  · obtain ⟨a, ns, rfl, _⟩ := h
    rfl
  · obtain ⟨a, ns, rfl, hT, hS, hn, k⟩ := h
    have r1 : Room 1 _ := hr.mono (by decide)
    refine ⟨_, pss_cons (ps_for PassesOwn.never rfl (pi_range1 (by rfl) T.range (pa_cons (pe_callB (call_max2 rfl) (by rfl) T.max (by decide +kernel) (pa_cons pe_int (pa_cons (pe_callB (call_min2 rfl) (by rfl) T.min (by decide +kernel)
          (pa_cons pe_int (pa_cons (pe_callB call_len_seq (by rfl) T.len PySem.boot_len (pa_cons (pv 0) pa_nil)) pa_nil))) pa_nil))) pa_nil)) (pg_name (i := 1) scLaw.nd rfl (.inl rfl))
        (pss_cons (ps_set (i := 2) scLaw.nd rfl (.inr rfl) (pe_has GJ r1 (pa_cons (pv 0) (pa_cons (pv 1) pa_nil))))
        (pss_one (ps_if (pt_not (pt_val (pe_callB (cr_all rfl) (by rfl) T.all (by decide +kernel) (pa_cons (pe_lc (own := [("_law_turn", 3)]) (g := gName 3) (tt := tYes) rfl scLaw.nd (pi_range1 (by rfl) T.range (pa_cons pe_int pa_nil))
          (blkOk_by (N := nLaw) (sc := defScope sLaw) (by decide +kernel)) (fun _ _ _ _ _ => pg_name (i := 3) scLaw.nd rfl (Or.inl rfl)) (fun _ _ _ _ _ => pts_nil)
          (fun _ _ _ _ _ => pe_hasG GR hgu hr (pa_cons (pv 2) pa_nil))) pa_nil)))) (pss_one (ps_ret pe_bl)) pss_nil))))
      (pss_one (ps_ret pe_bl)), ?_⟩
    refine ⟨.ref a, rfl, a, _, rfl, .inl hS, ?_⟩
    refine ⟨2, _, rfl, 1, _, rfl, ?_⟩
    rw [List.length_map]
    obtain ⟨N, hN, N2⟩ : ∃ N : Nat, (if (if (ns.length : Int) < 2 then (ns.length : Int) else 2) > 1 then (if (ns.length : Int) < 2 then (ns.length : Int) else 2) else 1) = (N : Int) ∧ N ≤ 2 := by
      by_cases c : (ns.length : Int) < 2
      · rw [if_pos c]
        by_cases c2 : (ns.length : Int) > 1
        · rw [if_pos c2]
          exact ⟨ns.length, rfl, by omega⟩
        · rw [if_neg c2]
          exact ⟨1, rfl, by decide⟩
      · rw [if_neg c, if_pos (by decide)]
        exact ⟨2, rfl, by decide⟩
    rw [hN]
    refine ⟨_, rfl, by omega, by omega, for_range (lo := 0) (n := ((N : Nat) : Int).toNat) (fun i σ H' => ∃ v1 v2 v3 : Option V, σ = [some (.ref a), v1, v2, v3] ∧ Tabs TT H' ∧ SqL K H' a (ns.map V.int)) ⟨_, _, _, rfl, hT, hS⟩ ?_ ?_⟩
    · rintro i σ H4 hi ⟨v1, v2, v3, rfl, hT4, h4⟩
      refine ⟨.ref a, rfl, .int (0 + (i : Int)), rfl, a, ns, 0 + (i : Int), rfl, h4, by omega, by omega, fun p H5 np s5 hj5 => ?_⟩
      refine ⟨_, rfl, by decide, by decide, fun D nD => ?_⟩
      have nDp := hj5.ne nD
      have sD := same_upd (o := .lst []) nD
      refine lc_range (lo := 0) (n := 3) (fun t H6 => Tabs TT H6 ∧ Jar H6 p (400 * t) ∧ KeepN p H5 H6 ∧ H6 D = some (.lst (List.replicate t (V.bl true)))) ⟨(hT4.ext s5).ext sD, hj5.upd nDp, KeepN.same sD, upd_same⟩ ?_ ?_
      · rintro t H6 ht ⟨hT6, hj6, kp6, hD⟩
        refine ⟨rfl, .ref p, rfl, p, 400 * t, rfl, hT6, hj6, by omega, fun H7 hT7 hj7 kp7 => ?_⟩
        have hD7 := kp7 _ _ nDp hD (fun _ z => nomatch z)
        refine ⟨_, hD7, by rw [List.length_replicate]; exact small1000 (by omega), fun q hq => ?_, (hj7.upd nDp).mono (by omega), fun b o nb hb nt => ?_, ?_⟩
        · obtain ⟨ps, h1, h2, h3⟩ := hT7 q hq
          refine ⟨ps, by rw [upd_ne (ne_of h1 hD7 (by simp))]; exact h1, h2, fun pos cv hc => ?_⟩
          obtain ⟨c, e1, e2⟩ := h3 pos cv hc
          exact ⟨c, e1, by rw [upd_ne (ne_of e2 hD7 (by simp [CodeO]))]; exact e2⟩
        · have e := kp7 b o nb (kp6 b o nb hb nt) nt
          rw [upd_ne (fun z => by
            subst z
            rw [nD] at hb
            cases hb)]
          exact e
        · rw [upd_same, List.replicate_succ']
      · rintro H6 ⟨hT6, hj6, kp6, hD⟩
        refine ⟨D, List.replicate 3 true, rfl, SqL.of hD, _, rfl, ?_⟩
        refine ite2 (fun z => absurd z (by decide)) (fun _ => ?_)
        exact ⟨_, _, _, rfl, hT6, seq_over s5 np kp6 h4⟩
    · rintro σ H4 ⟨v1, v2, v3, rfl, _, h4⟩
      exact k H4
end
end K03

namespace K03
open L2 PySem PySem.W PyProof.Rows ClX StX
theorem FnOk.toG {P : Program} {w : World} {K : PySem.W.Frag} {mg : Str → Option Value} {base : Heap} {k : Nat} {f : Addr} {fd : FuncData} {ps : List Str} {sp : Sp} (F : FnOk P w K mg base CX0 k f fd ps sp) : FnG P w K mg base k f fd ps sp :=
  ⟨F.len, fun A outer s H args us vs Q E _ hr he hb hv h => F.run A outer s H args us vs Q E hr he hb hv h⟩
theorem FnOk.rawN {P : Program} {w : World} {K : PySem.W.Frag} {mg : Str → Option Value} {base : Heap} {CX : CXT} {k : Nat} {f : Addr} {fd : FuncData} {ps : List Str} {sp : Sp} (F : FnOk P w K mg base CX k f fd ps sp) (hb : Binds K fd ps []) : FnR P w K mg base CX k f sp :=
  FnR.imp (FnOk.raw F hb .nil) fun vs H Q E h => by rw [List.append_nil]; exact h
theorem all_mk {P : Program} {w : World} {K : PySem.W.Frag} {h : Heap} {mg : Str → Option Value} {fa : Addr} (X : K.In h) (G : h.Ns mainGlobals mg) (hfa : mg "law" = some (.ref fa))
    {f14 : Addr} {od14 an14 : Option Addr} {sl14 : Array (Option Value)} {oc14 kV14 dc14 pm14 cd14 ct14 : Value}
    {f15 : Addr} {od15 an15 : Option Addr} {sl15 : Array (Option Value)} {oc15 kV15 dc15 pm15 cd15 ct15 : Value}
    {f16 : Addr} {od16 an16 : Option Addr} {sl16 : Array (Option Value)} {oc16 kV16 dc16 pm16 cd16 ct16 : Value}
    {f17 : Addr} {od17 an17 : Option Addr} {sl17 : Array (Option Value)} {oc17 kV17 dc17 pm17 cd17 ct17 : Value}
    {f18 : Addr} {od18 an18 : Option Addr} {sl18 : Array (Option Value)} {oc18 kV18 dc18 pm18 cd18 ct18 : Value}
    {f22 : Addr} {od22 an22 : Option Addr} {sl22 : Array (Option Value)} {oc22 kV22 dc22 pm22 cd22 ct22 : Value}
    {f23 : Addr} {od23 an23 : Option Addr} {sl23 : Array (Option Value)} {oc23 kV23 dc23 pm23 cd23 ct23 : Value}
    {f24 : Addr} {od24 an24 : Option Addr} {sl24 : Array (Option Value)} {oc24 kV24 dc24 pm24 cd24 ct24 : Value}
    {f25 : Addr} {od25 an25 : Option Addr} {sl25 : Array (Option Value)} {oc25 kV25 dc25 pm25 cd25 ct25 : Value}
    {f26 : Addr} {od26 an26 : Option Addr} {sl26 : Array (Option Value)} {oc26 kV26 dc26 pm26 cd26 ct26 : Value}
    {f27 : Addr} {od27 an27 : Option Addr} {sl27 : Array (Option Value)} {oc27 kV27 dc27 pm27 cd27 ct27 : Value}
    {f30 : Addr} {od30 an30 : Option Addr} {sl30 : Array (Option Value)} {oc30 kV30 dc30 pm30 cd30 ct30 : Value}
    {f31 : Addr} {od31 an31 : Option Addr} {sl31 : Array (Option Value)} {oc31 kV31 dc31 pm31 cd31 ct31 : Value}
    {f32 : Addr} {od32 an32 : Option Addr} {sl32 : Array (Option Value)} {oc32 kV32 dc32 pm32 cd32 ct32 : Value}
    {f35 : Addr} {od35 an35 : Option Addr} {sl35 : Array (Option Value)} {oc35 kV35 dc35 pm35 cd35 ct35 : Value}
    {f46 : Addr} {od46 an46 : Option Addr} {sl46 : Array (Option Value)} {oc46 kV46 dc46 pm46 cd46 ct46 : Value}
    {f47 : Addr} {od47 an47 : Option Addr} {sl47 : Array (Option Value)} {oc47 kV47 dc47 pm47 cd47 ct47 : Value}
    {f48 : Addr} {od48 an48 : Option Addr} {sl48 : Array (Option Value)} {oc48 kV48 dc48 pm48 cd48 ct48 : Value}
    {f50 : Addr} {od50 an50 : Option Addr} {sl50 : Array (Option Value)} {oc50 kV50 dc50 pm50 cd50 ct50 : Value}
    {f51 : Addr} {od51 an51 : Option Addr} {sl51 : Array (Option Value)} {oc51 kV51 dc51 pm51 cd51 ct51 : Value}
    {f52 : Addr} {od52 an52 : Option Addr} {sl52 : Array (Option Value)} {oc52 kV52 dc52 pm52 cd52 ct52 : Value}
    {f53 : Addr} {od53 an53 : Option Addr} {sl53 : Array (Option Value)} {oc53 kV53 dc53 pm53 cd53 ct53 : Value}
    {f54 : Addr} {od54 an54 : Option Addr} {sl54 : Array (Option Value)} {oc54 kV54 dc54 pm54 cd54 ct54 : Value}
    {f55 : Addr} {od55 an55 : Option Addr} {sl55 : Array (Option Value)} {oc55 kV55 dc55 pm55 cd55 ct55 : Value}
    {f56 : Addr} {od56 an56 : Option Addr} {sl56 : Array (Option Value)} {oc56 kV56 dc56 pm56 cd56 ct56 : Value}
    {f57 : Addr} {od57 an57 : Option Addr} {sl57 : Array (Option Value)} {oc57 kV57 dc57 pm57 cd57 ct57 : Value}
    {f58 : Addr} {od58 an58 : Option Addr} {sl58 : Array (Option Value)} {oc58 kV58 dc58 pm58 cd58 ct58 : Value}
    {f59 : Addr} {od59 an59 : Option Addr} {sl59 : Array (Option Value)} {oc59 kV59 dc59 pm59 cd59 ct59 : Value}
    {f60 : Addr} {od60 an60 : Option Addr} {sl60 : Array (Option Value)} {oc60 kV60 dc60 pm60 cd60 ct60 : Value}
    {f61 c61 PT : Addr} {od61 an61 : Option Addr} {sl61 : Array (Option Value)} {oc61 kV61 dc61 pm61 ct61 : Value}
    {f62 : Addr} {od62 an62 : Option Addr} {sl62 : Array (Option Value)} {oc62 kV62 dc62 pm62 cd62 ct62 : Value}
    {f63 : Addr} {od63 an63 : Option Addr} {sl63 : Array (Option Value)} {oc63 kV63 dc63 pm63 cd63 ct63 : Value}
    {f64 : Addr} {od64 an64 : Option Addr} {sl64 : Array (Option Value)} {oc64 kV64 dc64 pm64 cd64 ct64 : Value}
    {CB CP CS CM CA CN CO C CR CV : Addr}
    {pV1 : Addr} {rrV1 : List Value} {pV2 pV3 pV4 pV5 pV6 pG2 pG3 pG4 pG5 : Addr} {rrV2 rrV3 rrV4 rrV5 rrV6 rrG2 rrG3 rrG4 rrG5 : List Value}
    {fE : Addr} {odE anE : Option Addr} {slE : Array (Option Value)} {ocE kVE dcE pmE cdE ctE : Value}
    {fN : Addr} {odN anN : Option Addr} {slN : Array (Option Value)} {ocN kVN dcN pmN cdN ctN : Value}
    {fV0 : Addr} {odV0 anV0 : Option Addr} {slV0 : Array (Option Value)} {ocV0 kVV0 dcV0 pmV0 cdV0 ctV0 : Value}
    {fV1 : Addr} {odV1 anV1 : Option Addr} {slV1 : Array (Option Value)} {ocV1 kVV1 dcV1 pmV1 cdV1 ctV1 : Value}
    {fV2 : Addr} {odV2 anV2 : Option Addr} {slV2 : Array (Option Value)} {ocV2 kVV2 dcV2 pmV2 cdV2 ctV2 : Value}
    {fV3 : Addr} {odV3 anV3 : Option Addr} {slV3 : Array (Option Value)} {ocV3 kVV3 dcV3 pmV3 cdV3 ctV3 : Value}
    {fV4 : Addr} {odV4 anV4 : Option Addr} {slV4 : Array (Option Value)} {ocV4 kVV4 dcV4 pmV4 cdV4 ctV4 : Value}
    {fV5 : Addr} {odV5 anV5 : Option Addr} {slV5 : Array (Option Value)} {ocV5 kVV5 dcV5 pmV5 cdV5 ctV5 : Value}
    {fV6 : Addr} {odV6 anV6 : Option Addr} {slV6 : Array (Option Value)} {ocV6 kVV6 dcV6 pmV6 cdV6 ctV6 : Value}
    {fV8 : Addr} {odV8 anV8 : Option Addr} {slV8 : Array (Option Value)} {ocV8 kVV8 dcV8 pmV8 cdV8 ctV8 : Value}
    {fV9 : Addr} {odV9 anV9 : Option Addr} {slV9 : Array (Option Value)} {ocV9 kVV9 dcV9 pmV9 cdV9 ctV9 : Value}
    {fVA : Addr} {odVA anVA : Option Addr} {slVA : Array (Option Value)} {ocVA kVVA dcVA pmVA cdVA ctVA : Value}
    {fV12 : Addr} {odV12 anV12 : Option Addr} {slV12 : Array (Option Value)} {ocV12 kVV12 dcV12 pmV12 cdV12 ctV12 : Value}
    {fR0 : Addr} {odR0 anR0 : Option Addr} {slR0 : Array (Option Value)} {ocR0 kVR0 dcR0 pmR0 cdR0 ctR0 : Value}
    {fP : Addr} {odP anP : Option Addr} {slP : Array (Option Value)} {ocP kVP dcP pmP cdP ctP : Value}
    {fG2 : Addr} {odG2 anG2 : Option Addr} {slG2 : Array (Option Value)} {ocG2 kVG2 dcG2 pmG2 cdG2 ctG2 : Value}
    {fG3 : Addr} {odG3 anG3 : Option Addr} {slG3 : Array (Option Value)} {ocG3 kVG3 dcG3 pmG3 cdG3 ctG3 : Value}
    {fG4 : Addr} {odG4 anG4 : Option Addr} {slG4 : Array (Option Value)} {ocG4 kVG4 dcG4 pmG4 cdG4 ctG4 : Value}
    {fG5 : Addr} {odG5 anG5 : Option Addr} {slG5 : Array (Option Value)} {ocG5 kVG5 dcG5 pmG5 cdG5 ctG5 : Value}
    {fQ : Addr} {odQ anQ : Option Addr} {slQ : Array (Option Value)} {ocQ kVQ dcQ pmQ cdQ ctQ : Value}
    {tL tD t8 t9 tS tM tR tW : Tok} {pZ pL : Addr}
    {w1 w2 u1 u2 u3 : Tok} {odZ odL : Option Addr} {nZ nL : Nat} {slZ slL : Array (Option Value)}
    {odc61 : Option Addr} {vs61 : Array Value} {slc61 : Array (Option Value)}
    (a14 : PySem.W.nsIn K mainGlobals "lines_of" = some (some (.ref f14)))
    (l14 : K.lookup f14 = some ⟨oc14, od14, .func (PySem.W.fnOf "lines_of" "lines_of" (defArgs (top 14)) (defBody (top 14)) (defScope (top 14)) .none kV14 dc14 pm14 an14 cd14 ct14), sl14⟩)
    (c14 : PySem.W.codeIn K cd14 "lines_of" = true)
    (k14 : PySem.W.keepIn K (.ref f14) = true)
    (a15 : PySem.W.nsIn K mainGlobals "words_of" = some (some (.ref f15)))
    (l15 : K.lookup f15 = some ⟨oc15, od15, .func (PySem.W.fnOf "words_of" "words_of" (defArgs (top 15)) (defBody (top 15)) (defScope (top 15)) .none kV15 dc15 pm15 an15 cd15 ct15), sl15⟩)
    (c15 : PySem.W.codeIn K cd15 "words_of" = true)
    (k15 : PySem.W.keepIn K (.ref f15) = true)
    (a16 : PySem.W.nsIn K mainGlobals "is_name" = some (some (.ref f16)))
    (l16 : K.lookup f16 = some ⟨oc16, od16, .func (PySem.W.fnOf "is_name" "is_name" (defArgs (top 16)) (defBody (top 16)) (defScope (top 16)) .none kV16 dc16 pm16 an16 cd16 ct16), sl16⟩)
    (c16 : PySem.W.codeIn K cd16 "is_name" = true)
    (k16 : PySem.W.keepIn K (.ref f16) = true)
    (a17 : PySem.W.nsIn K mainGlobals "number_of" = some (some (.ref f17)))
    (l17 : K.lookup f17 = some ⟨oc17, od17, .func (PySem.W.fnOf "number_of" "number_of" (defArgs (top 17)) (defBody (top 17)) (defScope (top 17)) .none kV17 dc17 pm17 an17 cd17 ct17), sl17⟩)
    (c17 : PySem.W.codeIn K cd17 "number_of" = true)
    (k17 : PySem.W.keepIn K (.ref f17) = true)
    (a18 : PySem.W.nsIn K mainGlobals "is_int" = some (some (.ref f18)))
    (l18 : K.lookup f18 = some ⟨oc18, od18, .func (PySem.W.fnOf "is_int" "is_int" (defArgs (top 18)) (defBody (top 18)) (defScope (top 18)) .none kV18 dc18 pm18 an18 cd18 ct18), sl18⟩)
    (c18 : PySem.W.codeIn K cd18 "is_int" = true)
    (k18 : PySem.W.keepIn K (.ref f18) = true)
    (a22 : PySem.W.nsIn K mainGlobals "lit_of" = some (some (.ref f22)))
    (l22 : K.lookup f22 = some ⟨oc22, od22, .func (PySem.W.fnOf "lit_of" "lit_of" (defArgs (top 22)) (defBody (top 22)) (defScope (top 22)) .none kV22 dc22 pm22 an22 cd22 ct22), sl22⟩)
    (c22 : PySem.W.codeIn K cd22 "lit_of" = true)
    (k22 : PySem.W.keepIn K (.ref f22) = true)
    (a23 : PySem.W.nsIn K mainGlobals "lits_of" = some (some (.ref f23)))
    (l23 : K.lookup f23 = some ⟨oc23, od23, .func (PySem.W.fnOf "lits_of" "lits_of" (defArgs (top 23)) (defBody (top 23)) (defScope (top 23)) .none kV23 dc23 pm23 an23 cd23 ct23), sl23⟩)
    (c23 : PySem.W.codeIn K cd23 "lits_of" = true)
    (k23 : PySem.W.keepIn K (.ref f23) = true)
    (a24 : PySem.W.nsIn K mainGlobals "is_so" = some (some (.ref f24)))
    (l24 : K.lookup f24 = some ⟨oc24, od24, .func (PySem.W.fnOf "is_so" "is_so" (defArgs (top 24)) (defBody (top 24)) (defScope (top 24)) .none kV24 dc24 pm24 an24 cd24 ct24), sl24⟩)
    (c24 : PySem.W.codeIn K cd24 "is_so" = true)
    (k24 : PySem.W.keepIn K (.ref f24) = true)
    (a25 : PySem.W.nsIn K mainGlobals "truth" = some (some (.ref f25)))
    (l25 : K.lookup f25 = some ⟨oc25, od25, .func (PySem.W.fnOf "truth" "truth" (defArgs (top 25)) (defBody (top 25)) (defScope (top 25)) .none kV25 dc25 pm25 an25 cd25 ct25), sl25⟩)
    (c25 : PySem.W.codeIn K cd25 "truth" = true)
    (k25 : PySem.W.keepIn K (.ref f25) = true)
    (a26 : PySem.W.nsIn K mainGlobals "all_worths" = some (some (.ref f26)))
    (l26 : K.lookup f26 = some ⟨oc26, od26, .func (PySem.W.fnOf "all_worths" "all_worths" (defArgs (top 26)) (defBody (top 26)) (defScope (top 26)) .none kV26 dc26 pm26 an26 cd26 ct26), sl26⟩)
    (c26 : PySem.W.codeIn K cd26 "all_worths" = true)
    (k26 : PySem.W.keepIn K (.ref f26) = true)
    (a27 : PySem.W.nsIn K mainGlobals "fits" = some (some (.ref f27)))
    (l27 : K.lookup f27 = some ⟨oc27, od27, .func (PySem.W.fnOf "fits" "fits" (defArgs (top 27)) (defBody (top 27)) (defScope (top 27)) .none kV27 dc27 pm27 an27 cd27 ct27), sl27⟩)
    (c27 : PySem.W.codeIn K cd27 "fits" = true)
    (k27 : PySem.W.keepIn K (.ref f27) = true)
    (a30 : PySem.W.nsIn K mainGlobals "is_worth" = some (some (.ref f30)))
    (l30 : K.lookup f30 = some ⟨oc30, od30, .func (PySem.W.fnOf "is_worth" "is_worth" (defArgs (top 30)) (defBody (top 30)) (defScope (top 30)) .none kV30 dc30 pm30 an30 cd30 ct30), sl30⟩)
    (c30 : PySem.W.codeIn K cd30 "is_worth" = true)
    (k30 : PySem.W.keepIn K (.ref f30) = true)
    (a31 : PySem.W.nsIn K mainGlobals "are_pairs" = some (some (.ref f31)))
    (l31 : K.lookup f31 = some ⟨oc31, od31, .func (PySem.W.fnOf "are_pairs" "are_pairs" (defArgs (top 31)) (defBody (top 31)) (defScope (top 31)) .none kV31 dc31 pm31 an31 cd31 ct31), sl31⟩)
    (c31 : PySem.W.codeIn K cd31 "are_pairs" = true)
    (k31 : PySem.W.keepIn K (.ref f31) = true)
    (a32 : PySem.W.nsIn K mainGlobals "are_worths" = some (some (.ref f32)))
    (l32 : K.lookup f32 = some ⟨oc32, od32, .func (PySem.W.fnOf "are_worths" "are_worths" (defArgs (top 32)) (defBody (top 32)) (defScope (top 32)) .none kV32 dc32 pm32 an32 cd32 ct32), sl32⟩)
    (c32 : PySem.W.codeIn K cd32 "are_worths" = true)
    (k32 : PySem.W.keepIn K (.ref f32) = true)
    (a35 : PySem.W.nsIn K mainGlobals "view_of" = some (some (.ref f35)))
    (l35 : K.lookup f35 = some ⟨oc35, od35, .func (PySem.W.fnOf "view_of" "view_of" (defArgs (top 35)) (defBody (top 35)) (defScope (top 35)) .none kV35 dc35 pm35 an35 cd35 ct35), sl35⟩)
    (c35 : PySem.W.codeIn K cd35 "view_of" = true)
    (k35 : PySem.W.keepIn K (.ref f35) = true)
    (a46 : PySem.W.nsIn K mainGlobals "key_of" = some (some (.ref f46)))
    (l46 : K.lookup f46 = some ⟨oc46, od46, .func (PySem.W.fnOf "key_of" "key_of" (defArgs (top 46)) (defBody (top 46)) (defScope (top 46)) .none kV46 dc46 pm46 an46 cd46 ct46), sl46⟩)
    (c46 : PySem.W.codeIn K cd46 "key_of" = true)
    (k46 : PySem.W.keepIn K (.ref f46) = true)
    (a47 : PySem.W.nsIn K mainGlobals "read_keys" = some (some (.ref f47)))
    (l47 : K.lookup f47 = some ⟨oc47, od47, .func (PySem.W.fnOf "read_keys" "read_keys" (defArgs (top 47)) (defBody (top 47)) (defScope (top 47)) .none kV47 dc47 pm47 an47 cd47 ct47), sl47⟩)
    (c47 : PySem.W.codeIn K cd47 "read_keys" = true)
    (k47 : PySem.W.keepIn K (.ref f47) = true)
    (a48 : PySem.W.nsIn K mainGlobals "read_rules" = some (some (.ref f48)))
    (l48 : K.lookup f48 = some ⟨oc48, od48, .func (PySem.W.fnOf "read_rules" "read_rules" (defArgs (top 48)) (defBody (top 48)) (defScope (top 48)) .none kV48 dc48 pm48 an48 cd48 ct48), sl48⟩)
    (c48 : PySem.W.codeIn K cd48 "read_rules" = true)
    (k48 : PySem.W.keepIn K (.ref f48) = true)
    (a50 : PySem.W.nsIn K mainGlobals "_law_jar" = some (some (.ref f50)))
    (l50 : K.lookup f50 = some ⟨oc50, od50, .func (PySem.W.fnOf "_law_jar" "_law_jar" (defArgs (top 50)) (defBody (top 50)) (defScope (top 50)) .none kV50 dc50 pm50 an50 cd50 ct50), sl50⟩)
    (c50 : PySem.W.codeIn K cd50 "_law_jar" = true)
    (k50 : PySem.W.keepIn K (.ref f50) = true)
    (a51 : PySem.W.nsIn K mainGlobals "_law_take" = some (some (.ref f51)))
    (l51 : K.lookup f51 = some ⟨oc51, od51, .func (PySem.W.fnOf "_law_take" "_law_take" (defArgs (top 51)) (defBody (top 51)) (defScope (top 51)) .none kV51 dc51 pm51 an51 cd51 ct51), sl51⟩)
    (c51 : PySem.W.codeIn K cd51 "_law_take" = true)
    (k51 : PySem.W.keepIn K (.ref f51) = true)
    (a52 : PySem.W.nsIn K mainGlobals "_law_of" = some (some (.ref f52)))
    (l52 : K.lookup f52 = some ⟨oc52, od52, .func (PySem.W.fnOf "_law_of" "_law_of" (defArgs (top 52)) (defBody (top 52)) (defScope (top 52)) .none kV52 dc52 pm52 an52 cd52 ct52), sl52⟩)
    (c52 : PySem.W.codeIn K cd52 "_law_of" = true)
    (k52 : PySem.W.keepIn K (.ref f52) = true)
    (a53 : PySem.W.nsIn K mainGlobals "_law_names" = some (some (.ref f53)))
    (l53 : K.lookup f53 = some ⟨oc53, od53, .func (PySem.W.fnOf "_law_names" "_law_names" (defArgs (top 53)) (defBody (top 53)) (defScope (top 53)) .none kV53 dc53 pm53 an53 cd53 ct53), sl53⟩)
    (c53 : PySem.W.codeIn K cd53 "_law_names" = true)
    (k53 : PySem.W.keepIn K (.ref f53) = true)
    (a54 : PySem.W.nsIn K mainGlobals "_law_rows" = some (some (.ref f54)))
    (l54 : K.lookup f54 = some ⟨oc54, od54, .func (PySem.W.fnOf "_law_rows" "_law_rows" (defArgs (top 54)) (defBody (top 54)) (defScope (top 54)) .none kV54 dc54 pm54 an54 cd54 ct54), sl54⟩)
    (c54 : PySem.W.codeIn K cd54 "_law_rows" = true)
    (k54 : PySem.W.keepIn K (.ref f54) = true)
    (a55 : PySem.W.nsIn K mainGlobals "_law_is_so" = some (some (.ref f55)))
    (l55 : K.lookup f55 = some ⟨oc55, od55, .func (PySem.W.fnOf "_law_is_so" "_law_is_so" (defArgs (top 55)) (defBody (top 55)) (defScope (top 55)) .none kV55 dc55 pm55 an55 cd55 ct55), sl55⟩)
    (c55 : PySem.W.codeIn K cd55 "_law_is_so" = true)
    (k55 : PySem.W.keepIn K (.ref f55) = true)
    (a56 : PySem.W.nsIn K mainGlobals "_law_sheet" = some (some (.ref f56)))
    (l56 : K.lookup f56 = some ⟨oc56, od56, .func (PySem.W.fnOf "_law_sheet" "_law_sheet" (defArgs (top 56)) (defBody (top 56)) (defScope (top 56)) .none kV56 dc56 pm56 an56 cd56 ct56), sl56⟩)
    (c56 : PySem.W.codeIn K cd56 "_law_sheet" = true)
    (k56 : PySem.W.keepIn K (.ref f56) = true)
    (a57 : PySem.W.nsIn K mainGlobals "_law_sheet_lines" = some (some (.ref f57)))
    (l57 : K.lookup f57 = some ⟨oc57, od57, .func (PySem.W.fnOf "_law_sheet_lines" "_law_sheet_lines" (defArgs (top 57)) (defBody (top 57)) (defScope (top 57)) .none kV57 dc57 pm57 an57 cd57 ct57), sl57⟩)
    (c57 : PySem.W.codeIn K cd57 "_law_sheet_lines" = true)
    (k57 : PySem.W.keepIn K (.ref f57) = true)
    (a58 : PySem.W.nsIn K mainGlobals "_law_knowns" = some (some (.ref f58)))
    (l58 : K.lookup f58 = some ⟨oc58, od58, .func (PySem.W.fnOf "_law_knowns" "_law_knowns" (defArgs (top 58)) (defBody (top 58)) (defScope (top 58)) .none kV58 dc58 pm58 an58 cd58 ct58), sl58⟩)
    (c58 : PySem.W.codeIn K cd58 "_law_knowns" = true)
    (k58 : PySem.W.keepIn K (.ref f58) = true)
    (a59 : PySem.W.nsIn K mainGlobals "_law_pairs" = some (some (.ref f59)))
    (l59 : K.lookup f59 = some ⟨oc59, od59, .func (PySem.W.fnOf "_law_pairs" "_law_pairs" (defArgs (top 59)) (defBody (top 59)) (defScope (top 59)) .none kV59 dc59 pm59 an59 cd59 ct59), sl59⟩)
    (c59 : PySem.W.codeIn K cd59 "_law_pairs" = true)
    (k59 : PySem.W.keepIn K (.ref f59) = true)
    (a60 : PySem.W.nsIn K mainGlobals "_law_heard" = some (some (.ref f60)))
    (l60 : K.lookup f60 = some ⟨oc60, od60, .func (PySem.W.fnOf "_law_heard" "_law_heard" (defArgs (top 60)) (defBody (top 60)) (defScope (top 60)) .none kV60 dc60 pm60 an60 cd60 ct60), sl60⟩)
    (c60 : PySem.W.codeIn K cd60 "_law_heard" = true)
    (k60 : PySem.W.keepIn K (.ref f60) = true)
    (a61 : PySem.W.nsIn K mainGlobals "_law_keys_right" = some (some (.ref f61)))
    (l61 : K.lookup f61 = some ⟨oc61, od61, .func (PySem.W.fnOf "_law_keys_right" "_law_keys_right" (defArgs (top 61)) (defBody (top 61)) (defScope (top 61)) .none kV61 dc61 pm61 an61 (.ref c61) ct61), sl61⟩)
    (c61' : PySem.W.codeIn K (.ref c61) "_law_keys_right" = true)
    (k61 : PySem.W.keepIn K (.ref f61) = true)
    (a62 : PySem.W.nsIn K mainGlobals "_law_view_right" = some (some (.ref f62)))
    (l62 : K.lookup f62 = some ⟨oc62, od62, .func (PySem.W.fnOf "_law_view_right" "_law_view_right" (defArgs (top 62)) (defBody (top 62)) (defScope (top 62)) .none kV62 dc62 pm62 an62 cd62 ct62), sl62⟩)
    (c62 : PySem.W.codeIn K cd62 "_law_view_right" = true)
    (k62 : PySem.W.keepIn K (.ref f62) = true)
    (a63 : PySem.W.nsIn K mainGlobals "_law_right" = some (some (.ref f63)))
    (l63 : K.lookup f63 = some ⟨oc63, od63, .func (PySem.W.fnOf "_law_right" "_law_right" (defArgs (top 63)) (defBody (top 63)) (defScope (top 63)) .none kV63 dc63 pm63 an63 cd63 ct63), sl63⟩)
    (c63 : PySem.W.codeIn K cd63 "_law_right" = true)
    (k63 : PySem.W.keepIn K (.ref f63) = true)
    (a64 : PySem.W.nsIn K mainGlobals "law" = some (some (.ref f64)))
    (l64 : K.lookup f64 = some ⟨oc64, od64, .func (PySem.W.fnOf "law" "law" (defArgs (top 64)) (defBody (top 64)) (defScope (top 64)) .none kV64 dc64 pm64 an64 cd64 ct64), sl64⟩)
    (c64 : PySem.W.codeIn K cd64 "law" = true)
    (k64 : PySem.W.keepIn K (.ref f64) = true)
    (nCB : PySem.W.nsIn K mainGlobals "BadText" = some (some (.ref CB)))
    (nCP : PySem.W.nsIn K mainGlobals "Parted" = some (some (.ref CP)))
    (nCS : PySem.W.nsIn K mainGlobals "SettledError" = some (some (.ref CS)))
    (nCM : PySem.W.nsIn K mainGlobals "Missing" = some (some (.ref CM)))
    (nCA : PySem.W.nsIn K mainGlobals "BadPairs" = some (some (.ref CA)))
    (nCN : PySem.W.nsIn K mainGlobals "NoKey" = some (some (.ref CN)))
    (nCO : PySem.W.nsIn K mainGlobals "OtherSheet" = some (some (.ref CO)))
    (nCR : PySem.W.nsIn K mainGlobals "Rule" = some (some (.ref CR)))
    (nC : PySem.W.nsIn K mainGlobals "Sheet" = some (some (.ref C)))
    (nCV : PySem.W.nsIn K mainGlobals "View" = some (some (.ref CV)))
    (eECB : PySem.W.findIn K (.ref CB) "__init__" = some (some (.ref fE)))
    (xsaCB : PySem.W.findIn K (.ref CB) "__setattr__" = some (some (.builtin "object.__setattr__")))
    (xexCB : PySem.W.subIn K (.ref CB) (.type "BaseException") = some true)
    (xtyCB : PySem.W.typeIn K (.ref CB) = some (.type "type"))
    (xkpCB : PySem.W.keepIn K (.ref CB) = true)
    (xnvCB : PySem.W.findIn K (.ref CB) "value" = some none)
    (xclCB : ∃ nm q N bs bm sn sub ab col dd k0 k1 k2 k3 k5, K.lookup CB = some (excClassObj nm q CB N bs bm true sn sub ab col dd k0 k1 k2 k3 k5 "ValueError.__new__") ∧ PySem.HandSPX.refsVE bm = true)
    (tECB : PySem.W.typeIn K (.ref fE) = some (.type "function"))
    (eECN : PySem.W.findIn K (.ref CN) "__init__" = some (some (.ref fN)))
    (xsaCN : PySem.W.findIn K (.ref CN) "__setattr__" = some (some (.builtin "object.__setattr__")))
    (xexCN : PySem.W.subIn K (.ref CN) (.type "BaseException") = some true)
    (xtyCN : PySem.W.typeIn K (.ref CN) = some (.type "type"))
    (xkpCN : PySem.W.keepIn K (.ref CN) = true)
    (xnvCN : PySem.W.findIn K (.ref CN) "value" = some none)
    (xclCN : ∃ nm q N bs bm sn sub ab col dd k0 k1 k2 k3 k5, K.lookup CN = some (excClassObj nm q CN N bs bm true sn sub ab col dd k0 k1 k2 k3 k5 "LookupError.__new__") ∧ KEx.refsKE bm = true)
    (tECN : PySem.W.typeIn K (.ref fN) = some (.type "function"))
    (xte : PySem.W.exmAny K (.ref CN) [.ref CS, .ref CM] = some true)
    (xga : PySem.W.findIn K (.ref CN) "__getattribute__" = some (some (.builtin "BaseException.__getattribute__")))
    (xgg : PySem.W.findIn K (.ref CN) "__getattr__" = some none)
    (xhd : PySem.W.hasDictIn K CN = true)
    (xha : PySem.W.findIn K (.ref CN) "__class__" = some (some (.builtin "object.__class__")))
    (xhm : PySem.W.mroIn K CN (.type "object") = some true)
    (xk1 : PySem.W.kitOne K (.ref CN) (.ref CA) = some false)
    (xk2 : PySem.W.kitOne K (.ref CN) (.ref CN) = some true)
    (xk3 : PySem.W.kitOne K (.ref CN) (.ref CP) = some false)
    (xk4 : PySem.W.kitOne K (.ref CN) (.ref CO) = some false)
    (xk5 : PySem.W.kitOne K (.ref CN) (.type "KeyError") = some true)
    (xk6 : PySem.W.kitOne K (.ref CN) (.type "ValueError") = some false)
    (eV0 : PySem.W.findIn K (.ref CV) "__init__" = some (some (.ref fV0)))
    (iV0 : PySem.W.isFn K (.ref fV0) = true)
    (wA : PySem.W.findCls K (.ref CV) (.type "type") "whole" = some (.get (.builtin "staticmethod.__get__") (.ref pV1) .none (.ref CV)))
    (wR : PySem.W.recIn K pV1 "staticmethod" = some (.ref fV1 :: rrV1))
    (wS : PySem.W.readsIn K CV (.type "type") = true)
    (wI1 : PySem.W.findIn K (.ref CV) "whole" = some (some (.ref pV1)))
    (wI2 : PySem.W.typeIn K (.ref pV1) = some (.type "staticmethod"))
    (wI3 : PySem.W.specialIn K (.ref pV1) "__get__" = some (some (.builtin "staticmethod.__get__")))
    (wI4 : PySem.W.takesIn K (.ref pV1) = some false)
    (wG : PySem.W.specialIn K (.ref CV) "__getattribute__" = some (some (.builtin "type.__getattribute__")))
    (paV2 : PySem.W.findIn K (.ref CV) "sheet" = some (some (.ref pV2)))
    (pgV2 : PySem.W.specialIn K (.ref pV2) "__get__" = some (some (.builtin "property.__get__")))
    (ptV2 : PySem.W.takesIn K (.ref pV2) = some true)
    (prV2 : PySem.W.recIn K pV2 "property" = some (.ref fV2 :: rrV2))
    (paV3 : PySem.W.findIn K (.ref CV) "pairs" = some (some (.ref pV3)))
    (pgV3 : PySem.W.specialIn K (.ref pV3) "__get__" = some (some (.builtin "property.__get__")))
    (ptV3 : PySem.W.takesIn K (.ref pV3) = some true)
    (prV3 : PySem.W.recIn K pV3 "property" = some (.ref fV3 :: rrV3))
    (paV4 : PySem.W.findIn K (.ref CV) "worths" = some (some (.ref pV4)))
    (pgV4 : PySem.W.specialIn K (.ref pV4) "__get__" = some (some (.builtin "property.__get__")))
    (ptV4 : PySem.W.takesIn K (.ref pV4) = some true)
    (prV4 : PySem.W.recIn K pV4 "property" = some (.ref fV4 :: rrV4))
    (paV5 : PySem.W.findIn K (.ref CV) "is_whole" = some (some (.ref pV5)))
    (pgV5 : PySem.W.specialIn K (.ref pV5) "__get__" = some (some (.builtin "property.__get__")))
    (ptV5 : PySem.W.takesIn K (.ref pV5) = some true)
    (prV5 : PySem.W.recIn K pV5 "property" = some (.ref fV5 :: rrV5))
    (paV6 : PySem.W.findIn K (.ref CV) "is_lawful" = some (some (.ref pV6)))
    (pgV6 : PySem.W.specialIn K (.ref pV6) "__get__" = some (some (.builtin "property.__get__")))
    (ptV6 : PySem.W.takesIn K (.ref pV6) = some true)
    (prV6 : PySem.W.recIn K pV6 "property" = some (.ref fV6 :: rrV6))
    (eV8 : PySem.W.findIn K (.ref CV) "__getitem__" = some (some (.ref fV8)))
    (iV8 : PySem.W.isFn K (.ref fV8) = true)
    (fiV8 : PySem.W.fnIn K fV8 = true)
    (eV9 : PySem.W.findIn K (.ref CV) "__contains__" = some (some (.ref fV9)))
    (iV9 : PySem.W.isFn K (.ref fV9) = true)
    (eVA : PySem.W.findIn K (.ref CV) "__len__" = some (some (.ref fVA)))
    (iVA : PySem.W.isFn K (.ref fVA) = true)
    (eV12 : PySem.W.findIn K (.ref CV) "__eq__" = some (some (.ref fV12)))
    (iV12 : PySem.W.isFn K (.ref fV12) = true)
    (eR0 : PySem.W.findIn K (.ref CR) "__init__" = some (some (.ref fR0)))
    (iR0 : PySem.W.isFn K (.ref fR0) = true)
    (eP : PySem.W.findIn K (.ref C) "__init__" = some (some (.ref fP)))
    (iP : PySem.W.isFn K (.ref fP) = true)
    (paG2 : PySem.W.findIn K (.ref C) "names" = some (some (.ref pG2)))
    (pgG2 : PySem.W.specialIn K (.ref pG2) "__get__" = some (some (.builtin "property.__get__")))
    (ptG2 : PySem.W.takesIn K (.ref pG2) = some true)
    (prG2 : PySem.W.recIn K pG2 "property" = some (.ref fG2 :: rrG2))
    (paG3 : PySem.W.findIn K (.ref C) "sizes" = some (some (.ref pG3)))
    (pgG3 : PySem.W.specialIn K (.ref pG3) "__get__" = some (some (.builtin "property.__get__")))
    (ptG3 : PySem.W.takesIn K (.ref pG3) = some true)
    (prG3 : PySem.W.recIn K pG3 "property" = some (.ref fG3 :: rrG3))
    (paG4 : PySem.W.findIn K (.ref C) "rules" = some (some (.ref pG4)))
    (pgG4 : PySem.W.specialIn K (.ref pG4) "__get__" = some (some (.builtin "property.__get__")))
    (ptG4 : PySem.W.takesIn K (.ref pG4) = some true)
    (prG4 : PySem.W.recIn K pG4 "property" = some (.ref fG4 :: rrG4))
    (paG5 : PySem.W.findIn K (.ref C) "editions" = some (some (.ref pG5)))
    (pgG5 : PySem.W.specialIn K (.ref pG5) "__get__" = some (some (.builtin "property.__get__")))
    (ptG5 : PySem.W.takesIn K (.ref pG5) = some true)
    (prG5 : PySem.W.recIn K pG5 "property" = some (.ref fG5 :: rrG5))
    (eQ : PySem.W.findIn K (.ref C) "__eq__" = some (some (.ref fQ)))
    (iQ : PySem.W.isFn K (.ref fQ) = true)
    (lE : K.lookup fE = some ⟨ocE, odE, .func (PySem.W.fnOf "__init__" "SettledError.__init__" (defArgs (inClass (top 2) 0)) (defBody (inClass (top 2) 0)) (defScope (inClass (top 2) 0)) .none kVE dcE pmE anE cdE ctE), slE⟩)
    (cE : PySem.W.codeIn K cdE "SettledError.__init__" = true)
    (kE : PySem.W.keepIn K (.ref fE) = true)
    (lN : K.lookup fN = some ⟨ocN, odN, .func (PySem.W.fnOf "__init__" "Missing.__init__" (defArgs (inClass (top 3) 0)) (defBody (inClass (top 3) 0)) (defScope (inClass (top 3) 0)) .none kVN dcN pmN anN cdN ctN), slN⟩)
    (cN : PySem.W.codeIn K cdN "Missing.__init__" = true)
    (kN : PySem.W.keepIn K (.ref fN) = true)
    (lV0 : K.lookup fV0 = some ⟨ocV0, odV0, .func (PySem.W.fnOf "__init__" "View.__init__" (defArgs (inClass (top 29) 0)) (defBody (inClass (top 29) 0)) (defScope (inClass (top 29) 0)) .none kVV0 dcV0 pmV0 anV0 cdV0 ctV0), slV0⟩)
    (cV0 : PySem.W.codeIn K cdV0 "View.__init__" = true)
    (kV0 : PySem.W.keepIn K (.ref fV0) = true)
    (lV1 : K.lookup fV1 = some ⟨ocV1, odV1, .func (PySem.W.fnOf "whole" "View.whole" (defArgs (inClass (top 29) 1)) (defBody (inClass (top 29) 1)) (defScope (inClass (top 29) 1)) .none kVV1 dcV1 pmV1 anV1 cdV1 ctV1), slV1⟩)
    (cV1 : PySem.W.codeIn K cdV1 "View.whole" = true)
    (kV1 : PySem.W.keepIn K (.ref fV1) = true)
    (lV2 : K.lookup fV2 = some ⟨ocV2, odV2, .func (PySem.W.fnOf "sheet" "View.sheet" (defArgs (inClass (top 29) 2)) (defBody (inClass (top 29) 2)) (defScope (inClass (top 29) 2)) .none kVV2 dcV2 pmV2 anV2 cdV2 ctV2), slV2⟩)
    (cV2 : PySem.W.codeIn K cdV2 "View.sheet" = true)
    (kV2 : PySem.W.keepIn K (.ref fV2) = true)
    (lV3 : K.lookup fV3 = some ⟨ocV3, odV3, .func (PySem.W.fnOf "pairs" "View.pairs" (defArgs (inClass (top 29) 3)) (defBody (inClass (top 29) 3)) (defScope (inClass (top 29) 3)) .none kVV3 dcV3 pmV3 anV3 cdV3 ctV3), slV3⟩)
    (cV3 : PySem.W.codeIn K cdV3 "View.pairs" = true)
    (kV3 : PySem.W.keepIn K (.ref fV3) = true)
    (lV4 : K.lookup fV4 = some ⟨ocV4, odV4, .func (PySem.W.fnOf "worths" "View.worths" (defArgs (inClass (top 29) 4)) (defBody (inClass (top 29) 4)) (defScope (inClass (top 29) 4)) .none kVV4 dcV4 pmV4 anV4 cdV4 ctV4), slV4⟩)
    (cV4 : PySem.W.codeIn K cdV4 "View.worths" = true)
    (kV4 : PySem.W.keepIn K (.ref fV4) = true)
    (lV5 : K.lookup fV5 = some ⟨ocV5, odV5, .func (PySem.W.fnOf "is_whole" "View.is_whole" (defArgs (inClass (top 29) 5)) (defBody (inClass (top 29) 5)) (defScope (inClass (top 29) 5)) .none kVV5 dcV5 pmV5 anV5 cdV5 ctV5), slV5⟩)
    (cV5 : PySem.W.codeIn K cdV5 "View.is_whole" = true)
    (kV5 : PySem.W.keepIn K (.ref fV5) = true)
    (lV6 : K.lookup fV6 = some ⟨ocV6, odV6, .func (PySem.W.fnOf "is_lawful" "View.is_lawful" (defArgs (inClass (top 29) 6)) (defBody (inClass (top 29) 6)) (defScope (inClass (top 29) 6)) .none kVV6 dcV6 pmV6 anV6 cdV6 ctV6), slV6⟩)
    (cV6 : PySem.W.codeIn K cdV6 "View.is_lawful" = true)
    (kV6 : PySem.W.keepIn K (.ref fV6) = true)
    (lV8 : K.lookup fV8 = some ⟨ocV8, odV8, .func (PySem.W.fnOf "__getitem__" "View.__getitem__" (defArgs (inClass (top 29) 8)) (defBody (inClass (top 29) 8)) (defScope (inClass (top 29) 8)) .none kVV8 dcV8 pmV8 anV8 cdV8 ctV8), slV8⟩)
    (cV8 : PySem.W.codeIn K cdV8 "View.__getitem__" = true)
    (kV8 : PySem.W.keepIn K (.ref fV8) = true)
    (lV9 : K.lookup fV9 = some ⟨ocV9, odV9, .func (PySem.W.fnOf "__contains__" "View.__contains__" (defArgs (inClass (top 29) 9)) (defBody (inClass (top 29) 9)) (defScope (inClass (top 29) 9)) .none kVV9 dcV9 pmV9 anV9 cdV9 ctV9), slV9⟩)
    (cV9 : PySem.W.codeIn K cdV9 "View.__contains__" = true)
    (kV9 : PySem.W.keepIn K (.ref fV9) = true)
    (lVA : K.lookup fVA = some ⟨ocVA, odVA, .func (PySem.W.fnOf "__len__" "View.__len__" (defArgs (inClass (top 29) 10)) (defBody (inClass (top 29) 10)) (defScope (inClass (top 29) 10)) .none kVVA dcVA pmVA anVA cdVA ctVA), slVA⟩)
    (cVA : PySem.W.codeIn K cdVA "View.__len__" = true)
    (kVA : PySem.W.keepIn K (.ref fVA) = true)
    (lV12 : K.lookup fV12 = some ⟨ocV12, odV12, .func (PySem.W.fnOf "__eq__" "View.__eq__" (defArgs (inClass (top 29) 12)) (defBody (inClass (top 29) 12)) (defScope (inClass (top 29) 12)) .none kVV12 dcV12 pmV12 anV12 cdV12 ctV12), slV12⟩)
    (cV12 : PySem.W.codeIn K cdV12 "View.__eq__" = true)
    (kV12 : PySem.W.keepIn K (.ref fV12) = true)
    (lR0 : K.lookup fR0 = some ⟨ocR0, odR0, .func (PySem.W.fnOf "__init__" "Rule.__init__" (defArgs (inClass (top 39) 0)) (defBody (inClass (top 39) 0)) (defScope (inClass (top 39) 0)) .none kVR0 dcR0 pmR0 anR0 cdR0 ctR0), slR0⟩)
    (cR0 : PySem.W.codeIn K cdR0 "Rule.__init__" = true)
    (kR0 : PySem.W.keepIn K (.ref fR0) = true)
    (lP : K.lookup fP = some ⟨ocP, odP, .func (PySem.W.fnOf "__init__" "Sheet.__init__" (defArgs (inClass (top 45) 0)) (defBody (inClass (top 45) 0)) (defScope (inClass (top 45) 0)) .none kVP dcP pmP anP cdP ctP), slP⟩)
    (cP : PySem.W.codeIn K cdP "Sheet.__init__" = true)
    (kP : PySem.W.keepIn K (.ref fP) = true)
    (lG2 : K.lookup fG2 = some ⟨ocG2, odG2, .func (PySem.W.fnOf "names" "Sheet.names" (defArgs (inClass (top 45) 2)) (defBody (inClass (top 45) 2)) (defScope (inClass (top 45) 2)) .none kVG2 dcG2 pmG2 anG2 cdG2 ctG2), slG2⟩)
    (cG2 : PySem.W.codeIn K cdG2 "Sheet.names" = true)
    (kG2 : PySem.W.keepIn K (.ref fG2) = true)
    (lG3 : K.lookup fG3 = some ⟨ocG3, odG3, .func (PySem.W.fnOf "sizes" "Sheet.sizes" (defArgs (inClass (top 45) 3)) (defBody (inClass (top 45) 3)) (defScope (inClass (top 45) 3)) .none kVG3 dcG3 pmG3 anG3 cdG3 ctG3), slG3⟩)
    (cG3 : PySem.W.codeIn K cdG3 "Sheet.sizes" = true)
    (kG3 : PySem.W.keepIn K (.ref fG3) = true)
    (lG4 : K.lookup fG4 = some ⟨ocG4, odG4, .func (PySem.W.fnOf "rules" "Sheet.rules" (defArgs (inClass (top 45) 4)) (defBody (inClass (top 45) 4)) (defScope (inClass (top 45) 4)) .none kVG4 dcG4 pmG4 anG4 cdG4 ctG4), slG4⟩)
    (cG4 : PySem.W.codeIn K cdG4 "Sheet.rules" = true)
    (kG4 : PySem.W.keepIn K (.ref fG4) = true)
    (lG5 : K.lookup fG5 = some ⟨ocG5, odG5, .func (PySem.W.fnOf "editions" "Sheet.editions" (defArgs (inClass (top 45) 5)) (defBody (inClass (top 45) 5)) (defScope (inClass (top 45) 5)) .none kVG5 dcG5 pmG5 anG5 cdG5 ctG5), slG5⟩)
    (cG5 : PySem.W.codeIn K cdG5 "Sheet.editions" = true)
    (kG5 : PySem.W.keepIn K (.ref fG5) = true)
    (lQ : K.lookup fQ = some ⟨ocQ, odQ, .func (PySem.W.fnOf "__eq__" "Sheet.__eq__" (defArgs (inClass (top 45) 6)) (defBody (inClass (top 45) 6)) (defScope (inClass (top 45) 6)) .none kVQ dcQ pmQ anQ cdQ ctQ), slQ⟩)
    (cQ : PySem.W.codeIn K cdQ "Sheet.__eq__" = true)
    (kQ : PySem.W.keepIn K (.ref fQ) = true)
    (pgC : PySem.W.plainGet K C Str.empty = true)
    (hdC : PySem.W.hasDictIn K C = true)
    (poC : PySem.W.plainOver K C = true)
    (saC : PySem.W.findIn K (.ref C) "__setattr__" = some (some (.builtin "object.__setattr__")))
    (mkC : PySem.W.makesIn K C = true)
    (kpC : PySem.W.keepIn K (.ref C) = true)
    (zC1 : PySem.W.findIn K (.ref C) "_text" = some none)
    (zC2 : PySem.W.findIn K (.ref C) "_names" = some none)
    (zC3 : PySem.W.findIn K (.ref C) "_sizes" = some none)
    (zC4 : PySem.W.findIn K (.ref C) "_editions" = some none)
    (zC5 : PySem.W.findIn K (.ref C) "_rules" = some none)
    (pgCR : PySem.W.plainGet K CR Str.empty = true)
    (hdCR : PySem.W.hasDictIn K CR = true)
    (poCR : PySem.W.plainOver K CR = true)
    (saCR : PySem.W.findIn K (.ref CR) "__setattr__" = some (some (.builtin "object.__setattr__")))
    (mkCR : PySem.W.makesIn K CR = true)
    (kpCR : PySem.W.keepIn K (.ref CR) = true)
    (zCR1 : PySem.W.findIn K (.ref CR) "_sheet" = some none)
    (zCR2 : PySem.W.findIn K (.ref CR) "_text" = some none)
    (zCR3 : PySem.W.findIn K (.ref CR) "lits" = some none)
    (pgCV : PySem.W.plainGet K CV Str.empty = true)
    (hdCV : PySem.W.hasDictIn K CV = true)
    (poCV : PySem.W.plainOver K CV = true)
    (saCV : PySem.W.findIn K (.ref CV) "__setattr__" = some (some (.builtin "object.__setattr__")))
    (mkCV : PySem.W.makesIn K CV = true)
    (kpCV : PySem.W.keepIn K (.ref CV) = true)
    (zCV1 : PySem.W.findIn K (.ref CV) "_sheet" = some none)
    (zCV2 : PySem.W.findIn K (.ref CV) "_pairs" = some none)
    (zCV3 : PySem.W.findIn K (.ref CV) "_names" = some none)
    (zCV4 : PySem.W.findIn K (.ref CV) "_worths" = some none)
    (chC : PySem.W.findIn K (.ref C) "__class__" = some (some (.builtin "object.__class__")))
    (cmC : PySem.W.mroIn K C (.type "object") = some true)
    (kkC : PySem.W.kitOne K (.ref C) (.ref C) = some true)
    (nfC : PySem.W.notFirst K C (.ref C) = true)
    (chCV : PySem.W.findIn K (.ref CV) "__class__" = some (some (.builtin "object.__class__")))
    (cmCV : PySem.W.mroIn K CV (.type "object") = some true)
    (kkCV : PySem.W.kitOne K (.ref CV) (.ref CV) = some true)
    (nfCV : PySem.W.notFirst K CV (.ref CV) = true)
    (chn : PySem.W.specialIn K (.builtin "object.__class__") "__get__" = some (some (.builtin "getset_descriptor.__get__")))
    (cht : PySem.W.takesIn K (.builtin "object.__class__") = some true)
    (neC : PySem.W.findIn K (.ref C) "__ne__" = some (some (.builtin "object.__ne__")))
    (nfT : PySem.W.notFirst K CV (.type "tuple") = true)
    (nfD : PySem.W.notFirst K CV (.type "dict") = true)
    (kT : PySem.W.kitOne K (.type "tuple") (.ref CV) = some false)
    (kD : PySem.W.kitOne K (.type "dict") (.ref CV) = some false)
    (gL : PySem.W.nsIn K mainGlobals "LETTERS" = some (some (.str (PySem.Str.ofString "abcdefghijklmnopqrstuvwxyz") tL)))
    (gD : PySem.W.nsIn K mainGlobals "DIGITS" = some (some (.str (PySem.Str.ofString "0123456789") tD)))
    (g8 : PySem.W.nsIn K mainGlobals "LONGEST_NAME" = some (some (.int 8 t8)))
    (g9 : PySem.W.nsIn K mainGlobals "MOST_DIGITS" = some (some (.int 9 t9)))
    (gS : PySem.W.nsIn K mainGlobals "LIT_STEP" = some (some (.int 4 tS)))
    (gM : PySem.W.nsIn K mainGlobals "MOST_KEYS" = some (some (.int 3 tM)))
    (gR : PySem.W.nsIn K mainGlobals "MOST_RULES" = some (some (.int 4 tR)))
    (gW : PySem.W.nsIn K mainGlobals "RULE_WORD" = some (some (.str (PySem.Str.ofString "rule ") tW)))
    (gZ : PySem.W.nsIn K mainGlobals "SIZES" = some (some (.ref pZ)))
    (gN : PySem.W.nsIn K mainGlobals "RULE_LENGTHS" = some (some (.ref pL)))
    (b_int : PySem.W.nsIn K mainGlobals "int" = some none)
    (b_abs : PySem.W.nsIn K mainGlobals "abs" = some none)
    (b_len : PySem.W.nsIn K mainGlobals "len" = some none)
    (b_range : PySem.W.nsIn K mainGlobals "range" = some none)
    (b_all : PySem.W.nsIn K mainGlobals "all" = some none)
    (b_isinstance : PySem.W.nsIn K mainGlobals "isinstance" = some none)
    (b_str : PySem.W.nsIn K mainGlobals "str" = some none)
    (b_tuple : PySem.W.nsIn K mainGlobals "tuple" = some none)
    (b_list : PySem.W.nsIn K mainGlobals "list" = some none)
    (b_any : PySem.W.nsIn K mainGlobals "any" = some none)
    (b_zip : PySem.W.nsIn K mainGlobals "zip" = some none)
    (b_enumerate : PySem.W.nsIn K mainGlobals "enumerate" = some none)
    (b_bool : PySem.W.nsIn K mainGlobals "bool" = some none)
    (b_dict : PySem.W.nsIn K mainGlobals "dict" = some none)
    (b_sorted : PySem.W.nsIn K mainGlobals "sorted" = some none)
    (b_repr : PySem.W.nsIn K mainGlobals "repr" = some none)
    (b_max : PySem.W.nsIn K mainGlobals "max" = some none)
    (b_min : PySem.W.nsIn K mainGlobals "min" = some none)
    (b_KeyError : PySem.W.nsIn K mainGlobals "KeyError" = some none)
    (b_ValueError : PySem.W.nsIn K mainGlobals "ValueError" = some none)
    (lZ : K.lookup pZ = some ⟨.type "tuple", odZ, .seq #[.int 2 w1, .int 3 w2] nZ, slZ⟩)
    (lL : K.lookup pL = some ⟨.type "tuple", odL, .seq #[.int 4 u1, .int 8 u2, .int 12 u3] nL, slL⟩)
    (lc61 : K.lookup c61 = some ⟨.type "code", odc61, .fields vs61, slc61⟩)
    (pt61 : vs61[11]? = some (.ref PT))
    (tb61 : PySem.W.codeHdIn K c61 PT = true)
    (nT61 : K.lookup PT = none)
    (hT61 : h.get? PT = some (PySem.W.tabObj #[]))
    : ∃ (c PT : Addr) (fd : FuncData), h.get? PT = some (PySem.W.tabObj #[]) ∧ K.lookup PT = none ∧ PySem.W.codeHdIn K c PT = true ∧ (∀ (s : Shared) (v : Value), BindsTo s fd ⟨[v], []⟩ [("_law_script", v)]) ∧ ∀ base : Heap, K.In base → base.Ns mainGlobals mg → LamX.TabB base mg c PT → FnG P w K mg base 11 fa fd ["_law_script"] (spLaw [(PT, qLam)] K) := by
  have e := hfa.symm.trans (mg_of X G a64)
  cases e
  have wZ : SqT K (fun _ => none) pZ ([.int 2, .int 3] : List V) := .inr ⟨_, _, _, lZ, rfl, rfl, by show 2 ≤ sizeLine; decide, .cons ⟨w1, rfl⟩ (.cons ⟨w2, rfl⟩ .nil)⟩
  have wL : SqT K (fun _ => none) pL ([.int 4, .int 8, .int 12] : List V) := .inr ⟨_, _, _, lL, rfl, rfl, by show 3 ≤ sizeLine; decide, .cons ⟨u1, rfl⟩ (.cons ⟨u2, rfl⟩ (.cons ⟨u3, rfl⟩ .nil))⟩
  have T0 : Txt0 mg := ⟨mg_none_of X G b_int, mg_none_of X G b_abs, mg_none_of X G b_len⟩
  have T1 : Txt1 mg := ⟨T0, mg_none_of X G b_range⟩
  have T2 : Txt2 K mg := ⟨T1, mg_none_of X G b_all, ⟨_, mg_of X G gL⟩, ⟨_, mg_of X G g8⟩, mg_none_of X G b_isinstance, mg_none_of X G b_str, ⟨_, mg_of X G gD⟩, ⟨_, mg_of X G g9⟩⟩
  have T3 : Txt3 K mg := ⟨T2, ⟨_, mg_of X G gZ, wZ⟩, ⟨_, mg_of X G gM⟩, mg_none_of X G b_tuple⟩
  have T4 : Txt4 K mg := ⟨T3, ⟨_, mg_of X G gN, wL⟩, ⟨_, mg_of X G gS⟩⟩
  have T5 : Txt5 K mg := ⟨T4, ⟨_, mg_of X G gR⟩⟩
  have T6 : Txt6 K mg := ⟨T5, mg_none_of X G b_list, mg_none_of X G b_any, mg_none_of X G b_zip⟩
  have T7 : Txt7 K mg := ⟨T6, mg_none_of X G b_enumerate⟩
  have T8 : Txt8 K mg := ⟨T7, mg_none_of X G b_bool, mg_none_of X G b_dict, mg_none_of X G b_sorted⟩
  have T9 : Txt9 K mg := ⟨T8, mg_none_of X G b_repr, mg_none_of X G b_max, mg_none_of X G b_min⟩
  have F64 := fun_mk (st := top 64) l64 c64 k64
  refine ⟨c61, PT, PySem.W.fnOf "law" "law" (defArgs (top 64)) (defBody (top 64)) (defScope (top 64)) .none kV64 dc64 pm64 an64 cd64 ct64, hT61, nT61, tb61, fun s v => .of_eq rfl, fun base _ _ TB => ?_⟩
  have F14 := fun_mk (st := top 14) l14 c14 k14
  have B14 := F14.binds (ps := ["text"]) fun _ _ _ _ _ _ us hl => match us, hl with | [_], _ => rfl
  have F15 := fun_mk (st := top 15) l15 c15 k15
  have B15 := F15.binds (ps := ["line"]) fun _ _ _ _ _ _ us hl => match us, hl with | [_], _ => rfl
  have F16 := fun_mk (st := top 16) l16 c16 k16
  have B16 := F16.binds (ps := ["word"]) fun _ _ _ _ _ _ us hl => match us, hl with | [_], _ => rfl
  have F17 := fun_mk (st := top 17) l17 c17 k17
  have B17 := F17.binds (ps := ["word"]) fun _ _ _ _ _ _ us hl => match us, hl with | [_], _ => rfl
  have F18 := fun_mk (st := top 18) l18 c18 k18
  have B18 := F18.binds (ps := ["value"]) fun _ _ _ _ _ _ us hl => match us, hl with | [_], _ => rfl
  have F22 := fun_mk (st := top 22) l22 c22 k22
  have B22 := F22.binds (ps := ["words", "names", "sizes"]) fun _ _ _ _ _ _ us hl => match us, hl with | [_, _, _], _ => rfl
  have F23 := fun_mk (st := top 23) l23 c23 k23
  have B23 := F23.binds (ps := ["line", "names", "sizes"]) fun _ _ _ _ _ _ us hl => match us, hl with | [_, _, _], _ => rfl
  have F24 := fun_mk (st := top 24) l24 c24 k24
  have B24 := F24.binds (ps := ["lit", "worths"]) fun _ _ _ _ _ _ us hl => match us, hl with | [_, _], _ => rfl
  have F25 := fun_mk (st := top 25) l25 c25 k25
  have B25 := F25.binds (ps := ["lits", "worths"]) fun _ _ _ _ _ _ us hl => match us, hl with | [_, _], _ => rfl
  have F26 := fun_mk (st := top 26) l26 c26 k26
  have B26 := F26.binds (ps := ["sizes"]) fun _ _ _ _ _ _ us hl => match us, hl with | [_], _ => rfl
  have F27 := fun_mk (st := top 27) l27 c27 k27
  have B27 := F27.binds (ps := ["worths", "edition"]) fun _ _ _ _ _ _ us hl => match us, hl with | [_, _], _ => rfl
  have F30 := fun_mk (st := top 30) l30 c30 k30
  have B30 := F30.binds (ps := ["sheet", "key", "worth"]) fun _ _ _ _ _ _ us hl => match us, hl with | [_, _, _], _ => rfl
  have F31 := fun_mk (st := top 31) l31 c31 k31
  have B31 := F31.binds (ps := ["sheet", "pairs"]) fun _ _ _ _ _ _ us hl => match us, hl with | [_, _], _ => rfl
  have F32 := fun_mk (st := top 32) l32 c32 k32
  have B32 := F32.binds (ps := ["sheet", "worths"]) fun _ _ _ _ _ _ us hl => match us, hl with | [_, _], _ => rfl
  have F35 := fun_mk (st := top 35) l35 c35 k35
  have B35 := F35.binds (ps := ["sheet", "worths"]) fun _ _ _ _ _ _ us hl => match us, hl with | [_, _], _ => rfl
  have F46 := fun_mk (st := top 46) l46 c46 k46
  have B46 := F46.binds (ps := ["line"]) fun _ _ _ _ _ _ us hl => match us, hl with | [_], _ => rfl
  have F47 := fun_mk (st := top 47) l47 c47 k47
  have B47 := F47.binds (ps := ["lines"]) fun _ _ _ _ _ _ us hl => match us, hl with | [_], _ => rfl
  have F48 := fun_mk (st := top 48) l48 c48 k48
  have B48 := F48.binds (ps := ["lines", "names", "sizes"]) fun _ _ _ _ _ _ us hl => match us, hl with | [_, _, _], _ => rfl
  have F50 := fun_mk (st := top 50) l50 c50 k50
  have B50 := F50.binds (ps := ["_law_script", "_law_k"]) fun _ _ _ _ _ _ us hl => match us, hl with | [_, _], _ => rfl
  have F51 := fun_mk (st := top 51) l51 c51 k51
  have B51 := F51.binds (ps := ["_law_jar_here", "_law_many"]) fun _ _ _ _ _ _ us hl => match us, hl with | [_, _], _ => rfl
  have F52 := fun_mk (st := top 52) l52 c52 k52
  have B52 := F52.binds (ps := ["_law_jar_here", "_law_some"]) fun _ _ _ _ _ _ us hl => match us, hl with | [_, _], _ => rfl
  have F53 := fun_mk (st := top 53) l53 c53 k53
  have B53 := F53.binds (ps := ["_law_jar_here", "_law_many"]) fun _ _ _ _ _ _ us hl => match us, hl with | [_, _], _ => rfl
  have F54 := fun_mk (st := top 54) l54 c54 k54
  have B54 := F54.binds (ps := ["_law_sizes"]) fun _ _ _ _ _ _ us hl => match us, hl with | [_], _ => rfl
  have F55 := fun_mk (st := top 55) l55 c55 k55
  have B55 := F55.binds (ps := ["_law_lits", "_law_row"]) fun _ _ _ _ _ _ us hl => match us, hl with | [_, _], _ => rfl
  have F56 := fun_mk (st := top 56) l56 c56 k56
  have B56 := F56.binds (ps := ["_law_jar_here", "_law_lore"]) fun _ _ _ _ _ _ us hl => match us, hl with | [_, _], _ => rfl
  have F57 := fun_mk (st := top 57) l57 c57 k57
  have B57 := F57.binds (ps := ["_law_sheet_here"]) fun _ _ _ _ _ _ us hl => match us, hl with | [_], _ => rfl
  have F58 := fun_mk (st := top 58) l58 c58 k58
  have B58 := F58.binds (ps := ["_law_sizes"]) fun _ _ _ _ _ _ us hl => match us, hl with | [_], _ => rfl
  have F59 := fun_mk (st := top 59) l59 c59 k59
  have B59 := F59.binds (ps := ["_law_names_here", "_law_known"]) fun _ _ _ _ _ _ us hl => match us, hl with | [_, _], _ => rfl
  have F60 := fun_mk (st := top 60) l60 c60 k60
  have B60 := F60.binds (ps := ["_law_call"]) fun _ _ _ _ _ _ us hl => match us, hl with | [_], _ => rfl
  have F61 : FunC K "_law_keys_right" "_law_keys_right" (top 61) f61 _ c61 := ⟨⟨_, _, _, _, _, _, _, _, rfl, l61, c61'⟩, k61⟩
  have F61' := fun_mk (st := top 61) l61 c61' k61
  have B61 := F61'.binds (ps := ["_law_view", "_law_names_here", "_law_known"]) fun _ _ _ _ _ _ us hl => match us, hl with | [_, _, _], _ => rfl
  have F62 := fun_mk (st := top 62) l62 c62 k62
  have B62 := F62.binds (ps := ["_law_made", "_law_twin", "_law_sheet_here", "_law_known"]) fun _ _ _ _ _ _ us hl => match us, hl with | [_, _, _, _], _ => rfl
  have F63 := fun_mk (st := top 63) l63 c63 k63
  have B63 := F63.binds (ps := ["_law_jar_here"]) fun _ _ _ _ _ _ us hl => match us, hl with | [_], _ => rfl
  have FE := fun_mk (st := inClass (top 2) 0) lE cE kE
  have BE := FE.binds (ps := ["self", "value"]) fun _ _ _ _ _ _ us hl => match us, hl with | [_, _], _ => rfl
  have FN := fun_mk (st := inClass (top 3) 0) lN cN kN
  have BN := FN.binds (ps := ["self", "value"]) fun _ _ _ _ _ _ us hl => match us, hl with | [_, _], _ => rfl
  have FV0 := fun_mk (st := inClass (top 29) 0) lV0 cV0 kV0
  have BV0 := FV0.binds (ps := ["self", "sheet", "pairs"]) fun _ _ _ _ _ _ us hl => match us, hl with | [_, _, _], _ => rfl
  have FV1 := fun_mk (st := inClass (top 29) 1) lV1 cV1 kV1
  have BV1 := FV1.binds (ps := ["sheet", "worths"]) fun _ _ _ _ _ _ us hl => match us, hl with | [_, _], _ => rfl
  have FV2 := fun_mk (st := inClass (top 29) 2) lV2 cV2 kV2
  have BV2 := FV2.binds (ps := ["self"]) fun _ _ _ _ _ _ us hl => match us, hl with | [_], _ => rfl
  have FV3 := fun_mk (st := inClass (top 29) 3) lV3 cV3 kV3
  have BV3 := FV3.binds (ps := ["self"]) fun _ _ _ _ _ _ us hl => match us, hl with | [_], _ => rfl
  have FV4 := fun_mk (st := inClass (top 29) 4) lV4 cV4 kV4
  have BV4 := FV4.binds (ps := ["self"]) fun _ _ _ _ _ _ us hl => match us, hl with | [_], _ => rfl
  have FV5 := fun_mk (st := inClass (top 29) 5) lV5 cV5 kV5
  have BV5 := FV5.binds (ps := ["self"]) fun _ _ _ _ _ _ us hl => match us, hl with | [_], _ => rfl
  have FV6 := fun_mk (st := inClass (top 29) 6) lV6 cV6 kV6
  have BV6 := FV6.binds (ps := ["self"]) fun _ _ _ _ _ _ us hl => match us, hl with | [_], _ => rfl
  have FV8 := fun_mk (st := inClass (top 29) 8) lV8 cV8 kV8
  have BV8 := FV8.binds (ps := ["self", "key"]) fun _ _ _ _ _ _ us hl => match us, hl with | [_, _], _ => rfl
  have FV9 := fun_mk (st := inClass (top 29) 9) lV9 cV9 kV9
  have BV9 := FV9.binds (ps := ["self", "key"]) fun _ _ _ _ _ _ us hl => match us, hl with | [_, _], _ => rfl
  have FVA := fun_mk (st := inClass (top 29) 10) lVA cVA kVA
  have BVA := FVA.binds (ps := ["self"]) fun _ _ _ _ _ _ us hl => match us, hl with | [_], _ => rfl
  have FV12 := fun_mk (st := inClass (top 29) 12) lV12 cV12 kV12
  have BV12 := FV12.binds (ps := ["self", "other"]) fun _ _ _ _ _ _ us hl => match us, hl with | [_, _], _ => rfl
  have FR0 := fun_mk (st := inClass (top 39) 0) lR0 cR0 kR0
  have BR0 := FR0.binds (ps := ["self", "sheet", "text", "lits"]) fun _ _ _ _ _ _ us hl => match us, hl with | [_, _, _, _], _ => rfl
  have FP := fun_mk (st := inClass (top 45) 0) lP cP kP
  have BP := FP.binds (ps := ["self", "text"]) fun _ _ _ _ _ _ us hl => match us, hl with | [_, _], _ => rfl
  have FG2 := fun_mk (st := inClass (top 45) 2) lG2 cG2 kG2
  have BG2 := FG2.binds (ps := ["self"]) fun _ _ _ _ _ _ us hl => match us, hl with | [_], _ => rfl
  have FG3 := fun_mk (st := inClass (top 45) 3) lG3 cG3 kG3
  have BG3 := FG3.binds (ps := ["self"]) fun _ _ _ _ _ _ us hl => match us, hl with | [_], _ => rfl
  have FG4 := fun_mk (st := inClass (top 45) 4) lG4 cG4 kG4
  have BG4 := FG4.binds (ps := ["self"]) fun _ _ _ _ _ _ us hl => match us, hl with | [_], _ => rfl
  have FG5 := fun_mk (st := inClass (top 45) 5) lG5 cG5 kG5
  have BG5 := FG5.binds (ps := ["self"]) fun _ _ _ _ _ _ us hl => match us, hl with | [_], _ => rfl
  have FQ := fun_mk (st := inClass (top 45) 6) lQ cQ kQ
  have BQ := FQ.binds (ps := ["self", "other"]) fun _ _ _ _ _ _ us hl => match us, hl with | [_, _], _ => rfl
  have S0 : SheetT K mg C := ⟨⟨pgC, hdC, poC, saC⟩, mg_of X G nC, zC1, zC2, zC3, zC4, zC5, mg_none_of X G b_tuple, mg_none_of X G b_isinstance, mg_none_of X G b_len, ⟨_, mg_of X G gW⟩⟩
  have R0 : RuleT K mg CR := ⟨⟨pgCR, hdCR, poCR, saCR⟩, mg_of X G nCR, zCR1, zCR2, zCR3⟩
  have V0 : ViewT K mg CV := ⟨⟨pgCV, hdCV, poCV, saCV⟩, mg_of X G nCV, zCV1, zCV2, zCV3, zCV4⟩
  have RC : RuleC P w K mg base CR := ⟨R0, _, _, ⟨mkCR, eR0, iR0, kpCR⟩, ok_rinit FR0 R0, BR0⟩
  have B : Err P w K mg base CB := ⟨⟨xclCB, xsaCB, xexCB, xtyCB, xkpCB⟩, mg_of X G nCB, xnvCB, _, _, eECB, tECB, ok_einit FE, BE⟩
  have BN' : ErrK P w K mg base "NoKey" CN := ⟨⟨xclCN, xsaCN, xexCN, xtyCN, xkpCN⟩, mg_of X G nCN, xnvCN, _, _, eECN, tECN, ok_minit FN, BN⟩
  have Z : HeardN K mg CS CM CA CN CP CO := ⟨mg_of X G nCS, mg_of X G nCM, mg_of X G nCA, mg_of X G nCN, mg_of X G nCP, mg_of X G nCO, xte, ⟨xga, xgg, xexCN, xhd, xha, chn, cht, xhm⟩, ⟨xga, xgg, xexCN, xhd⟩, xnvCN, xk1, xk2, xk3, xk4, xk5, xk6, mg_none_of X G b_isinstance, mg_none_of X G b_KeyError, mg_none_of X G b_ValueError⟩
  have HW : Has P w K mg base "words_of" 1 ["line"] (spWords) := ⟨_, _, ok_words F15, mg_of X G a15, k15, B15⟩
  have HN : Has P w K mg base "is_name" 1 ["word"] (spName) := ⟨_, _, ok_isName F16 T2, mg_of X G a16, k16, B16⟩
  have HM : Has P w K mg base "number_of" 1 ["word"] (spNum) := ⟨_, _, ok_num F17 T2, mg_of X G a17, k17, B17⟩
  have HLt : Has P w K mg base "lit_of" 2 ["words", "names", "sizes"] (spLit K) := ⟨_, _, ok_litOf F22 HM, mg_of X G a22, k22, B22⟩
  have HLs : Has P w K mg base "lits_of" 3 ["line", "names", "sizes"] (spLits K) := ⟨_, _, ok_lits F23 T4 HW HLt, mg_of X G a23, k23, B23⟩
  have HSo : Has P w K mg base "is_so" 1 ["lit", "worths"] (spSo K) := ⟨_, _, ok_so F24, mg_of X G a24, k24, B24⟩
  have HTr : Has P w K mg base "truth" 2 ["lits", "worths"] (spTruth K) := ⟨_, _, ok_truth F25 HSo, mg_of X G a25, k25, B25⟩
  have HAw : Has P w K mg base "all_worths" 1 ["sizes"] (spWorths K) := ⟨_, _, ok_worths F26 T4, mg_of X G a26, k26, B26⟩
  have HK : Has P w K mg base "key_of" 2 ["line"] (spKey) := ⟨_, _, ok_keyOf F46 T3 HW HN HM, mg_of X G a46, k46, B46⟩
  have HRK : Has P w K mg base "read_keys" 3 ["lines"] (spRKeys K) := ⟨_, _, ok_readKeys F47 T3 HK, mg_of X G a47, k47, B47⟩
  have HL : HasX P w K mg base "lines_of" 3 ["text"] (spLines K CB) := ⟨_, _, ok_lines F14 T3 B, mg_of X G a14, k14, B14⟩
  have HRR : HasX P w K mg base "read_rules" 4 ["lines", "names", "sizes"] (spRules K CB) := ⟨_, _, ok_rules F48 T5 B HAw HLs HTr, mg_of X G a48, k48, B48⟩
  have SC : SheetC P w K mg base C CB CR := ⟨S0, _, _, ⟨mkC, eP, iP, kpC⟩, ok_sinit FP S0 RC HL HRK HRR, BP⟩
  have sN : HasP P w K mg base C "names" "_names" := ⟨_, _, _, ⟨paG2, pgG2, ptG2, _, prG2⟩, ok_get FG2 rfl rfl S0.cl zC2, BG2⟩
  have sS : HasP P w K mg base C "sizes" "_sizes" := ⟨_, _, _, ⟨paG3, pgG3, ptG3, _, prG3⟩, ok_get FG3 rfl rfl S0.cl zC3, BG3⟩
  have sR : HasP P w K mg base C "rules" "_rules" := ⟨_, _, _, ⟨paG4, pgG4, ptG4, _, prG4⟩, ok_get FG4 rfl rfl S0.cl zC5, BG4⟩
  have sE : HasP P w K mg base C "editions" "_editions" := ⟨_, _, _, ⟨paG5, pgG5, ptG5, _, prG5⟩, ok_get FG5 rfl rfl S0.cl zC4, BG5⟩
  have TS : ShK P w K mg base C := ⟨S0.cl, sN, sS, sE, sR⟩
  have qEq : HasD CX0 P w K mg base C "__eq__" 1 ["self", "other"] (spSEq K C) := ⟨_, _, eQ, iQ, ok_seq FQ S0, BQ⟩
  have SE : SEqK P w K mg base C := ⟨kkC, fun e => .base (.ins e S0.cl chC chn cht cmC), nfC, qEq, neC, cmC⟩
  have VK' : VwK K CV := ⟨kkCV, fun e => .base (.ins e V0.cl chCV chn cht cmCV)⟩
  have vS : HasP P w K mg base CV "sheet" "_sheet" := ⟨_, _, _, ⟨paV2, pgV2, ptV2, _, prV2⟩, ok_get FV2 rfl rfl V0.cl zCV1, BV2⟩
  have vP : HasP P w K mg base CV "pairs" "_pairs" := ⟨_, _, _, ⟨paV3, pgV3, ptV3, _, prV3⟩, ok_get FV3 rfl rfl V0.cl zCV2, BV3⟩
  have vW : HasP P w K mg base CV "worths" "_worths" := ⟨_, _, _, ⟨paV4, pgV4, ptV4, _, prV4⟩, ok_get FV4 rfl rfl V0.cl zCV4, BV4⟩
  have HI : Has P w K mg base "is_int" 1 ["value"] (spInt1) := ⟨_, _, ok_int1 F18 T8, mg_of X G a18, k18, B18⟩
  have HIW : Has P w K mg base "is_worth" 3 ["sheet", "key", "worth"] (spIsW K C CR) := ⟨_, _, ok_isWorth F30 TS HI, mg_of X G a30, k30, B30⟩
  have HAP : Has P w K mg base "are_pairs" 4 ["sheet", "pairs"] (spArePairs K C CR) := ⟨_, _, ok_arePairs F31 T8 HIW, mg_of X G a31, k31, B31⟩
  have TV : ViewC P w K mg base C CR CV := ⟨V0, _, _, ⟨mkCV, eV0, iV0, kpCV⟩, ok_vinit FV0 T8 V0 TS HAP, BV0⟩
  have HVOf : Has P w K mg base "view_of" 7 ["sheet", "worths"] (spVO false K C CR CV) := ⟨_, _, ok_viewOf false F35 T8 TV TS, mg_of X G a35, k35, B35⟩
  have HF : Has P w K mg base "fits" 1 ["worths", "edition"] (spFits K) := ⟨_, _, ok_fits F27 T8, mg_of X G a27, k27, B27⟩
  have HAW : Has P w K mg base "are_worths" 4 ["sheet", "worths"] (spAreW K C CR) := ⟨_, _, ok_areW F32 T8 TS HIW, mg_of X G a32, k32, B32⟩
  have vI : HasQ P w K mg base CV "is_whole" 1 (spIsWhole K CV) := ⟨_, _, _, ⟨paV5, pgV5, ptV5, _, prV5⟩, ok_isWhole FV5 V0, BV5⟩
  have vL : HasQ P w K mg base CV "is_lawful" 3 (spIsLaw K C CR CV) := ⟨_, _, _, ⟨paV6, pgV6, ptV6, _, prV6⟩, ok_isLaw FV6 T8 V0 TS HF, BV6⟩
  have vEq : HasD CX0 P w K mg base CV "__eq__" 3 ["self", "other"] (spVEq2 K C CR CV) := ⟨_, _, eV12, iV12, ok_veq2 FV12 T8 V0 VK' SE, BV12⟩
  have vEqN : HasD CX0 P w K mg base CV "__eq__" 3 ["self", "other"] (spVEqN K CV) := ⟨_, _, eV12, iV12, ok_veqN FV12 T8 V0 SE, BV12⟩
  have vGet : HasD (L2.CX P w) P w K mg base CV "__getitem__" 3 ["self", "key"] (spVGetA K C CR CV CN) := ⟨_, _, eV8, iV8, ok_vgetA FV8 V0 TS BN', BV8⟩
  have vHas : HasD CX0 P w K mg base CV "__contains__" 1 ["self", "key"] (spVHasA K CV) := ⟨_, _, eV9, iV9, ok_vhasA FV9 V0, BV9⟩
  have vLen : HasD CX0 P w K mg base CV "__len__" 1 ["self"] (spVLen K CV) := ⟨_, _, eVA, iVA, ok_vlen FVA T8 V0, BVA⟩
  have VI : ViewI P w K mg base C CR CV CN := ⟨vGet, fun f h => by rw [eV8] at h; cases h; exact fiV8, vHas, vLen⟩
  have VE : ViewE P w K mg base C CR CV := ⟨V0.cl, VK'.ti, nfCV, nfT, nfD, kT, kD, vEq, vEqN, vS, vP, vW, vI, vL, ⟨_, _, _, _, ⟨wS, wG⟩, ⟨wA, ⟨_, wR⟩, kV1⟩, ⟨wI1, wI2, wI3, wI4, by decide +kernel, ⟨_, wR⟩, kV1⟩, ok_whole FV1 HAW HVOf, BV1⟩⟩
  have JT : jarTake P w K mg base := ⟨_, _, ok_take F51 T0, mg_of X G a51, k51, B51⟩
  have JO : jarOf P w K mg base := ⟨_, _, ok_of F52 T0 JT, mg_of X G a52, k52, B52⟩
  have JJ : Has P w K mg base "_law_jar" 1 ["_law_script", "_law_k"] (spJar K) := ⟨_, _, ok_jar F50 T0, mg_of X G a50, k50, B50⟩
  have JN : Has P w K mg base "_law_names" 3 ["_law_jar_here", "_law_many"] (spNames) := ⟨_, _, ok_names F53 T1 JT JO, mg_of X G a53, k53, B53⟩
  have JR : Has P w K mg base "_law_rows" 1 ["_law_sizes"] (spLRows K) := ⟨_, _, ok_lrows F54 T6, mg_of X G a54, k54, B54⟩
  have JS : Has P w K mg base "_law_is_so" 1 ["_law_lits", "_law_row"] (spLSo K) := ⟨_, _, ok_lso F55 T6, mg_of X G a55, k55, B55⟩
  have JSh : Has P w K mg base "_law_sheet" 4 ["_law_jar_here", "_law_lore"] (spSheet K) := ⟨_, _, ok_sheet F56 T7 JT JN JR JS, mg_of X G a56, k56, B56⟩
  have JSl : Has P w K mg base "_law_sheet_lines" 1 ["_law_sheet_here"] (spDrawn K) := ⟨_, _, ok_slines F57 T7, mg_of X G a57, k57, B57⟩
  have JKn : Has P w K mg base "_law_knowns" 2 ["_law_sizes"] (spKnowns K) := ⟨_, _, ok_knowns F58 T8 JR, mg_of X G a58, k58, B58⟩
  have JPf : Has P w K mg base "_law_pairs" 1 ["_law_names_here", "_law_known"] (spLPairs false K) := ⟨_, _, ok_lpairs false F59 T8, mg_of X G a59, k59, B59⟩
  have JKR : HasG P w K mg base "_law_keys_right" 7 ["_law_view", "_law_names_here", "_law_known"] (spKR K C CR CV [(PT, qLam)]) := ⟨_, _, ok_kr F61 TB T9 VI Z F60 (mg_of X G a60) B60, mg_of X G a61, k61, B61⟩
  have JVR : HasG P w K mg base "_law_view_right" 9 ["_law_made", "_law_twin", "_law_sheet_here", "_law_known"] (spVR K C CR CV [(PT, qLam)]) := ⟨_, _, ok_vr F62 T9 TV VE SE JPf JKR, mg_of X G a62, k62, B62⟩
  have JG : HasG P w K mg base "_law_right" 10 ["_law_jar_here"] (spRight [(PT, qLam)]) := ⟨_, _, ok_right F63 T9 SC TV VE SE JO JSh JSl JKn JPf JVR, mg_of X G a63, k63, B63⟩
  exact ok_law F64 T9 JJ JG
end K03

namespace K03
open L2 PySem PySem.W PyProof.Rows
/-! ### the law called where no repr runs, with one table of code -/
section
variable {P : Program} {w : World} {K : PySem.W.Frag} {mg mb : Str → Option Value} {k : Nat} {fa a c PT : Addr} {q : Str} {fd : FuncData} {x : Str} {s₁ : Shared} {vs : List Value} {ns : List Int} {Ht : Hp}
/-- what may be tracked at first: the table, empty, and the script -/
structure Start (h : Heap) (K : PySem.W.Frag) (PT a : Addr) (ns : List Int) (Ht : Hp) : Prop where
  tab : Ht PT = some (.tbl #[])
  rest : ∀ b, b ≠ PT → Ht b = none ∨ (b = a ∧ K.lookup a = none ∧ ∃ ob ys, Ht b = some (.frz ob (.lst ys)))
  seq : SqL K Ht a (ns.map V.int)
theorem call_tab (inK : K.In s₁.heap) (gl : s₁.heap.Ns mainGlobals mg) (bt : s₁.heap.Ns builtinsNs mb) (bb : ∀ x : Str, x ≠ "__name__" → mb x = bootBuiltins x) (lim : s₁.heap.NoLimit) (gens : s₁.gens = #[])
    (hT : s₁.heap.get? PT = some (tabObj #[])) (nT : K.lookup PT = none) (hc : codeHdIn K c PT = true)
    (mod_ : ∃ (bm : Addr) (ob : Obj), mg "__builtins__" = some (.ref bm) ∧ bm ≠ builtinsNs ∧ s₁.heap.get? bm = some ob ∧ ob.cls = .type "module" ∧ ob.dict = some builtinsNs ∧ ob.data = .plain)
    (ha : s₁.heap.get? a = some { cls := .type "list", data := .seq vs.toArray }) (room : Room k callerA)
    (F : ∀ base : Heap, K.In base → base.Ns mainGlobals mg → LamX.TabB base mg c PT → FnG P w K mg base k fa fd [x] (spLaw [(PT, q)] K)) (bind : ∀ (s : Shared) (u : Value), BindsTo s fd ⟨[u], []⟩ [(x, u)])
    (S : Start s₁.heap K PT a ns Ht) (few : ns.length ≤ 63) (hok : HOk P w Ht s₁.heap) :
    codeAny (model P w) callerA (.call (.ref fa) ⟨[.ref a], []⟩) (fun rr s' => rr = .ok (.ret (.bool true)) ∧ OldK s₁.heap s'.heap ∧ s'.os = s₁.os ∧ AllBare s'.gens) s₁ := by
  have below : ∀ {b : Addr} {o : Obj}, s₁.heap.get? b = some o → Ht b = none → (hidT s₁.heap Ht).get? b = some o := fun {b o} e z => hidT_get e z
  have free : ∀ {b : Addr}, b ≠ PT → b ≠ a → Ht b = none := fun {b} n m => by
    rcases S.rest b n with z | ⟨z, _⟩
    · exact z
    · exact absurd z m
  have other : ∀ {b : Addr} {o : Obj}, s₁.heap.get? b = some o → o ≠ tabObj #[] → o ≠ { cls := .type "list", data := .seq vs.toArray } → Ht b = none := fun {b o} e n m => by
    refine free (fun z => ?_) (fun z => ?_)
    · rw [z, hT] at e
      exact n (Option.some.inj e).symm
    · rw [z, ha] at e
      exact m (Option.some.inj e).symm
  have spaces : ∀ {b : Addr} {m : Str → Option Value}, s₁.heap.Ns b m → (hidT s₁.heap Ht).Ns b m := fun {b m} z => by
    obtain ⟨o, es, ep, e, d, r⟩ := z
    refine ⟨o, es, ep, below e (other e (fun z => ?_) (fun z => ?_)), d, r⟩
    · rw [z] at d
      cases d
    · rw [z] at d
      cases d
  have inB : K.In (hidT s₁.heap Ht) := fun b o e => below (inK b o e) (by
    by_cases n : b = PT
    · rw [n, nT] at e
      cases e
    · rcases S.rest b n with z | ⟨z, y, _⟩
      · exact z
      · rw [z, y] at e
        cases e)
  have md : Mod K mg (hidT s₁.heap Ht) := by
    obtain ⟨mc, l1, l2⟩ := lim
    exact ⟨inB, spaces gl, ⟨mb, spaces bt, bb⟩, ⟨mc, spaces l1, l2⟩⟩
  have env : Env0 P w K mg (hidT s₁.heap Ht) callerA [] s₁ Ht := ⟨rfl, md, fun b o e => of_hidT e, Nat.le_of_eq (hidT_size _ _), trivial, fun b hb => (List.not_mem_nil hb).elim, hok, .of_eq gens⟩
  have tb : LamX.TabB (hidT s₁.heap Ht) mg c PT := by
    obtain ⟨bm, ob, b1, b2, b3, b4, b5, b6⟩ := mod_
    have plain : Ht bm = none := other b3 (fun z => by rw [z] at b6; cases b6) (fun z => by rw [z] at b6; cases b6)
    refine ⟨codeHd_of_K inB hc, ⟨bm, ob, b1, b2, fun z => ?_, fun z => ?_, below b3 plain, b4, b5, b6⟩, fun z => ?_⟩
    · obtain ⟨o, es, ep, e, d, _⟩ := gl
      rw [← z, b3] at e
      cases e
      rw [b6] at d
      cases d
    · rw [z, S.tab] at plain
      cases plain
    · obtain ⟨o, es, ep, e, d, _⟩ := gl
      rw [z, hT] at e
      cases e
      cases d
  have tabs : LamX.Tabs [(PT, q)] Ht := fun p hp => by
    rw [List.mem_singleton.mp hp]
    exact LamX.TabS.nil S.tab
  have run := (F _ inB (spaces gl) tb).run callerA [] s₁ Ht ⟨[.ref a], []⟩ [.ref a] [.ref a] (fun v _ => v = .bl true) (fun _ _ _ => False) rfl room env (bind s₁ (.ref a)) (.cons rfl .nil) ⟨a, ns, rfl, tabs, S.seq, few, fun _ => rfl⟩
  refine codeAny_mono run fun res s' out => ?_
  cases res with
  | error e => exact False.elim out
  | ok fl =>
    cases fl with
    | ret u =>
      obtain ⟨v, H', os, bare, un, hok', rv, ev⟩ := out
      have ev' : v = .bl true := ev
      subst ev'
      obtain rfl : u = Value.bool true := rv
      have old : ∀ b o, b ≠ PT → s₁.heap.get? b = some o → s'.heap.get? b = some o := fun b o n e => by
        rcases S.rest b n with z | ⟨_, _, ob, ys, z⟩
        · exact un.keep b o e z (fun y => (List.not_mem_nil (show b ∈ ([] : List Addr) from y)).elim) (by simp)
        · have e1 := (hok b _ z).1
          have e2 := (hok' b _ (un.frzs b ob _ z)).1
          rw [e] at e1
          cases e1
          exact e2
      obtain ⟨more, grown⟩ := un.tbls PT #[] S.tab
      have now : s'.heap.get? PT = some { cls := .none, data := .fields (#[] ++ more) } := hok' PT _ grown
      refine ⟨rfl, ⟨fun b o e => ?_, fun b o e => ?_⟩, os, bare⟩
      · by_cases n : b = PT
        · subst n
          rw [hT] at e
          cases e
          refine .inr (.inl ⟨((codeHd_of_K inK hc).tab hT).isCodeTable, rfl, #[], more, rfl, ?_⟩)
          rw [now, Array.empty_append]
        · exact .inl (old b o n e)
      · by_cases n : b = PT
        · subst n
          exact ⟨_, now⟩
        · exact ⟨o, old b o n e⟩
    | next => exact False.elim out
    | brk => exact False.elim out
    | cont => exact False.elim out
theorem law_tab (inK : K.In s₁.heap) (gl : s₁.heap.Ns mainGlobals mg) (bt : s₁.heap.Ns builtinsNs mb) (bb : ∀ x : Str, x ≠ "__name__" → mb x = bootBuiltins x) (lim : s₁.heap.NoLimit) (gens : s₁.gens = #[])
    (hT : s₁.heap.get? PT = some (tabObj #[])) (nT : K.lookup PT = none) (hc : codeHdIn K c PT = true)
    (mod_ : ∃ (bm : Addr) (ob : Obj), mg "__builtins__" = some (.ref bm) ∧ bm ≠ builtinsNs ∧ s₁.heap.get? bm = some ob ∧ ob.cls = .type "module" ∧ ob.dict = some builtinsNs ∧ ob.data = .plain)
    (ha : s₁.heap.get? a = some { cls := .type "list", data := .seq vs.toArray }) (nums : IntsAre vs ns) (few : ns.length ≤ 63) (room : Room k callerA)
    (F : ∀ base : Heap, K.In base → base.Ns mainGlobals mg → LamX.TabB base mg c PT → FnG P w K mg base k fa fd [x] (spLaw [(PT, q)] K)) (bind : ∀ (s : Shared) (u : Value), BindsTo s fd ⟨[u], []⟩ [(x, u)]) :
    codeAny (model P w) callerA (.call (.ref fa) ⟨[.ref a], []⟩) (fun rr s' => rr = .ok (.ret (.bool true)) ∧ OldK s₁.heap s'.heap ∧ s'.os = s₁.os ∧ AllBare s'.gens) s₁ := by
  have vals := vals_ints nums
  have long := nums.length
  have big : ns.length ≤ sizeLine := Nat.le_trans few (by decide)
  have aP : a ≠ PT := fun z => by
    rw [z, hT] at ha
    cases ha
  cases hk : K.lookup a with
  | some o =>
    have e := inK a o hk
    rw [ha] at e
    cases e
    refine call_tab (Ht := fun b => if b = PT then some (.tbl #[]) else none) inK gl bt bb lim gens hT nT hc mod_ ha room F bind ⟨if_pos rfl, fun b n => .inl (if_neg n), .inr ⟨_, vs.toArray, _, hk, rfl, rfl, rfl, by rw [List.size_toArray, long]; exact big, by simpa using vals⟩⟩ few (fun b u z => ?_)
    by_cases n : b = PT
    · have y := (if_pos n).symm.trans z
      cases y
      rw [n]
      exact hT
    · cases (if_neg n).symm.trans z
  | none =>
    have at_a : ∀ b, b = a → (fun b : Addr => if b = PT then (some (.tbl #[]) : Option HO) else if b = a then some (.frz { cls := .type "list", data := .seq vs.toArray } (.lst (ns.map V.int))) else none) b = some (.frz { cls := .type "list", data := .seq vs.toArray } (.lst (ns.map V.int))) := fun b z => (if_neg (by rw [z]; exact aP)).trans (if_pos z)
    refine call_tab (Ht := fun b : Addr => if b = PT then (some (.tbl #[]) : Option HO) else if b = a then some (.frz { cls := .type "list", data := .seq vs.toArray } (.lst (ns.map V.int))) else none) inK gl bt bb lim gens hT nT hc mod_ ha room F bind
      ⟨if_pos rfl, fun b n => ?_, .inl (.inr ⟨_, at_a a rfl⟩)⟩ few (fun b u z => ?_)
    · by_cases m : b = a
      · exact .inr ⟨m, hk, _, _, at_a b m⟩
      · exact .inl ((if_neg n).trans (if_neg m))
    · by_cases n : b = PT
      · have y := (if_pos n).symm.trans z
        cases y
        rw [n]
        exact hT
      · by_cases m : b = a
        · have y := (at_a b m).symm.trans z
          cases y
          subst m
          exact ⟨ha, by rw [List.length_map]; exact big, vs, _, vals, ha⟩
        · cases ((if_neg n).trans (if_neg m)).symm.trans z
theorem walk_t {l : PySem.W.OpenLaw} {qp : Program} {loose : List Str} {XP : (Str → Option Value) → Heap → Prop} {YP : World → Heap → Prop} {d : DefRec} {K : Params → PySem.W.Frag} (most : l.most = some 63) (nodef : d.params.defaults = []) (room : Room 11 callerA)
    (hY : ∀ (w : World) (hp : Heap), YP w hp → (K w.params).In hp)
    (F : ∀ (w : World) (mg : Str → Option Value) (fa : Addr) (hp : Heap), YP w hp → (K w.params).In hp → hp.Ns mainGlobals mg → mg d.name = some (.ref fa) →
      ∃ (c PT : Addr) (fd : FuncData), hp.get? PT = some (tabObj #[]) ∧ (K w.params).lookup PT = none ∧ codeHdIn (K w.params) c PT = true ∧ (∀ (s : Shared) (v : Value), BindsTo s fd ⟨[v], []⟩ [("_law_script", v)]) ∧
        ∀ base : Heap, (K w.params).In base → base.Ns mainGlobals mg → LamX.TabB base mg c PT → FnG l.prog w (K w.params) mg base 11 fa fd ["_law_script"] (spLaw [(PT, qLam)] (K w.params))) :
    PySem.W.WalkO qp loose XP YP l.row.toRowW d [] (fun g us => PySem.call g us) := by
  refine Att.attach_call most nodef fun w s₀ s₁ mg mb fa o pm cd doc a vs ns G Y ho hd hcd at_ obj nums few gens => ?_
  obtain ⟨c, PT, fd, hT, nT, hc, bind, law⟩ := F w mg fa _ Y (hY w _ Y) G.T.g at_
  exact law_tab (hY w _ Y) G.T.g G.T.b G.T.builtins G.T.nolimit gens hT nT hc G.T.bmain obj nums few room law bind
end
end K03

open PyProof.Rows PySem PySem.W in
set_option maxRecDepth 100001 in
set_option maxHeartbeats 0 in
theorem PySem.Challenge.cw_settledreads_k03_views_part_by_part_holds : PySem.Challenge.rw_settledreads_k03_views_part_by_part.Holds := by
  w_on
  o_law
  k_head
  (case hw => w_witness2)
  k_fill
  refine K03.walk_t (l := PySem.Challenge.rw_settledreads_k03_views_part_by_part) rfl rfl ⟨by decide, by decide, by decide⟩ (fun w h Y => PySem.W.km_in_of Y) ?F
  case F =>
    intro w mg fa h Y KX G hmg
    refine' K03.all_mk KX G hmg ?a14 ?l14 ?c14 ?k14 ?a15 ?l15 ?c15 ?k15 ?a16 ?l16 ?c16 ?k16 ?a17 ?l17 ?c17 ?k17 ?a18 ?l18 ?c18 ?k18 ?a22 ?l22 ?c22 ?k22 ?a23 ?l23 ?c23 ?k23 ?a24 ?l24 ?c24 ?k24 ?a25 ?l25 ?c25 ?k25 ?a26 ?l26 ?c26 ?k26 ?a27 ?l27 ?c27 ?k27 ?a30 ?l30 ?c30 ?k30 ?a31 ?l31 ?c31 ?k31 ?a32 ?l32 ?c32 ?k32 ?a35 ?l35 ?c35 ?k35 ?a46 ?l46 ?c46 ?k46 ?a47 ?l47 ?c47 ?k47 ?a48 ?l48 ?c48 ?k48 ?a50 ?l50 ?c50 ?k50 ?a51 ?l51 ?c51 ?k51 ?a52 ?l52 ?c52 ?k52 ?a53 ?l53 ?c53 ?k53 ?a54 ?l54 ?c54 ?k54 ?a55 ?l55 ?c55 ?k55 ?a56 ?l56 ?c56 ?k56 ?a57 ?l57 ?c57 ?k57 ?a58 ?l58 ?c58 ?k58 ?a59 ?l59 ?c59 ?k59 ?a60 ?l60 ?c60 ?k60 ?a61 ?l61 ?c61' ?k61 ?a62 ?l62 ?c62 ?k62 ?a63 ?l63 ?c63 ?k63 ?a64 ?l64 ?c64 ?k64 ?nCB ?nCP ?nCS ?nCM ?nCA ?nCN ?nCO ?nCR ?nC ?nCV ?eECB ?xsaCB ?xexCB ?xtyCB ?xkpCB ?xnvCB ?xclCB ?tECB ?eECN ?xsaCN ?xexCN ?xtyCN ?xkpCN ?xnvCN ?xclCN ?tECN ?xte ?xga ?xgg ?xhd ?xha ?xhm ?xk1 ?xk2 ?xk3 ?xk4 ?xk5 ?xk6 ?eV0 ?iV0 ?wA ?wR ?wS ?wI1 ?wI2 ?wI3 ?wI4 ?wG ?paV2 ?pgV2 ?ptV2 ?prV2 ?paV3 ?pgV3 ?ptV3 ?prV3 ?paV4 ?pgV4 ?ptV4 ?prV4 ?paV5 ?pgV5 ?ptV5 ?prV5 ?paV6 ?pgV6 ?ptV6 ?prV6 ?eV8 ?iV8 ?fiV8 ?eV9 ?iV9 ?eVA ?iVA ?eV12 ?iV12 ?eR0 ?iR0 ?eP ?iP ?paG2 ?pgG2 ?ptG2 ?prG2 ?paG3 ?pgG3 ?ptG3 ?prG3 ?paG4 ?pgG4 ?ptG4 ?prG4 ?paG5 ?pgG5 ?ptG5 ?prG5 ?eQ ?iQ ?lE ?cE ?kE ?lN ?cN ?kN ?lV0 ?cV0 ?kV0 ?lV1 ?cV1 ?kV1 ?lV2 ?cV2 ?kV2 ?lV3 ?cV3 ?kV3 ?lV4 ?cV4 ?kV4 ?lV5 ?cV5 ?kV5 ?lV6 ?cV6 ?kV6 ?lV8 ?cV8 ?kV8 ?lV9 ?cV9 ?kV9 ?lVA ?cVA ?kVA ?lV12 ?cV12 ?kV12 ?lR0 ?cR0 ?kR0 ?lP ?cP ?kP ?lG2 ?cG2 ?kG2 ?lG3 ?cG3 ?kG3 ?lG4 ?cG4 ?kG4 ?lG5 ?cG5 ?kG5 ?lQ ?cQ ?kQ ?pgC ?hdC ?poC ?saC ?mkC ?kpC ?zC1 ?zC2 ?zC3 ?zC4 ?zC5 ?pgCR ?hdCR ?poCR ?saCR ?mkCR ?kpCR ?zCR1 ?zCR2 ?zCR3 ?pgCV ?hdCV ?poCV ?saCV ?mkCV ?kpCV ?zCV1 ?zCV2 ?zCV3 ?zCV4 ?chC ?cmC ?kkC ?nfC ?chCV ?cmCV ?kkCV ?nfCV ?chn ?cht ?neC ?nfT ?nfD ?kT ?kD ?gL ?gD ?g8 ?g9 ?gS ?gM ?gR ?gW ?gZ ?gN ?b_int ?b_abs ?b_len ?b_range ?b_all ?b_isinstance ?b_str ?b_tuple ?b_list ?b_any ?b_zip ?b_enumerate ?b_bool ?b_dict ?b_sorted ?b_repr ?b_max ?b_min ?b_KeyError ?b_ValueError ?lZ ?lL ?lc61 ?pt61 ?tb61 ?nT61 ?hT61
    (case a14 => k_is)
    (case l14 => k_is)
    (case c14 => k_is)
    (case k14 => k_is)
    (case a15 => k_is)
    (case l15 => k_is)
    (case c15 => k_is)
    (case k15 => k_is)
    (case a16 => k_is)
    (case l16 => k_is)
    (case c16 => k_is)
    (case k16 => k_is)
    (case a17 => k_is)
    (case l17 => k_is)
    (case c17 => k_is)
    (case k17 => k_is)
    (case a18 => k_is)
    (case l18 => k_is)
    (case c18 => k_is)
    (case k18 => k_is)
    (case a22 => k_is)
    (case l22 => k_is)
    (case c22 => k_is)
    (case k22 => k_is)
    (case a23 => k_is)
    (case l23 => k_is)
    (case c23 => k_is)
    (case k23 => k_is)
    (case a24 => k_is)
    (case l24 => k_is)
    (case c24 => k_is)
    (case k24 => k_is)
    (case a25 => k_is)
    (case l25 => k_is)
    (case c25 => k_is)
    (case k25 => k_is)
    (case a26 => k_is)
    (case l26 => k_is)
    (case c26 => k_is)
    (case k26 => k_is)
    (case a27 => k_is)
    (case l27 => k_is)
    (case c27 => k_is)
    (case k27 => k_is)
    (case a30 => k_is)
    (case l30 => k_is)
    (case c30 => k_is)
    (case k30 => k_is)
    (case a31 => k_is)
    (case l31 => k_is)
    (case c31 => k_is)
    (case k31 => k_is)
    (case a32 => k_is)
    (case l32 => k_is)
    (case c32 => k_is)
    (case k32 => k_is)
    (case a35 => k_is)
    (case l35 => k_is)
    (case c35 => k_is)
    (case k35 => k_is)
    (case a46 => k_is)
    (case l46 => k_is)
    (case c46 => k_is)
    (case k46 => k_is)
    (case a47 => k_is)
    (case l47 => k_is)
    (case c47 => k_is)
    (case k47 => k_is)
    (case a48 => k_is)
    (case l48 => k_is)
    (case c48 => k_is)
    (case k48 => k_is)
    (case a50 => k_is)
    (case l50 => k_is)
    (case c50 => k_is)
    (case k50 => k_is)
    (case a51 => k_is)
    (case l51 => k_is)
    (case c51 => k_is)
    (case k51 => k_is)
    (case a52 => k_is)
    (case l52 => k_is)
    (case c52 => k_is)
    (case k52 => k_is)
    (case a53 => k_is)
    (case l53 => k_is)
    (case c53 => k_is)
    (case k53 => k_is)
    (case a54 => k_is)
    (case l54 => k_is)
    (case c54 => k_is)
    (case k54 => k_is)
    (case a55 => k_is)
    (case l55 => k_is)
    (case c55 => k_is)
    (case k55 => k_is)
    (case a56 => k_is)
    (case l56 => k_is)
    (case c56 => k_is)
    (case k56 => k_is)
    (case a57 => k_is)
    (case l57 => k_is)
    (case c57 => k_is)
    (case k57 => k_is)
    (case a58 => k_is)
    (case l58 => k_is)
    (case c58 => k_is)
    (case k58 => k_is)
    (case a59 => k_is)
    (case l59 => k_is)
    (case c59 => k_is)
    (case k59 => k_is)
    (case a60 => k_is)
    (case l60 => k_is)
    (case c60 => k_is)
    (case k60 => k_is)
    (case a61 => k_is)
    (case l61 => k_is)
    (case c61' => k_is)
    (case k61 => k_is)
    (case a62 => k_is)
    (case l62 => k_is)
    (case c62 => k_is)
    (case k62 => k_is)
    (case a63 => k_is)
    (case l63 => k_is)
    (case c63 => k_is)
    (case k63 => k_is)
    (case a64 => k_is)
    (case l64 => k_is)
    (case c64 => k_is)
    (case k64 => k_is)
    (case nCB => k_is)
    (case nCP => k_is)
    (case nCS => k_is)
    (case nCM => k_is)
    (case nCA => k_is)
    (case nCN => k_is)
    (case nCO => k_is)
    (case nCR => k_is)
    (case nC => k_is)
    (case nCV => k_is)
    (case eECB => k_is)
    (case xsaCB => k_is)
    (case xexCB => k_is)
    (case xtyCB => k_is)
    (case xkpCB => k_is)
    (case xnvCB => k_is)
    (case xclCB => exact ⟨_, _, _, _, _, _, _, _, _, _, _, _, _, _, _, by k_is, by decide⟩)
    (case tECB => k_is)
    (case eECN => k_is)
    (case xsaCN => k_is)
    (case xexCN => k_is)
    (case xtyCN => k_is)
    (case xkpCN => k_is)
    (case xnvCN => k_is)
    (case xclCN => exact ⟨_, _, _, _, _, _, _, _, _, _, _, _, _, _, _, by k_is, by decide⟩)
    (case tECN => k_is)
    (case xte => first | kernel_rfl | rfl | decide +kernel)
    (case xga => k_is)
    (case xgg => k_is)
    (case xhd => k_is)
    (case xha => k_is)
    (case xhm => k_is)
    (case xk1 => kit_is)
    (case xk2 => kit_is)
    (case xk3 => kit_is)
    (case xk4 => kit_is)
    (case xk5 => kit_is)
    (case xk6 => kit_is)
    (case eV0 => k_is)
    (case iV0 => k_is)
    (case wA => k_is)
    (case wR => k_is)
    (case wS => first | k_is | kernel_rfl | rfl | decide +kernel)
    (case wI1 => k_is)
    (case wI2 => k_is)
    (case wI3 => k_is)
    (case wI4 => k_is)
    (case wG => k_is)
    (case paV2 => k_is)
    (case pgV2 => k_is)
    (case ptV2 => k_is)
    (case prV2 => k_is)
    (case paV3 => k_is)
    (case pgV3 => k_is)
    (case ptV3 => k_is)
    (case prV3 => k_is)
    (case paV4 => k_is)
    (case pgV4 => k_is)
    (case ptV4 => k_is)
    (case prV4 => k_is)
    (case paV5 => k_is)
    (case pgV5 => k_is)
    (case ptV5 => k_is)
    (case prV5 => k_is)
    (case paV6 => k_is)
    (case pgV6 => k_is)
    (case ptV6 => k_is)
    (case prV6 => k_is)
    (case eV8 => k_is)
    (case iV8 => k_is)
    (case fiV8 => k_is)
    (case eV9 => k_is)
    (case iV9 => k_is)
    (case eVA => k_is)
    (case iVA => k_is)
    (case eV12 => k_is)
    (case iV12 => k_is)
    (case eR0 => k_is)
    (case iR0 => k_is)
    (case eP => k_is)
    (case iP => k_is)
    (case paG2 => k_is)
    (case pgG2 => k_is)
    (case ptG2 => k_is)
    (case prG2 => k_is)
    (case paG3 => k_is)
    (case pgG3 => k_is)
    (case ptG3 => k_is)
    (case prG3 => k_is)
    (case paG4 => k_is)
    (case pgG4 => k_is)
    (case ptG4 => k_is)
    (case prG4 => k_is)
    (case paG5 => k_is)
    (case pgG5 => k_is)
    (case ptG5 => k_is)
    (case prG5 => k_is)
    (case eQ => k_is)
    (case iQ => k_is)
    (case lE => k_is)
    (case cE => k_is)
    (case kE => k_is)
    (case lN => k_is)
    (case cN => k_is)
    (case kN => k_is)
    (case lV0 => k_is)
    (case cV0 => k_is)
    (case kV0 => k_is)
    (case lV1 => k_is)
    (case cV1 => k_is)
    (case kV1 => k_is)
    (case lV2 => k_is)
    (case cV2 => k_is)
    (case kV2 => k_is)
    (case lV3 => k_is)
    (case cV3 => k_is)
    (case kV3 => k_is)
    (case lV4 => k_is)
    (case cV4 => k_is)
    (case kV4 => k_is)
    (case lV5 => k_is)
    (case cV5 => k_is)
    (case kV5 => k_is)
    (case lV6 => k_is)
    (case cV6 => k_is)
    (case kV6 => k_is)
    (case lV8 => k_is)
    (case cV8 => k_is)
    (case kV8 => k_is)
    (case lV9 => k_is)
    (case cV9 => k_is)
    (case kV9 => k_is)
    (case lVA => k_is)
    (case cVA => k_is)
    (case kVA => k_is)
    (case lV12 => k_is)
    (case cV12 => k_is)
    (case kV12 => k_is)
    (case lR0 => k_is)
    (case cR0 => k_is)
    (case kR0 => k_is)
    (case lP => k_is)
    (case cP => k_is)
    (case kP => k_is)
    (case lG2 => k_is)
    (case cG2 => k_is)
    (case kG2 => k_is)
    (case lG3 => k_is)
    (case cG3 => k_is)
    (case kG3 => k_is)
    (case lG4 => k_is)
    (case cG4 => k_is)
    (case kG4 => k_is)
    (case lG5 => k_is)
    (case cG5 => k_is)
    (case kG5 => k_is)
    (case lQ => k_is)
    (case cQ => k_is)
    (case kQ => k_is)
    (case pgC => k_is)
    (case hdC => k_is)
    (case poC => k_is)
    (case saC => k_is)
    (case mkC => k_is)
    (case kpC => k_is)
    (case zC1 => k_is)
    (case zC2 => k_is)
    (case zC3 => k_is)
    (case zC4 => k_is)
    (case zC5 => k_is)
    (case pgCR => k_is)
    (case hdCR => k_is)
    (case poCR => k_is)
    (case saCR => k_is)
    (case mkCR => k_is)
    (case kpCR => k_is)
    (case zCR1 => k_is)
    (case zCR2 => k_is)
    (case zCR3 => k_is)
    (case pgCV => k_is)
    (case hdCV => k_is)
    (case poCV => k_is)
    (case saCV => k_is)
    (case mkCV => k_is)
    (case kpCV => k_is)
    (case zCV1 => k_is)
    (case zCV2 => k_is)
    (case zCV3 => k_is)
    (case zCV4 => k_is)
    (case chC => k_is)
    (case cmC => k_is)
    (case kkC => kit_is)
    (case nfC => k_is)
    (case chCV => k_is)
    (case cmCV => k_is)
    (case kkCV => kit_is)
    (case nfCV => k_is)
    (case chn => k_is)
    (case cht => k_is)
    (case neC => k_is)
    (case nfT => k_is)
    (case nfD => k_is)
    (case kT => kit_is)
    (case kD => kit_is)
    (case gL => k_is)
    (case gD => k_is)
    (case g8 => k_is)
    (case g9 => k_is)
    (case gS => k_is)
    (case gM => k_is)
    (case gR => k_is)
    (case gW => k_is)
    (case gZ => k_is)
    (case gN => k_is)
    (case b_int => k_is)
    (case b_abs => k_is)
    (case b_len => k_is)
    (case b_range => k_is)
    (case b_all => k_is)
    (case b_isinstance => k_is)
    (case b_str => k_is)
    (case b_tuple => k_is)
    (case b_list => k_is)
    (case b_any => k_is)
    (case b_zip => k_is)
    (case b_enumerate => k_is)
    (case b_bool => k_is)
    (case b_dict => k_is)
    (case b_sorted => k_is)
    (case b_repr => k_is)
    (case b_max => k_is)
    (case b_min => k_is)
    (case b_KeyError => k_is)
    (case b_ValueError => k_is)
    (case lZ => k_is)
    (case lL => k_is)
    (case lc61 => k_is)
    (case pt61 => rfl)
    (case tb61 => first | kernel_rfl | rfl | decide +kernel)
    (case nT61 => first | k_is | kernel_rfl | rfl | decide +kernel)
    (case hT61 => exact PySem.W.km_tabs_of Y _ (by simp))
