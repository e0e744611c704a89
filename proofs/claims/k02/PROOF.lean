import PyProof.Rows.All
import Wide.All
import OpenK.AllK
import Wide.FinOn
import HandS.ForMost
import HandS.Codes
import KE.KSuper
import HandS.Nested
import KE.KExcSuper
import HandS.Exc
import HandS.ExcInit
import HandS.FStr
import HandS.WordsExc
import HandS.ExcOwn
import HandS.TryOnly
import HandS.IsInst
import HandS.MakeKw
import HandS.MakeKwOnly
import HandS.Property
import HandS.ClsMeth
import HandS.RaiseMore
import HandS.Walk
import PyProof.ReprRoads
import KE.KCallOwn
import HandS.ExcField
import PySem.Challenge.RW_strayjoins_k02_legs
set_option Elab.async false
set_option linter.all false
set_option maxRecDepth 100000
namespace Sj
open PySem L2
open C8 (pss_cut tCut)
def top (i : Nat) : Stmt := PySem.Challenge.pw_strayjoins_k02_legs.main.body.getD i (.Pass ⟨0, 0, 0, 0⟩)
abbrev sPen : Stmt := top 13
abbrev sDraw : Stmt := top 14
abbrev sPick : Stmt := top 15

/-! ### the pen: its cells, the next place, what is left of a great one -/
def penO (l : Addr) (i g : Int) : HO := .lst [.ref l, .int i, .int g]
def Pen (H : Hp) (p l : Addr) (cs : List Int) (n : Nat) : Prop :=
  ∃ i g : Int, H p = some (penO l i g) ∧ H l = some (.lst (cs.map V.int)) ∧ cs.length ≤ 63 ∧ 0 ≤ i ∧ i ≤ n
/-- all that stood but at p stands as it was -/
def But (H H' : Hp) (p : Addr) : Prop := ∀ b o, b ≠ p → H b = some o → H' b = some o
theorem But.upd (H : Hp) (p : Addr) (o : HO) : But H (upd H p o) p := fun b _ h e => by rw [upd_ne h]; exact e
theorem But.trans {H H1 H2 : Hp} {p : Addr} (a : But H H1 p) (b : But H1 H2 p) : But H H2 p := fun c o h e => b c o h (a c o h e)
theorem But.put {H H1 : Hp} {p : Addr} (a : But H H1 p) (o : HO) : But H (L2.upd H1 p o) p := a.trans (.upd _ _ _)
theorem But.new {H H1 : Hp} {p q : Addr} (a : But H H1 p) (hq : H1 q = none) (o : HO) : But H (L2.upd H1 q o) p := fun b _ h e => by
  have e1 := a b _ h e
  rw [upd_ne (ne_of_none e1 hq)]
  exact e1
def spDraw : Sp := fun vs H Q _ => ∃ (p l : Addr) (cs : List Int) (n : Nat) (m : Int), vs = [.ref p, .int m] ∧ Pen H p l cs n ∧ 0 < m ∧ m < 1073741824 ∧ n < 1000000 ∧
  ∀ (d i g : Int) (H' : Hp), 0 ≤ d → d < m → 0 ≤ i → i ≤ n + 1 → H' p = some (penO l i g) → But H H' p → Q (.int d) H'
structure Bi (mg : Str → Option Value) : Prop where
  int : mg "int" = none
  len : mg "len" = none
  abs : mg "abs" = none
theorem dp_ints {K : PySem.W.Frag} {H : Hp} : ∀ cs : List Int, DpAll K H (cs.map V.int) (cs.map PyData.int)
  | [] => .nil
  | c :: cs => .cons (.int c) (dp_ints cs)
theorem shaped_ints (cs : List Int) : SeqAt.shaped (.list (cs.map PyData.int)) = true := by
  unfold SeqAt.shaped
  rw [Bool.and_eq_true]
  refine ⟨?_, decide_eq_true ?_⟩
  · show PyData.canLayAll0 (cs.map PyData.int) = true
    induction cs with
    | nil => rfl
    | cons c cs ih => exact Bool.and_eq_true_iff.mpr ⟨rfl, ih⟩
  · have e : PyData.depthAll (cs.map PyData.int) ≤ 1 := by
      induction cs with
      | nil => exact Nat.zero_le _
      | cons c cs ih => exact Nat.max_le.mpr ⟨(show (0 : Nat) ≤ 1 by decide), ih⟩
    show PyData.depthAll (cs.map PyData.int) + 1 ≤ 64
    omega
theorem small1 {b c i m : Int} {n : Nat} {x : Int} (i0 : 0 ≤ i) (i1 : i ≤ n) (n1 : n < 1000000) (hm : 0 < m ∧ m < 4294967296 := by decide) (hb : 0 ≤ b ∧ b < 100000 := by decide) (hc : 0 ≤ c ∧ c < 100000 := by decide) :
    (x % m + b * i + c).natAbs < 2 ^ 64 := by
  have h1 := Int.emod_nonneg x (show m ≠ 0 by omega)
  have h2 := Int.emod_lt_of_pos x hm.1
  have h3 : 0 ≤ b * i := Int.mul_nonneg hb.1 i0
  have h4 : b * i ≤ 100000 * 1000000 := Int.mul_le_mul (by omega) (by omega) i0 (by decide)
  have h5 : (2 : Nat) ^ 64 = 18446744073709551616 := by decide
  omega
theorem small3 {b i : Int} (i0 : 0 ≤ i) (hb : 0 ≤ b ∧ b < 100000 := by decide) : -(2 ^ 64) < b * i := by
  have h3 : 0 ≤ b * i := Int.mul_nonneg hb.1 i0
  have h5 : (2 : Int) ^ 64 = 18446744073709551616 := by decide
  omega
theorem small4 {b i : Int} {n : Nat} (i1 : i ≤ n) (n1 : n < 1000000) (hb : 0 ≤ b ∧ b < 100000 := by decide) : b * i < 2 ^ 64 := by
  have h4 : b * i ≤ b * 1000000 := Int.mul_le_mul_of_nonneg_left (by omega) hb.1
  have h5 : (2 : Int) ^ 64 = 18446744073709551616 := by decide
  omega
theorem small2 {a b c e i y : Int} {n : Nat} (i0 : 0 ≤ i) (i1 : i ≤ n) (n1 : n < 1000000) (y0 : 0 ≤ y) (y1 : y < 2147483648) (ha : 0 ≤ a ∧ a < 10 := by decide) (hb : 0 ≤ b ∧ b < 100000 := by decide)
    (hc : 0 ≤ c ∧ c < 100000 := by decide) (he : 0 ≤ e ∧ e < 100000 := by decide) : (y * (a * i + b) + c * i * i + e).natAbs < 2 ^ 64 := by
  have h3 : 0 ≤ a * i := Int.mul_nonneg ha.1 i0
  have h4 : a * i ≤ 10 * 1000000 := Int.mul_le_mul (by omega) (by omega) i0 (by decide)
  have h6 : 0 ≤ y * (a * i + b) := Int.mul_nonneg y0 (by omega)
  have h7 : y * (a * i + b) ≤ 2147483648 * 20000000 := Int.mul_le_mul (by omega) (by omega) (by omega) (by decide)
  have h8 : 0 ≤ c * i := Int.mul_nonneg hc.1 i0
  have h9 : c * i ≤ 100000 * 1000000 := Int.mul_le_mul (by omega) (by omega) i0 (by decide)
  have h10 : 0 ≤ c * i * i := Int.mul_nonneg h8 i0
  have h11 : c * i * i ≤ (100000 * 1000000) * 1000000 := Int.mul_le_mul h9 (by omega) i0 (by decide)
  have h5 : (2 : Nat) ^ 64 = 18446744073709551616 := by decide
  omega
theorem cut_ints (ns : List Int) (a b : Option Int) : ∃ cs : List Int, cutV (ns.map V.int) a b = cs.map V.int ∧ cs.length ≤ ns.length := by
  unfold cutV
  rw [← List.map_drop, ← List.map_take]
  exact ⟨_, rfl, by rw [List.length_take, List.length_drop]; omega⟩
theorem cell_at {cs : List Int} {i : Int} (h0 : 0 ≤ i) (hn : cs ≠ []) : ∃ v : Int, atI (cs.map V.int) (i % ((cs.map V.int).length : Nat)) = some (.int v) := by
  have hl : 0 < cs.length := List.length_pos_iff.mpr hn
  have e : (cs.map V.int).length = cs.length := List.length_map _
  have hb := Int.emod_lt_of_pos i (show (0 : Int) < (cs.length : Int) by omega)
  have hp := Int.emod_nonneg i (show (cs.length : Int) ≠ 0 by omega)
  obtain ⟨j, hj⟩ : ∃ j : Nat, i % (cs.length : Int) = (j : Int) := ⟨(i % (cs.length : Int)).toNat, by omega⟩
  have hjl : j < cs.length := by omega
  refine ⟨cs[j], ?_⟩
  rw [e, hj]
  exact atI_nat (by simp [hjl])

section
variable {P : Program} {w : World} {K : PySem.W.Frag} {mg : Str → Option Value} {base : Heap}
theorem scDraw : FnScope ["_law_pen_here", "_law_many", "_law_digit", "_law_at", "_law_cell", "_law_great", "_law_mixed"] ["_law_pen_here", "_law_many"] (defScope sDraw) :=
  ⟨rfl, rfl, rfl, by decide +kernel, rfl, by decide +kernel, by decide +kernel⟩
theorem ok_draw {f : Addr} {fd : FuncData} (F : Fun K "_law_draw" "_law_draw" sDraw f fd) (B : Bi mg) : FnOk P w K mg base CX0 1 f fd ["_law_pen_here", "_law_many"] spDraw := by
  refine F.ok scDraw (fun vs H Q E h => ?_) (fun cdv A outer s H vs Q E hr h => ?_)
  · obtain ⟨p, l, cs, n, m, rfl, _⟩ := h
    rfl
  · obtain ⟨p, l, cs, n, m, rfl, ⟨i, g, hp, hl, hz, i0, i1⟩, m0, m1, n1, k⟩ := h
    have npl : p ≠ l := fun q => by
      subst q
      rw [hp] at hl
      have e := List.map_eq_cons_iff.mp (HO.lst.inj (Option.some.inj hl)).symm
      obtain ⟨_, _, _, h1, _⟩ := e
      cases h1
    refine ⟨_, pss_cut
        (ps_if (pt_cmpR op_gt (pe_ix ix_list (pv 0) pe_int (fun _ _ => rfl)) pe_int (nomark _))
          (pss_cons (ps_set (i := 2) scDraw.nd rfl (Or.inl rfl) (pe_op op_mod (pe_callTy call_int1 (by rfl) B.int (by decide +kernel) (pa_cons (pe_ix ix_list (pv 0) pe_int (fun _ _ => rfl)) pa_nil)) (pv 1)))
          (pss_cons (ps_asg (pe_op op_fdiv (pe_callTy call_int1 (by rfl) B.int (by decide +kernel) (pa_cons (pe_ix ix_list (pv 0) pe_int (fun _ _ => rfl)) pa_nil)) (pv 1)) (pg_sub (pv 0) pe_int set_list))
          (pss_one (ps_ret (pv 2)))))
          pss_nil)
      (pss_cons (ps_set (i := 3) scDraw.nd rfl (Or.inl rfl) (pe_ix ix_list (pv 0) pe_int (fun _ _ => rfl)))
      (pss_cons (ps_asg (pe_op op_add (pv 3) pe_int) (pg_sub (pv 0) pe_int set_list))
      (pss_cons (ps_set (i := 4) scDraw.nd rfl (Or.inl rfl) (pe_op op_add (pe_op op_mul pe_int (pv 3)) pe_int))
      (pss_cut (ps_if (pt_cmpR (op_neD hr.units) (pe_ix ix_list (pv 0) pe_int (fun _ _ => rfl)) (pe_lst pa_nil) (nomark _))
          (pss_one (ps_set (i := 4) scDraw.nd rfl (Or.inl rfl) (pe_ix ix_list (pe_ix ix_list (pv 0) pe_int (fun _ _ => rfl))
            (pe_op op_mod (pe_callTy call_int1 (by rfl) B.int (by decide +kernel) (pa_cons (pv 3) pa_nil)) (pe_callB call_len_seq (by rfl) B.len PySem.boot_len (pa_cons (pe_ix ix_list (pv 0) pe_int (fun _ _ => rfl)) pa_nil))) (fun _ _ => rfl))))
          pss_nil)
      (pss_cut (ps_if (PW.pt (pw_and (pt_cmpR op_lt (pv 3) (pe_callB call_len_seq (by rfl) B.len PySem.boot_len (pa_cons (pe_ix ix_list (pv 0) pe_int (fun _ _ => rfl)) pa_nil)) (nomark _))
            (pw_and1 (pt_cmpR op_ge (pe_callB call_abs (by rfl) B.abs (by decide +kernel) (pa_cons (pv 4) pa_nil)) (pe_op op_pow pe_int pe_int) (nomark _)))))
          (pss_cons (ps_set (i := 5) scDraw.nd rfl (Or.inl rfl) (pe_op op_add (pe_op op_mul pe_int (pe_callB call_abs (by rfl) B.abs (by decide +kernel) (pa_cons (pv 4) pa_nil)))
              (pe_callTy call_int1 (by rfl) B.int (by decide +kernel) (pa_cons (pe_cmpR op_lt (pv 4) pe_int (nomark _)) pa_nil))))
          (pss_cons (ps_asg (pe_op op_fdiv (pe_callTy call_int1 (by rfl) B.int (by decide +kernel) (pa_cons (pv 5) pa_nil)) (pv 1)) (pg_sub (pv 0) pe_int set_list))
          (pss_one (ps_ret (pe_op op_mod (pe_callTy call_int1 (by rfl) B.int (by decide +kernel) (pa_cons (pv 5) pa_nil)) (pv 1))))))
          pss_nil)
      (pss_cut (ps_set (i := 6) scDraw.nd rfl (Or.inl rfl) (pe_op op_mod (pe_op op_pow (pe_callTy call_int1 (by rfl) B.int (by decide +kernel) (pa_cons
          (pe_op op_add (pe_op op_add (pe_op op_mod (pe_callTy call_int1 (by rfl) B.int (by decide +kernel) (pa_cons (pv 4) pa_nil)) pe_int) (pe_op op_mul pe_int (pv 3))) pe_int) pa_nil)) pe_int) pe_int))
      (pss_cut (ps_set (i := 6) scDraw.nd rfl (Or.inl rfl) (pe_op op_mod (pe_op op_pow (pe_callTy call_int1 (by rfl) B.int (by decide +kernel) (pa_cons
          (pe_op op_add (pe_op op_add (pe_op op_mul (pv 6) (pe_op op_add (pe_op op_mul pe_int (pv 3)) pe_int)) (pe_op op_mul (pe_op op_mul pe_int (pv 3)) (pv 3))) pe_int) pa_nil)) pe_int) pe_int))
      (pss_one (ps_ret (pe_op op_mod (pe_callTy call_int1 (by rfl) B.int (by decide +kernel) (pa_cons (pe_op op_fdiv (pv 6) pe_int) pa_nil)) (pv 1))))))))))), ?_⟩
    refine ⟨fun σ' H' => σ' = start ["_law_pen_here", "_law_many", "_law_digit", "_law_at", "_law_cell", "_law_great", "_law_mixed"] [.ref p, .int m] ∧ H' = H,
      ⟨_, rfl, p, _, _, .int g, rfl, rfl, SqL.of hp, rfl, _, _, rfl, rfl, _, rfl, ite2 (fun _ => ?_) (fun _ => ⟨rfl, rfl⟩)⟩, ?_⟩
    · refine ⟨_, rfl, p, _, _, .int g, rfl, rfl, SqL.of hp, rfl, .inl ⟨_, rfl, _, rfl, _, _, rfl, rfl, m0, ?_⟩⟩
      refine ⟨_, rfl, p, _, _, .int g, rfl, rfl, SqL.of hp, rfl, .inl ⟨_, rfl, _, rfl, _, _, rfl, rfl, ⟨m0, m1⟩, ?_⟩⟩
      refine ⟨_, rfl, p, _, _, 2, rfl, rfl, hp, rfl, ?_⟩
      refine ⟨_, rfl, ?_⟩
      exact k _ _ _ _ (Int.emod_nonneg _ (by omega)) (Int.emod_lt_of_pos _ m0) i0 (by omega) upd_same (.upd _ _ _)
    · rintro σ' H' ⟨rfl, rfl⟩
      refine ⟨_, rfl, p, _, _, .int i, rfl, rfl, SqL.of hp, rfl, ?_⟩
      refine ⟨_, rfl, _, _, rfl, rfl, _, rfl, p, _, _, 1, rfl, rfl, hp, rfl, ?_⟩
      have b1 : But H' (upd H' p (penO l (i + 1) g)) p := .upd _ _ _
      have hp1 : upd H' p (penO l (i + 1) g) p = some (penO l (i + 1) g) := upd_same
      have hl1 : upd H' p (penO l (i + 1) g) l = some (.lst (cs.map V.int)) := b1 _ _ npl.symm hl
      refine ⟨_, rfl, _, _, rfl, rfl, .inl ⟨by decide, by decide⟩, _, _, rfl, rfl, ?_⟩
      refine ⟨fun σ2 H2 => ∃ c : Int, σ2 = [some (.ref p), some (.int m), none, some (.int i), some (.int c), none, none] ∧ H2 p = some (penO l (i + 1) g) ∧ H2 l = some (.lst (cs.map V.int)) ∧ But H' H2 p, ?_, ?_⟩
      · refine ⟨_, rfl, p, _, _, .ref l, rfl, rfl, SqL.of hp1, rfl, Nat.zero_le _, fun q hq => ?_⟩
        have npq : p ≠ q := ne_of_none hp1 hq
        have nlq : l ≠ q := ne_of_none hl1 hq
        have hp2 : upd (upd H' p (penO l (i + 1) g)) q (.lst []) p = some (penO l (i + 1) g) := by rw [upd_ne npq]; exact hp1
        have hl2 : upd (upd H' p (penO l (i + 1) g)) q (.lst []) l = some (.lst (cs.map V.int)) := by rw [upd_ne nlq]; exact hl1
        have b2 := b1.new hq (.lst [])
        refine ⟨.list (cs.map PyData.int), .list [], .lst (SqL.of hl2) (dp_ints cs), .lst (SqL.of upd_same) .nil, shaped_ints cs, rfl, _, rfl, ?_⟩
        cases cs with
        | nil => exact ⟨_, rfl, hp2, hl2, b2⟩
        | cons c cs =>
          refine iteT ?_
          obtain ⟨v, hv⟩ := cell_at (cs := c :: cs) i0 (by simp)
          refine ⟨_, rfl, p, _, _, .ref l, rfl, rfl, SqL.of hp2, rfl, _, rfl, .inl ⟨_, rfl, _, rfl, p, _, _, .ref l, rfl, rfl, SqL.of hp2, rfl, l, _, rfl, .inl (SqL.of hl2), _, _, rfl, rfl, ?_, ?_⟩⟩
          · show (0 : Int) < (((c :: cs).map V.int).length : Nat)
            simp
          · exact ⟨l, _, _, .int v, rfl, rfl, SqL.of hl2, hv, v, rfl, hp2, hl2, b2⟩
      · rintro σ2 H2 ⟨c, rfl, hp2, hl2, b2⟩
        have len63 : (cs.map V.int).length = cs.length := List.length_map _
        refine ⟨fun σ3 H3 => σ3 = [some (.ref p), some (.int m), none, some (.int i), some (.int c), none, none] ∧ H3 = H2, ?_, ?_⟩
        · refine ⟨_, rfl, _, rfl, p, _, _, .ref l, rfl, rfl, SqL.of hp2, rfl, l, _, rfl, .inl (SqL.of hl2), _, _, rfl, rfl, _, rfl, ite2 (fun _ => ?_) (fun _ => ⟨rfl, rfl⟩)⟩
          refine ⟨_, rfl, _, rfl, _, _, rfl, rfl, ⟨by decide, by decide, by decide⟩, _, _, rfl, rfl, _, rfl, ite2 (fun _ => ?_) (fun _ => ⟨rfl, rfl⟩)⟩
          refine ⟨_, rfl, _, rfl, _, _, rfl, rfl, .inl ⟨by decide, by decide⟩, _, rfl, _, _, rfl, rfl, .inr ⟨_, rfl, _, _, rfl, rfl, ?_⟩⟩
          refine ⟨_, rfl, .inl ⟨_, rfl, _, rfl, _, _, rfl, rfl, ⟨m0, m1⟩, _, rfl, p, _, _, 2, rfl, rfl, hp2, rfl, ?_⟩⟩
          refine ⟨_, rfl, .inl ⟨_, rfl, _, rfl, _, _, rfl, rfl, m0, ?_⟩⟩
          exact k _ _ _ _ (Int.emod_nonneg _ (by omega)) (Int.emod_lt_of_pos _ m0) (by omega) (by omega) upd_same (b2.put _)
        · rintro σ3 H3 ⟨rfl, rfl⟩
          refine ⟨fun σ4 H4 => ∃ y : Int, 0 ≤ y ∧ y < 2147483648 ∧ σ4 = [some (.ref p), some (.int m), none, some (.int i), some (.int c), none, some (.int y)] ∧ H4 = H3, ?_, ?_⟩
          · refine ⟨_, rfl, .inl ⟨_, rfl, _, _, rfl, rfl, (by show (0 : Int) < 2147483563; decide), _, rfl, _, _, rfl, rfl, .inl ⟨by decide, by decide⟩, _, _, rfl, rfl, _, _, rfl, rfl, .inl ⟨_, rfl, _, _, rfl, rfl,
              ⟨by decide, by decide, ?_⟩, _, _, rfl, rfl, (by show (0 : Int) < 2147483579; decide), _, Int.emod_nonneg _ (by decide), Int.lt_trans (Int.emod_lt_of_pos _ (by decide)) (by decide), rfl, rfl⟩⟩⟩
            exact small1 i0 i1 n1
          · rintro σ4 H4 ⟨y, y0, y1, rfl, rfl⟩
            refine ⟨fun σ5 H5 => ∃ y : Int, 0 ≤ y ∧ y < 2147483648 ∧ σ5 = [some (.ref p), some (.int m), none, some (.int i), some (.int c), none, some (.int y)] ∧ H5 = H4, ?_, ?_⟩
            · refine ⟨_, rfl, _, rfl, _, _, rfl, rfl, .inl ⟨by decide, by decide⟩, _, _, rfl, rfl, _, _, rfl, rfl, .inl ⟨?_, ?_⟩, _, rfl, _, _, rfl, rfl, .inl ⟨by decide, by decide⟩, _, rfl, _, _, rfl, rfl, .inl ⟨?_, ?_⟩,
                _, _, rfl, rfl, _, _, rfl, rfl, .inl ⟨_, rfl, _, _, rfl, rfl, ⟨by decide, by decide, ?_⟩, _, _, rfl, rfl, (by show (0 : Int) < 2147483629; decide), _, Int.emod_nonneg _ (by decide), Int.lt_trans (Int.emod_lt_of_pos _ (by decide)) (by decide), rfl, rfl⟩⟩
              · exact Int.lt_of_lt_of_le (by decide) y0
              · exact Int.lt_trans y1 (by decide)
              · exact small3 i0
              · exact small4 i1 n1
              · exact small2 i0 i1 n1 y0 y1
            · rintro σ5 H5 ⟨y, y0, y1, rfl, rfl⟩
              refine ⟨_, rfl, _, _, rfl, rfl, ⟨by decide, by decide⟩, .inl ⟨_, rfl, _, rfl, _, _, rfl, rfl, m0, ?_⟩⟩
              exact k _ _ _ _ (Int.emod_nonneg _ (by omega)) (Int.emod_lt_of_pos _ m0) (by omega) (by omega) hp2 b2
theorem scPick : FnScope ["_law_pen_here", "_law_some"] ["_law_pen_here", "_law_some"] (defScope sPick) := ⟨rfl, rfl, rfl, by decide +kernel, rfl, by decide +kernel, by decide +kernel⟩
def spPick : Sp := fun vs H Q _ => ∃ (p l q : Addr) (cs : List Int) (n : Nat) (xs : List V), vs = [.ref p, .ref q] ∧ Pen H p l cs n ∧ H q = some (.lst xs) ∧ q ≠ p ∧ 0 < xs.length ∧ xs.length < 1000 ∧ n < 1000000 ∧
  ∀ (j : Nat) (x : V) (H' : Hp), xs[j]? = some x → Pen H' p l cs (n + 1) → But H H' p → Q x H'
theorem Pen.next {H H' : Hp} {p l : Addr} {cs : List Int} {n : Nat} {i g : Int} (h : Pen H p l cs n) (i0 : 0 ≤ i) (i1 : i ≤ n + 1) (hp : H' p = some (penO l i g)) (b : But H H' p) : Pen H' p l cs (n + 1) := by
  obtain ⟨i', g', h1, h2, h3, h4, h5⟩ := h
  refine ⟨i, g, hp, b _ _ ?_ h2, h3, i0, by omega⟩
  intro e
  subst e
  rw [h1] at h2
  have e := List.map_eq_cons_iff.mp (HO.lst.inj (Option.some.inj h2)).symm
  obtain ⟨_, _, _, q, _⟩ := e
  cases q
theorem ok_pick {f fD : Addr} {fd fdD : FuncData} (F : Fun K "_law_pick" "_law_pick" sPick f fd) (B : Bi mg) (FD : Fun K "_law_draw" "_law_draw" sDraw fD fdD) (bD : Binds K fdD ["_law_pen_here", "_law_many"] []) (mD : mg "_law_draw" = some (.ref fD)) :
    FnOk P w K mg base CX0 2 f fd ["_law_pen_here", "_law_some"] spPick := by
  have GD : FnOk P w K mg base CX0 1 fD fdD ["_law_pen_here", "_law_many"] spDraw := ok_draw FD B
  refine F.ok scPick (fun vs H Q E h => ?_) (fun cdv A outer s H vs Q E hr h => ?_)
  · obtain ⟨p, l, q, cs, n, xs, rfl, _⟩ := h
    rfl
  · obtain ⟨p, l, q, cs, n, xs, rfl, hP, hq, nqp, x0, x1, n1, k⟩ := h
    refine ⟨_, pss_one (ps_ret (pe_ix ix_list (pv 1) (pe_call GD hr rfl mD FD.kp bD .nil pass0 (pa_cons (pv 0) (pa_cons (pe_callB call_len_seq (by rfl) B.len PySem.boot_len (pa_cons (pv 1) pa_nil)) pa_nil))) (fun _ _ => rfl))), ?_⟩
    refine ⟨_, rfl, _, rfl, _, rfl, q, _, rfl, .inl (SqL.of hq), p, l, cs, n, _, rfl, hP, by omega, by omega, n1, fun d i g H' d0 d1 i0 i1 hp b => ?_⟩
    obtain ⟨j, rfl⟩ : ∃ j : Nat, d = j := ⟨d.toNat, by omega⟩
    have hj : j < xs.length := by omega
    exact ⟨q, xs, _, xs[j], rfl, rfl, SqL.of (b _ _ nqp hq), atI_nat (by simp [hj]), k j _ _ (by simp [hj]) (hP.next i0 i1 hp b) b⟩
theorem scPen : FnScope ["_law_script"] ["_law_script"] (defScope sPen) := ⟨rfl, rfl, rfl, by decide +kernel, rfl, by decide +kernel, by decide +kernel⟩
def spPen (K : PySem.W.Frag) : Sp := fun vs H Q _ => ∃ (a : Addr) (ns : List Int), vs = [.ref a] ∧ SqL K H a (ns.map V.int) ∧ ns.length ≤ 63 ∧ ∀ (p l : Addr) (cs : List Int) (H' : Hp), Pen H' p l cs 0 → Same H H' → Q (.ref p) H'
theorem ok_pen {f : Addr} {fd : FuncData} (F : Fun K "_law_pen" "_law_pen" sPen f fd) (mL : mg "list" = none) : FnOk P w K mg base CX0 1 f fd ["_law_script"] (spPen K) := by
  refine F.ok scPen (fun vs H Q E h => ?_) (fun cdv A outer s H vs Q E hr h => ?_)
  · obtain ⟨a, ns, rfl, _⟩ := h
    rfl
  · obtain ⟨a, ns, rfl, hS, hz, k⟩ := h
    refine ⟨_, pss_one (ps_ret (pe_lst (pa_cons (pe_callTy call_list_of (by rfl) mL (by decide +kernel) (pa_cons (pe_slice sl_list (pv 0) po_none (po_some pe_int)) pa_nil)) (pa_cons pe_int (pa_cons pe_int pa_nil))))), ?_⟩
    refine ⟨_, rfl, _, rfl, a, _, rfl, hS, fun q hq => ?_⟩
    refine ⟨q, _, rfl, .inl (SqL.of upd_same), fun l hl => ⟨(by show 3 ≤ sizeLine; decide), fun p hp => ?_⟩⟩
    have nql : q ≠ l := ne_of_none upd_same hl
    have nlp : l ≠ p := ne_of_none upd_same hp
    have hHl : H l = none := by rw [upd_ne nql.symm] at hl; exact hl
    have hHp : H p = none := by
      have h1 : p ≠ l := nlp.symm
      rw [upd_ne h1] at hp
      have h2 : p ≠ q := fun e => by rw [e, upd_same] at hp; cases hp
      rw [upd_ne h2] at hp
      exact hp
    refine k p l _ _ ⟨0, 0, upd_same, Eq.trans (upd_ne nlp) (Eq.trans upd_same (congrArg (fun z => some (HO.lst z)) (cut_ints ns none (some 63)).choose_spec.1)), Nat.le_trans (cut_ints ns none (some 63)).choose_spec.2 hz, Int.le_refl _, Int.le_refl _⟩ fun b o e => ?_
    rw [upd_ne (ne_of_none e hHp), upd_ne (ne_of_none e hHl), upd_ne (ne_of_none e hq)]
    exact e
end
end Sj
namespace Sup
open PySem PySem.Spec PyProof.Rows L2
open NdefX (NF NScope ncx envF startF CellsAt inv_startN)

/-! ### a def of a class body that says super(): it closes over the class -/
structure FunS (P : Program) (K : PySem.W.Frag) (x qual : Str) (st : Stmt) (f : Addr) (fd : FuncData) (c cc D : Addr) : Prop where
  ex : ∃ (oc : Value) (od : Option Addr) (kV doc pm : Value) (an : Option Addr) (ct : Value) (osl : Array (Option Value)),
    fd = PySem.W.fnX x qual (defArgs st) (defBody st) (defScope st) [("__class__", cc)] .none kV doc pm an (.ref c) ct ∧ K.lookup f = some ⟨oc, od, .func fd, osl⟩
  cd : PySem.W.codeIn K (.ref c) qual = true
  file : ∃ (ccl : Value) (cdd : Option Addr) (vs : Array Value) (ccs : Array (Option Value)) (fl : Str) (tf : Tok), K.lookup c = some ⟨ccl, cdd, .fields vs, ccs⟩ ∧ vs[2]? = some (.str fl tf) ∧ ((P.main.file : Str) == fl) = true
  cell : ∃ (cl : Value) (cld : Option Addr) (csl : Array (Option Value)), K.lookup cc = some ⟨cl, cld, .cell (some (.ref D)), csl⟩
  kp : PySem.W.keepIn K (.ref f) = true
def nf (x qual : Str) (st : Stmt) (c cc : Addr) : NF := ⟨x, qual, defArgs st, defBody st, defScope st, [("__class__", cc)], c⟩

section
variable {P : Program} {w : World} {K : PySem.W.Frag} {mg : Str → Option Value} {base : Heap} {CX : CXT} {x qual : Str} {st : Stmt} {f c cc D : Addr} {fd : FuncData} {N ps : List Str} {k : Nat} {sp : Sp}
theorem fn_super (F : FunS P K x qual st f fd c cc D) (S : NScope N ps ["__class__"] (defScope st)) (len : ∀ vs H Q E, sp vs H Q E → vs.length = ps.length)
    (hbody : ∀ (A : Around) (outer : List Env) (s : Shared) (H : Hp) (vs : List V) (Q : VK) (E : XK), Room k (A.deeper (envF (nf x qual st c cc) f s.heap.objs.size)) → sp vs H Q E → ∀ s1,
      Inv (ncx CX P w K mg base N (nf x qual st c cc) f A outer s H E) [] (startF N vs [some (.ref D)]) H s1 →
      PySem.wpAt (model P w) (A.deeper (envF (nf x qual st c cc) f s.heap.objs.size)) (.func (defBody st) (envF (nf x qual st c cc) f s.heap.objs.size)) (execs (defBody st) (envF (nf x qual st c cc) f s.heap.objs.size))
        (SP (ncx CX P w K mg base N (nf x qual st c cc) f A outer s H E) [] { nx := fun _ H' => Q .non H', rt := Q }) (ncx CX P w K mg base N (nf x qual st c cc) f A outer s H E).xe s1) :
    FnOk P w K mg base CX (k + 1) f fd ps sp := by
  obtain ⟨oc, od, kV, doc, pm, an, ct, osl, rfl, lk⟩ := F.ex
  obtain ⟨cl, cld, csl, lc⟩ := F.cell
  refine ⟨len, fun A outer s H args us vs Q E hr e0 hb r hsp => ?_⟩
  have hl := len _ _ _ _ hsp
  have KX : K.In s.heap := e0.mod.kin.keeps fun b o e => (e0.bs b o e).1
  have lim : s.heap.NoLimit := e0.mod.nolimit.keeps fun b o e => (e0.bs b o e).1
  have hcc : s.heap.get? cc = some ⟨cl, cld, .cell (some (.ref D)), csl⟩ := KX _ _ lc
  have C : CellsAt (nf x qual st c cc).cl ["__class__"] [some (V.ref D)] s.heap H := by
    refine ⟨rfl, fun y b e => ?_, fun a b q h1 h2 => ?_, fun i y hy => ?_⟩
    · have e : (if y == "__class__" then some cc else none) = some b := by
        have q : List.lookup y [(("__class__" : Str), cc)] = some b := e
        rw [List.lookup_cons] at q
        cases z : y == ("__class__" : Str) with
        | true => rw [z] at q; rw [if_pos rfl]; exact q
        | false => rw [z] at q; cases q
      split at e
      · cases e
        exact ⟨(e0.bs _ _ (e0.mod.kin _ _ lc)).2, _, _, hcc, rfl⟩
      · cases e
    · have key : ∀ {y : Str} {b : Addr}, List.lookup y [(("__class__" : Str), cc)] = some b → y = "__class__" := fun {y b} q => by
        rw [List.lookup_cons] at q
        cases z : y == ("__class__" : Str) with
        | true => exact eq_of_beq z
        | false => rw [z] at q; cases q
      exact (key h1).trans (key h2).symm
    · match i, hy with
      | 0, hy =>
        have e : (("__class__" : Str)) = y := Option.some.inj hy
        subst e
        refine ⟨cc, by show List.lookup _ [(("__class__" : Str), cc)] = some cc; rw [List.lookup_cons, beq_self_eq_true], fun v hv => ?_⟩
        have e : V.ref D = v := Option.some.inj (Option.some.inj hv)
        subst e
        exact ⟨_, rfl, _, hcc, rfl⟩
  refine ks_codeAny_call_defAt (fd := PySem.W.fnX x qual (defArgs st) (defBody st) (defScope st) [("__class__", cc)] .none kV doc pm an (.ref c) ct) (body := defBody st) (binds := ps.zip us) hr.depth (KX _ _ lk) rfl lim (PySem.W.codeRec_of KX F.cd) rfl hb
    S.nocell (fun ⟨n, _⟩ hy => S.par n (List.of_mem_zip hy).1) (fun h₁ hns kp => ?_) S.co S.gen S.kind
  have I : Inv (ncx CX P w K mg base N (nf x qual st c cc) f A outer s H E) [] (startF N vs [some (.ref D)]) H { s with heap := h₁, toks := s.toks + (ps.zip us).length } := inv_startN S hr.hd e0 hl r C hns kp
  refine ks_wpAt_mono (hbody A outer s H vs Q E (hr.deeper _) hsp _ I) (fun fl s' hs => ?_) fun e s' hs => hs
  have fin : ∀ {σ' : L2.St} {H' : Hp} {v : V} {u : Value}, Inv (ncx CX P w K mg base N (nf x qual st c cc) f A outer s H E) [] σ' H' s' → L2.RelV v u → Q v H' → CE outer P w H s Q u s' :=
    fun {σ' H' v u} J rv q => ⟨v, H', J.os, J.bare, J.base, J.hok, rv, q⟩
  cases fl with
  | ret u =>
    obtain ⟨v, σ', H', J, rv, q⟩ := hs
    exact fin J rv q
  | next =>
    obtain ⟨σ', H', J, q⟩ := hs
    exact fin (v := V.non) (u := Value.none) J rfl q
  | brk =>
    obtain ⟨_, _, _, q⟩ := hs
    exact False.elim q
  | cont =>
    obtain ⟨_, _, _, q⟩ := hs
    exact False.elim q
end

/-! ### super().m(e, ..) as the first statement, m a def of a class above -/
/-- facts of the running def, by the context -/
structure AtS (X : Cx) (body : List Stmt) (f c cc D : Addr) (me : Str) : Prop where
  hk : X.env.scope.kind = .function
  hks : X.env.kindOf "super" = some .globalImplicit
  hkc : X.env.kindOf "__class__" = some .free
  hfu : X.env.func = some f
  hco : X.env.code = .ref c
  cl : X.env.cells.lookup ("__class__" : Str) = some cc
  hkl : X.env.kindOf me = some .local
  fn : ∃ (oc : Value) (od : Option Addr) (fd : FuncData) (osl : Array (Option Value)) (ar : Arg), X.K.lookup f = some ⟨oc, od, .func fd, osl⟩ ∧ (fd.params.posonlyargs ++ fd.params.args).head? = some ar ∧ ar.arg = me
  file : ∃ (ccl : Value) (cdd : Option Addr) (vs : Array Value) (ccs : Array (Option Value)) (fl : Str) (tf : Tok), X.K.lookup c = some ⟨ccl, cdd, .fields vs, ccs⟩ ∧ vs[2]? = some (.str fl tf) ∧ ((X.prog.main.file : Str) == fl) = true
  cell : ∃ (l : Value) (ld : Option Addr) (csl : Array (Option Value)), X.K.lookup cc = some ⟨l, ld, .cell (some (.ref D)), csl⟩
/-- facts of the text -/
structure SupT (prog : Program) (K : PySem.W.Frag) (mg : Str → Option Value) (D : Addr) : Prop where
  top : (prog.main.scope.names.lookup ("super" : Str)).isSome = false
  mg : mg "super" = none
  cls : ∃ cdD, PySem.W.clsIn K D = some cdD
  third : PySem.W.nsIn K cStatics "thirdparty.any" = some none

section
variable {X : Cx} {body : List Stmt} {f c cc D : Addr} {me : Str} {pins : List (Addr × Obj)} {s : Shared} {σ : L2.St} {H : Hp}
/-- super() itself: a new object, kept aside -/
theorem super_base {attr : Str} {whole : Sem Value} {p0 p1 : Pos} {x C : Addr} {ox : Obj} {Q : Value → Shared → Prop} (a : AtS X body f c cc D me) (t : SupT X.prog X.K X.mg D) (I : Inv X pins σ H s)
    (hN : X.N[0]? = some me) (hx : σ[0]? = some (some (.ref x))) (ho : s.heap.get? x = some ox) (hc : ox.cls = .ref C) (hnc : ∀ c, ox.data ≠ .cls c)
    (hsub : PySem.W.mroIn X.K C (.ref D) = some true) (hat : (attr == ("__class__" : Str)) = false)
    (h : ∀ so h', so = s.heap.objs.size → h'.get? so = some (PySem.W.ks_superObj D x C) → (∀ b o, s.heap.get? b = some o → h'.get? b = some o) → Inv X pins σ H { s with heap := h' } → Q (.ref so) { s with heap := h' }) :
    PySem.wpAt (model X.prog X.w) X.A (.func body X.env) (attributeBase (.Call (.Name "super" p0) [] [] p1) attr X.env whole) Q X.xe s := by
  obtain ⟨oc, od, fd, osl, ar, lf, hp, hself⟩ := a.fn
  obtain ⟨ccl, cdd, vs, ccs, fl, tf, lc, hvs, hfile⟩ := a.file
  obtain ⟨l, ld, csl, lcc⟩ := a.cell
  obtain ⟨cdD, hD⟩ := t.cls
  have KX := I.kIn
  obtain ⟨oD, hD1, hD2⟩ : ∃ oD, s.heap.get? D = some oD ∧ oD.data = .cls cdD := by
    unfold PySem.W.clsIn at hD
    split at hD
    · rename_i c d cd' sl ho
      cases hD
      exact ⟨_, KX _ _ ho, rfl⟩
    · cases hD
  obtain ⟨m, hns, hl⟩ := I.loc
  obtain ⟨u, ru, lk⟩ := hl 0 me _ hN hx (.inl a.hkl)
  obtain rfl : u = Value.ref x := ru
  have hm : m me = some (Value.ref x) := by
    rcases lk with ⟨_, e⟩ | ⟨e, _⟩
    · exact e
    · rw [a.hkl] at e
      rcases e with e | e <;> cases e
  refine ks_wpAt_super_base a.hks a.hkc hat a.hfu (KX _ _ lf) rfl hp a.hco (KX _ _ lc) rfl hvs hfile t.top ?_
  obtain ⟨mb, b1, b2⟩ := I.mod.blt
  refine PySem.W.ks_loadName_global a.hk a.hks (Calls.loadGlobal_builtin (by rw [I.ok.glob]; exact I.mod.glob.keeps I.bk) t.mg (by rw [I.ok.blt]; exact b1.keeps I.bk) ((b2 _ (by decide)).trans (by decide +kernel : bootBuiltins "super" = some (.type "super"))) ⟨rfl, ?_⟩)
  refine wpAny_loadName_free a.hk a.hkc a.cl ⟨_, KX _ _ lcc, rfl⟩ ?_
  rw [hself]
  refine wpAny_loadName_local a.hk a.hkl hns hm ?_
  refine ks_wpAny_isType_cls hD1 hD2 ⟨rfl, ?_⟩
  obtain ⟨hh, g, d, tk, os⟩ := s
  exact ks_wpAny_call_super hD1 hD2 ho hc hnc (PySem.W.looks_mroIn KX hsub) fun h' e k => h _ _ rfl e k (I.kept (t' := tk) k)

/-- super().m: the def of the class above, bound; kept aside -/
theorem super_meth {name : Str} {pl : Sem Bool} {x C so f2 : Addr} {ox : Obj} {Q : Value × List Value → Shared → Prop} (I : Inv X pins σ H s) (hso : s.heap.get? so = some (PySem.W.ks_superObj D x C))
    (ho : s.heap.get? x = some ox) (hnc : ∀ c, ox.data ≠ .cls c) (third : PySem.W.nsIn X.K cStatics "thirdparty.any" = some none)
    (hm : PySem.W.ks_superIn X.K C D name = some (some (.ref f2))) (ht : PySem.W.typeIn X.K (.ref f2) = some (.type "function")) (hn : (name == ("__class__" : Str)) = false)
    (h : ∀ q s', q = s.heap.objs.size → s'.heap.get? q = some (PySem.W.methodObj (.ref f2) (.ref x)) → (∀ b o, s.heap.get? b = some o → s'.heap.get? b = some o) → Inv X pins σ H s' → Q (.ref q, []) s') :
    wpAny (model X.prog X.w) X.A (getMethod (.ref so) name pl) Q X.xe s := by
  have KX := I.kIn
  obtain ⟨hh, g, d, tk, os⟩ := s
  cases hc : PySem.W.clsIn X.K C with
  | none => unfold PySem.W.ks_superIn at hm; rw [hc] at hm; cases hm
  | some cd =>
    unfold PySem.W.ks_superIn at hm
    rw [hc] at hm
    have hxC : x ≠ C := by
      rintro rfl
      unfold PySem.W.clsIn at hc
      split at hc
      · rename_i c d cd' sl hoc
        have e := KX _ _ hoc
        rw [ho] at e
        cases e
        exact hnc _ rfl
      · cases hc
    obtain ⟨of, hof, hofc⟩ : ∃ of, hh.get? f2 = some of ∧ of.cls = .type "function" := by
      have ht' : (X.K.lookup f2).map (·.cls) = some (.type "function") := ht
      cases z : X.K.lookup f2 with
      | none => rw [z] at ht'; cases ht'
      | some of => rw [z] at ht'; exact ⟨of, KX _ _ z, Option.some.inj ht'⟩
    refine ks_wpAny_getMethod_super hso (PySem.W.looks_opaque KX third) (l₀ := cd.mro) ?_ rfl KX hm hof hofc hxC hn ?_
    · exact fun A Q E s k q => wpAny_bind ((PySem.W.looks_clsIn KX hc) A _ E s k (wpAny_pure q))
    · have kp : ∀ b o, hh.get? b = some o → (hh.push (PySem.W.methodObj (.ref f2) (.ref x))).get? b = some o := fun b o e => Heap.get?_push_of_some _ e
      exact h _ _ rfl (Heap.get?_push_at rfl rfl) kp (I.kept (t' := tk + 1) kp)

/-- an instance that is tracked: what super() asks of it -/
theorem ins_obj {a C dx : Addr} {fs : List (Str × V)} (I : Inv X pins σ H s) (e : H a = some (.ins C dx fs)) : ∃ ox : Obj, s.heap.get? a = some ox ∧ ox.cls = .ref C ∧ ∀ c, ox.data ≠ .cls c := by
  obtain ⟨d, z, ne, ob, _⟩ := (show ObjOk X.prog X.w H s.heap a (.ins C dx fs) from I.hok a _ e)
  exact ⟨_, ob, rfl, fun c h => by cases h⟩

/-- super().m(e, ..), then the rest -/
theorem super_own {CX : CXT} {k : Nat} {f2 x C : Addr} {fd2 : FuncData} {ps2 : List Str} {sp2 : Sp} {dvs : List V} {ds : List Value} {E : XK} {attr : Str} {e : Expr} {es : List Expr} {t : TA} {rest : List Stmt} {u : TS} {D' : Ends} {p0 p1 p2 p3 p4 : Pos}
    (a : AtS X body f c cc D me) (T : SupT X.prog X.K X.mg D) (F : FnOk X.prog X.w X.K X.mg X.base CX k f2 fd2 ps2 sp2) (hr : Room k X.A) (hb : Binds X.K fd2 ps2 ds) (hd : Vals dvs ds) (hx : Passes CX X E)
    (hN : X.N[0]? = some me) (hm : PySem.W.ks_superIn X.K C D attr = some (some (.ref f2))) (ht : PySem.W.typeIn X.K (.ref f2) = some (.type "function")) (hfn : PySem.W.fnIn X.K f2 = true)
    (hsub : PySem.W.mroIn X.K C (.ref D) = some true) (hat : (attr == ("__class__" : Str)) = false) (ha : PA X (e :: es) t) (hrest : PSs X rest u)
    (I : Inv X pins σ H s) (hσ : σ[0]? = some (some (.ref x))) (hins : ∃ ox : Obj, s.heap.get? x = some ox ∧ ox.cls = .ref C ∧ ∀ c, ox.data ≠ .cls c)
    (hq : t σ H fun vs H1 => sp2 (.ref x :: (vs ++ dvs)) H1 (fun _ H2 => u D' σ H2) E)
    (hi : interactive X.env = false) (hs : swapsWith (.Call (.Attribute (.Call (.Name "super" p0) [] [] p1) attr p2) (e :: es) [] p3) none p4.line X.env = pure false)
    (he : eval (.Call (.Attribute (.Call (.Name "super" p0) [] [] p1) attr p2) (e :: es) [] p3) X.env = (do
      let ov ← attributeBase (.Call (.Name "super" p0) [] [] p1) attr X.env (eval (.Call (.Name "super" p0) [] [] p1) X.env)
      standAt p2.atName
      let (f, first) ← holding [ov] (getMethod ov attr (pure false))
      callWith p3 f first (backTo p3 (starEach (e :: es) X.env)) []))
    (hst : starEach (e :: es) X.env = (false, eval e X.env) :: starEach es X.env) (hpl : (backTo p3 (starEach es X.env)).any (·.1) = false) :
    PySem.wpAt (model X.prog X.w) X.A (.func body X.env) (execs (.Expr (.Call (.Attribute (.Call (.Name "super" p0) [] [] p1) attr p2) (e :: es) [] p3) p4 :: rest) X.env) (SP X pins D') X.xe s := by
  obtain ⟨ox, ho, hc, hnc⟩ := hins
  refine ks_wpAt_execs_cons (ks_wpAt_Expr_any (ks_wpAt_MethodCall (pl := pure false) (super_base a T I hN hσ ho hc hnc hsub hat fun so h' eso hso kp I1 => ?_) he) hi hs)
  refine super_meth (x := x) (C := C) (D := D) I1 hso (kp _ _ ho) hnc T.third hm ht hat fun q s2 eq hq2 kp2 I2 => ?_
  have hqn : H q = none := by rw [eq]; exact I1.hok.fresh (Nat.le_refl _)
  have hq0 : X.s_0.heap.objs.size ≤ q := by rw [eq]; exact I1.sz
  have hqL : q ≠ X.env.locals := by rw [eq]; exact (Nat.ne_of_lt I1.lt).symm
  have hqf : q ∉ X.fs := by rw [eq]; exact I1.nofs (Nat.le_refl _)
  have J : Inv X (pins ++ [(q, PySem.W.methodObj (.ref f2) (.ref x))]) σ H s2 := I2.pins_of fun p hp => by
    rcases List.mem_append.mp hp with hp | hp
    · exact I2.pin p (List.mem_append_right _ hp)
    · obtain rfl := List.mem_singleton.mp hp
      exact ⟨hq2, hqn, hqL, hqf, fun v hv => by cases hv⟩
  refine PySem.W.callWith_M (h₀ := X.base) (L := X.env.locals) (news := [(q, PySem.W.methodObj (.ref f2) (.ref x))]) I.ok.mod.kin ?_ (List.mem_singleton.mpr rfl) hfn ?_ hst hpl
  · intro p hp
    obtain rfl := List.mem_singleton.mp hp
    exact ⟨hq2, hqL, Heap.get?_none_of_le (Nat.le_trans I.ok.bsz hq0)⟩
  refine thn (ha.run p3 _ s2 σ H _ J hq) fun us s3 ⟨vs, H3, I3, r, q3⟩ => ?_
  have hq3 : s3.heap.get? q = some (PySem.W.methodObj (.ref f2) (.ref x)) := (I3.pin _ (List.mem_append_right _ (List.mem_append_right _ (List.mem_singleton.mpr rfl)))).1
  refine ⟨⟨hq3, I3.kIn⟩, ?_⟩
  refine wpAny_call (PySem.W.method_call hq3 ?_)
  have r2 : Vals (V.ref x :: (vs ++ dvs)) (Value.ref x :: (us ++ ds)) := .cons rfl (r.append hd)
  have hl : (Value.ref x :: (us ++ ds)).length = ps2.length := by rw [← r2.length]; exact F.len _ _ _ _ q3
  have I4 : Inv X pins σ H3 s3 := I3.pins_of fun p hp => I3.pin p (List.mem_append_right _ (List.mem_append_left _ hp))
  refine codeAny_mono (F.run X.A X.stack s3 H3 ⟨.ref x :: us, []⟩ (.ref x :: (us ++ ds)) (.ref x :: (vs ++ dvs)) _ E hr I3.env0 (hb s3 (.ref x :: us) I3.kIn hl) r2 q3) fun r s' hq' => ?_
  cases r with
  | error e => exact hx pins σ H3 s3 e s' I4 hq'
  | ok fl =>
    cases fl with
    | ret v =>
      obtain ⟨v', H', I5, _, q5⟩ := I4.after hq'
      exact wpAt_of_wpAny (hrest.run pins s' σ H' D' I5 q5)
    | next => exact False.elim hq'
    | brk => exact False.elim hq'
    | cont => exact False.elim hq'
end
end Sup
namespace Sup
open PySem PySem.Spec PyProof.Rows L2
open NdefX (NF NScope ncx envF startF CellsAt inv_startN)
section
variable {X : Cx} {body : List Stmt} {f c cc D : Addr} {me : Str} {pins : List (Addr × Obj)} {s : Shared} {σ : L2.St} {H : Hp}
/-- an exception that is being made: what super() asks of it -/
theorem exo_obj {a C : Addr} {d : Option Addr} (I : Inv X pins σ H s) (e : H a = some (exo a C d)) : ∃ ox : Obj, s.heap.get? a = some ox ∧ ox.cls = .ref C ∧ ∀ c, ox.data ≠ .cls c := by
  obtain ⟨t1, ho⟩ := exo_at I.hok e
  exact ⟨_, ho, rfl, fun c h => by cases h⟩
/-- super().__init__, ValueError's, bound; kept aside -/
theorem super_methX {pl : Sem Bool} {x C so : Addr} {Q : Value × List Value → Shared → Prop} (I : Inv X pins σ H s) (hso : s.heap.get? so = some (PySem.W.ks_superObj D x C))
    (hx : H x = some (exo x C none)) (third : PySem.W.nsIn X.K cStatics "thirdparty.any" = some none)
    (hm : PySem.W.ks_superIn X.K C D "__init__" = some (some (.builtin "ValueError.__init__"))) (hB : PySem.W.subIn X.K (.ref C) (.type "ValueError") = some true)
    (h : ∀ q s', q = s.heap.objs.size → s'.heap.get? q = some (PySem.W.kxs_mw "ValueError.__init__" x) → Inv X pins σ H s' → Q (.ref q, []) s') :
    wpAny (model X.prog X.w) X.A (getMethod (.ref so) "__init__" pl) Q X.xe s := by
  have KX := I.kIn
  obtain ⟨t1, ho⟩ := exo_at I.hok hx
  have hI : PySem.W.Looks (model X.prog X.w) s.heap (isInstance (.ref x) (.type "ValueError")) true :=
    (PySem.W.InstAt.type (ox := { cls := .ref C, dict := none, data := .fields #[.ref t1, .none, .none, .none, .bool false, .none] }) (od := none) ⟨ho, rfl, rfl, trivial⟩).andThen (PySem.W.looks_subIn KX hB)
  obtain ⟨hh, g, d, tk, os⟩ := s
  cases hc : PySem.W.clsIn X.K C with
  | none => unfold PySem.W.ks_superIn at hm; rw [hc] at hm; cases hm
  | some cd =>
    unfold PySem.W.ks_superIn at hm
    rw [hc] at hm
    have hxC : x ≠ C := by
      rintro rfl
      unfold PySem.W.clsIn at hc
      split at hc
      · rename_i c d cd' sl hoc
        have e := KX _ _ hoc
        rw [ho] at e
        cases e
      · cases hc
    refine PySem.W.kxs_getMethod PySem.W.kxs_ValueError hso (PySem.W.looks_opaque KX third) (l₀ := cd.mro) ?_ rfl KX hm hI hxC (by decide) ?_
    · exact fun A Q E s k q => wpAny_bind ((PySem.W.looks_clsIn KX hc) A _ E s k (wpAny_pure q))
    · have kp : ∀ b o, hh.get? b = some o → (hh.push (PySem.W.kxs_mw "ValueError.__init__" x)).get? b = some o := fun b o e => Heap.get?_push_of_some _ e
      exact h _ _ rfl (Heap.get?_push_at rfl rfl) (I.kept (t' := tk + 1) kp)
/-- it is called: nothing of it is told -/
theorem call_mw {u a C : Addr} {us : List Value} {Q : Value → Shared → Prop} (T : OexC X.K C) (I : Inv X pins σ H s) (hu : s.heap.get? u = some (PySem.W.kxs_mw "ValueError.__init__" a)) (e : H a = some (exo a C none)) (hl : us.length ≤ sizeLine)
    (h : ∀ s', Inv X pins σ H s' → Q .none s') : wpAny (model X.prog X.w) X.A (call (.ref u) us) Q X.xe s := by
  obtain ⟨nm, q, N, bs, bm, sn, sub, ab, col, dd, k0, k1, k2, k3, k5, hC, hbm⟩ := T.cls
  obtain ⟨t1, ho⟩ := exo_at I.hok e
  have hCs := I.kIn _ _ hC
  obtain ⟨hh, g, d, tk, os⟩ := s
  refine wpAny_call (codeAny_of_tree ?_)
  show wpAny _ X.A.in1 (callAny (.ref u) ⟨us, []⟩) _ _ _
  simp only [callAny]
  refine wpAny_bind (wpAny_load hu ?_)
  simp only [PySem.W.kxs_mw, show (Value.type "method-wrapper" == Value.type "method" || Value.type "method-wrapper" == Value.type "builtin_function_or_method" || Value.type "method-wrapper" == Value.type "method-wrapper") = true by decide, if_true]
  refine PySem.W.KFB.if_so (by decide) ?_
  refine wpAny_bind (PySem.W.check_bound_init F.excBase_ValueError.toExcCallFacts hCs ho rfl ?_)
  refine wpAny_bind (wpAny_pure (wpAny_pure ?_))
  refine ⟨plainId_quiet F.excBase_ValueError.init.plain _, codeAny_builtin F.excBase_ValueError.initEntry ?_⟩
  refine PySem.W.exc_init_tree (cls := .ref C) (t0 := t1) (dv := none) (c2 := .none) (c3 := .none) (b4 := .bool false) ho hl fun h' k e' t' => ?_
  have J := I.write (t' := tk) (x := a) (e := a) (o := exo a C none) (by rw [e]; exact True.intro) (.inl rfl) k ⟨_, e'⟩ (exo_ok e')
  have eu : upd H a (exo a C none) = H := by
    funext b
    by_cases hb : b = a
    · rw [hb, upd_same, e]
    · rw [upd_ne hb]
  rw [eu] at J
  exact h _ J
/-- super().__init__(e, ..) of an exception, then the rest -/
theorem super_exc {x C : Addr} {e : Expr} {es : List Expr} {t : TA} {rest : List Stmt} {u : TS} {D' : Ends} {p0 p1 p2 p3 p4 : Pos}
    (a : AtS X body f c cc D me) (T : SupT X.prog X.K X.mg D) (TC : OexC X.K C)
    (hN : X.N[0]? = some me) (hm : PySem.W.ks_superIn X.K C D "__init__" = some (some (.builtin "ValueError.__init__"))) (hB : PySem.W.subIn X.K (.ref C) (.type "ValueError") = some true)
    (hsub : PySem.W.mroIn X.K C (.ref D) = some true) (ha : PA X (e :: es) t) (hrest : PSs X rest u)
    (I : Inv X pins σ H s) (hσ : σ[0]? = some (some (.ref x))) (hx : H x = some (exo x C none))
    (hq : t σ H fun vs H1 => vs.length ≤ 1000 ∧ H1 x = some (exo x C none) ∧ u D' σ H1)
    (hi : interactive X.env = false) (hs : swapsWith (.Call (.Attribute (.Call (.Name "super" p0) [] [] p1) "__init__" p2) (e :: es) [] p3) none p4.line X.env = pure false)
    (he : eval (.Call (.Attribute (.Call (.Name "super" p0) [] [] p1) "__init__" p2) (e :: es) [] p3) X.env = (do
      let ov ← attributeBase (.Call (.Name "super" p0) [] [] p1) "__init__" X.env (eval (.Call (.Name "super" p0) [] [] p1) X.env)
      standAt p2.atName
      let (f, first) ← holding [ov] (getMethod ov "__init__" (pure false))
      callWith p3 f first (backTo p3 (starEach (e :: es) X.env)) []))
    (hst : starEach (e :: es) X.env = (false, eval e X.env) :: starEach es X.env) (hpl : (backTo p3 (starEach es X.env)).any (·.1) = false) :
    PySem.wpAt (model X.prog X.w) X.A (.func body X.env) (execs (.Expr (.Call (.Attribute (.Call (.Name "super" p0) [] [] p1) "__init__" p2) (e :: es) [] p3) p4 :: rest) X.env) (SP X pins D') X.xe s := by
  obtain ⟨ox, ho, hc, hnc⟩ := exo_obj I hx
  refine ks_wpAt_execs_cons (ks_wpAt_Expr_any (ks_wpAt_MethodCall (pl := pure false) (super_base a T I hN hσ ho hc hnc hsub (by decide) fun so h' eso hso kp I1 => ?_) he) hi hs)
  refine super_methX (x := x) (C := C) (D := D) I1 hso hx T.third hm hB fun q s2 eq hq2 I2 => ?_
  have hqn : H q = none := by rw [eq]; exact I1.hok.fresh (Nat.le_refl _)
  have hq0 : X.s_0.heap.objs.size ≤ q := by rw [eq]; exact I1.sz
  have hqL : q ≠ X.env.locals := by rw [eq]; exact (Nat.ne_of_lt I1.lt).symm
  have hqf : q ∉ X.fs := by rw [eq]; exact I1.nofs (Nat.le_refl _)
  have J : Inv X (pins ++ [(q, PySem.W.kxs_mw "ValueError.__init__" x)]) σ H s2 := I2.pins_of fun p hp => by
    rcases List.mem_append.mp hp with hp | hp
    · exact I2.pin p (List.mem_append_right _ hp)
    · obtain rfl := List.mem_singleton.mp hp
      exact ⟨hq2, hqn, hqL, hqf, fun v hv => by cases hv⟩
  refine PySem.W.kxs_callWith1 (h₀ := X.base) (L := X.env.locals) (news := [(q, PySem.W.kxs_mw "ValueError.__init__" x)]) (i := "ValueError.__init__") (x := x) ?_ (List.mem_singleton.mpr rfl) ?_ hst hpl
  · intro p hp
    obtain rfl := List.mem_singleton.mp hp
    exact ⟨hq2, hqL, Heap.get?_none_of_le (Nat.le_trans I.ok.bsz hq0)⟩
  refine thn (ha.run p3 _ s2 σ H _ J hq) fun us s3 ⟨vs, H3, I3, r, hl, hx3, q3⟩ => ?_
  have hq3 : s3.heap.get? q = some (PySem.W.kxs_mw "ValueError.__init__" x) := (I3.pin _ (List.mem_append_right _ (List.mem_append_right _ (List.mem_singleton.mpr rfl)))).1
  have I4 : Inv X pins σ H3 s3 := I3.pins_of fun p hp => I3.pin p (List.mem_append_right _ (List.mem_append_left _ hp))
  refine ⟨hq3, ?_⟩
  exact call_mw TC I4 hq3 hx3 (by rw [← r.length]; exact Nat.le_trans hl (by decide)) fun s' I5 => wpAt_of_wpAny (hrest.run pins s' σ H3 D' I5 q3)
end
theorem atS_of {P : Program} {w : World} {K : PySem.W.Frag} {mg : Str → Option Value} {base : Heap} {CX : CXT} {x qual : Str} {st : Stmt} {f c cc D : Addr} {fd : FuncData} {N : List Str} {A : Around} {outer : List Env} {s : Shared} {H : Hp} {E : XK} {me : Str} {body : List Stmt}
    (F : FunS P K x qual st f fd c cc D) (hk : (defScope st).kind = .function) (hs : (defScope st).names.lookup ("super" : Str) = some .globalImplicit) (hc : (defScope st).names.lookup ("__class__" : Str) = some .free)
    (hm : (defScope st).names.lookup me = some .local) (ha : ∃ ar, ((defArgs st).posonlyargs ++ (defArgs st).args).head? = some ar ∧ ar.arg = me) : AtS (ncx CX P w K mg base N (nf x qual st c cc) f A outer s H E) body f c cc D me := by
  obtain ⟨oc, od, kV, doc, pm, an, ct, osl, rfl, lk⟩ := F.ex
  obtain ⟨ar, h1, h2⟩ := ha
  refine ⟨hk, hs, hc, rfl, rfl, ?_, hm, ⟨oc, od, _, osl, ar, lk, h1, h2⟩, F.file, F.cell⟩
  show List.lookup _ [(("__class__" : Str), cc)] = some cc
  rw [List.lookup_cons, beq_self_eq_true]
end Sup
namespace Sj
open PySem L2 Sup
open NdefX (NF NScope ncx envF startF nscope_by)
abbrev sInv : Stmt := inClass (top 2) 0
abbrev sIsName : Stmt := top 7
abbrev sLegI : Stmt := inClass (top 9) 1
abbrev sDrvI : Stmt := inClass (top 10) 1
abbrev sLisI : Stmt := inClass (top 11) 1
theorem strLen (a b : Str) : (a ++ b).length = a.length + b.length := by
  exact strLen_append a b
section
variable {P : Program} {w : World} {K : PySem.W.Frag} {mg : Str → Option Value} {base : Heap}
theorem scInv : NScope ["self", "reason", "__class__"] ["self", "reason"] ["__class__"] (defScope sInv) := nscope_by (by decide +kernel)
/-- InvalidFrame(reason), reason a text -/
def spInv (K : PySem.W.Frag) (C : Addr) : Sp := fun vs H Q _ => ∃ (a : Addr) (z : Str), vs = [.ref a, .str z] ∧ (reprText z).length ≤ 1000 ∧ H a = some (exo a C none) ∧
  ∀ (dx : Addr), H dx = none → dx ≠ a → Q .non (upd (upd H dx (exd dx [("reason", .str z)])) a (exo a C (some dx)))
structure ExT (P : Program) (K : PySem.W.Frag) (mg : Str → Option Value) (C : Addr) (fld : Str) : Prop where
  sup : SupT P K mg C
  oex : OexC K C
  hm : PySem.W.ks_superIn K C C "__init__" = some (some (.builtin "ValueError.__init__"))
  hB : PySem.W.subIn K (.ref C) (.type "ValueError") = some true
  hs : PySem.W.mroIn K C (.ref C) = some true
  no : PySem.W.findIn K (.ref C) fld = some none
theorem ok_inv {f c cc C : Addr} {fd : FuncData} (F : FunS P K "__init__" "InvalidFrame.__init__" sInv f fd c cc C) (T : ExT P K mg C "reason") : FnOk P w K mg base CX0 1 f fd ["self", "reason"] (spInv K C) := by
  refine fn_super F scInv (fun vs H Q E h => ?_) (fun A outer s H vs Q E hr h s1 I => ?_)
  · obtain ⟨a, z, rfl, _⟩ := h
    rfl
  · obtain ⟨a, z, rfl, hz, ha, k⟩ := h
    refine super_exc (me := "self") (x := a) (C := C) (atS_of F rfl rfl rfl rfl ⟨_, rfl, rfl⟩) T.sup T.oex rfl T.hm T.hB T.hs
      (pa_cons (pe_joined (.cons pe_str (.cons (pe_fmtR (pv 1)) .nil))) pa_nil) (pss_one (ps_ost (pv 0) (pv 1))) I rfl ha ?_ rfl rfl rfl rfl rfl
    refine ⟨_, rfl, by decide +kernel, _, rfl, .inl ⟨z, rfl, Nat.le_trans hz (by decide), _, rfl, ?_, by show 1 ≤ 1000; decide, ha, ?_⟩⟩
    · have e1 : ((Str.empty ++ ("invalid frame: " : Str)) ++ reprText z).length ≤ 15 + (reprText z).length := by
        rw [strLen]
        exact Nat.add_le_add_right (by decide +kernel) _
      exact Nat.le_trans e1 (Nat.le_trans (Nat.add_le_add_left hz 15) (by decide))
    · exact ⟨_, rfl, _, rfl, a, C, rfl, T.oex, T.no, .inl ⟨ha, fun dx hd hne => k dx hd hne⟩⟩
end
end Sj
namespace Sj
open PySem L2 Sup
open NdefX (NF NScope ncx envF startF nscope_by)
open C8 (pss_cut tCut)
def lettersS : Str := "abcdefghijklmnopqrstuvwxyz"
def reservedV : List V := [.str "ground", .str "power", .str "nothing"]
/-- whether a text is a name -/
def isName (z : Str) : Bool := decide ((1 : Int) ≤ z.length) && decide ((z.length : Int) ≤ 8) && !inV (.str z) reservedV && z.cps.toList.all fun c => decide (c ∈ lettersS.cps.toList)
structure NmT (K : PySem.W.Frag) (mg : Str → Option Value) : Prop where
  isi : mg "isinstance" = none
  str : mg "str" = none
  len : mg "len" = none
  all : mg "all" = none
  letters : ∃ t, mg "LETTERS" = some (.str lettersS t)
  longest : ∃ t, mg "LONGEST" = some (.int 8 t)
  reserved : ∃ a, mg "RESERVED" = some (.ref a) ∧ ∀ H, SqT K H a reservedV
def spIsName (K : PySem.W.Frag) : Sp := fun vs H Q _ => ∃ x : V, vs = [x] ∧
  ((∃ z : Str, x = .str z ∧ z.length ≤ 1000 ∧ ∀ H', Same H H' → Q (.bl (isName z)) H') ∨
   ∃ t : String, TyX K H x (.type t) ∧ kitB t "str" = some false ∧ Q (.bl false) H)
section
variable {P : Program} {w : World} {K : PySem.W.Frag} {mg : Str → Option Value} {base : Heap}
theorem scIsName : FnScope ["value", "sign"] ["value"] (defScope sIsName) := ⟨rfl, rfl, rfl, by decide +kernel, rfl, by decide +kernel, by decide +kernel⟩
theorem ok_isname {f : Addr} {fd : FuncData} (F : Fun K "is_name" "is_name" sIsName f fd) (T : NmT K mg) : FnOk P w K mg base CX0 1 f fd ["value"] (spIsName K) := by
  obtain ⟨tL, gL⟩ := T.letters
  obtain ⟨tN, gN⟩ := T.longest
  obtain ⟨aR, gR, hR⟩ := T.reserved
  refine F.ok scIsName (fun vs H Q E h => ?_) (fun cdv A outer s H vs Q E hr h => ?_)
  · obtain ⟨x, rfl, _⟩ := h
    rfl
  · obtain ⟨x, rfl, h⟩ := h
    refine ⟨_, pss_cons
      (ps_if (PW.pt (pw_or (pt_not (pt_val (pe_callB call_isi (by rfl) T.isi (by decide +kernel) (pa_cons (pv 0) (pa_cons (pe_bltn (by rfl) T.str (by decide +kernel) (v := .ty "str") rfl) pa_nil)))))
          (pw_or1 (pt_not (pt_chain op_le op_le pe_int (pe_callB call_len_str (by rfl) T.len PySem.boot_len (pa_cons (pv 0) pa_nil)) (pe_glob rfl gN (v := .int 8) ⟨_, rfl⟩))))))
        (pss_one (ps_ret pe_bl)) pss_nil)
      (pss_one (ps_ret (pe_and (pe_cmpR op_notIn_seq (pv 0) (pe_glob rfl gR (v := .ref aR) rfl) (by rfl))
        (pe_one (pe_callB (cr_all rfl) (by rfl) T.all (by decide +kernel) (pa_cons
          (pe_lc (own := [("sign", 1)]) (g := gName 1) (tt := tYes) rfl scIsName.nd (pi_str (pv 0)) (blkOk_by (N := ["value", "sign"]) (sc := defScope sIsName) (by decide +kernel))
            (fun _ _ _ _ _ => pg_name (i := 1) scIsName.nd rfl (Or.inl rfl)) (fun _ _ _ _ _ => pts_nil) (fun _ _ _ _ _ => pe_cmpR op_in_sign (pv 1) (pe_glob rfl gL (v := .str lettersS) ⟨_, rfl⟩) (by rfl))) pa_nil)))))), ?_⟩
    rcases h with ⟨z, rfl, hz, k⟩ | ⟨t, ht, hk, k⟩
    · have hzl : z.length ≤ sizeLine := small1000 hz |> Nat.le_of_lt
      refine ⟨_, rfl, _, _, .type "str", .type "str", true, rfl, .ty _, .base (.str _), kit_ty (by decide +kernel), _, rfl, iteF ?_⟩
      refine ⟨_, rfl, _, rfl, hzl, _, _, rfl, rfl, _, rfl, ?_⟩
      have e0 : isName z = (decide ((1 : Int) ≤ z.length) && decide ((z.length : Int) ≤ 8) && !inV (.str z) reservedV && z.cps.toList.all fun c => decide (c ∈ lettersS.cps.toList)) := rfl
      by_cases h1 : (1 : Int) ≤ z.length
      · rw [decide_eq_true h1]
        refine iteT ⟨_, _, rfl, rfl, _, rfl, ?_⟩
        by_cases h2 : (z.length : Int) ≤ 8
        · rw [decide_eq_true h2]
          refine iteF ⟨_, rfl, aR, _, rfl, .inr (hR _), rfl, rfl, _, rfl, ?_⟩
          rw [decide_eq_true h1, decide_eq_true h2] at e0
          cases h3 : inV (.str z) reservedV with
          | true =>
            rw [h3] at e0
            refine iteF ?_
            rw [show isName z = false from e0] at k
            exact k _ (Same.refl _)
          | false =>
            rw [h3] at e0
            refine iteT ?_
            refine ⟨_, rfl, z, rfl, fun D hD => lc_it walk_str (fun i H' => Same H H' ∧ H' D = some (.lst (((z.cps.toList.take i).map fun c => decide (c ∈ lettersS.cps.toList)).map V.bl))) ⟨?_, ?_⟩ (fun _ _ _ _ => True.intro) ?_ ?_⟩
            · exact fun b o e => by rw [upd_ne (ne_of_none e hD)]; exact e
            · rw [upd_same]; rfl
            · rintro i x H1 H2 hi ⟨s1, d1⟩ ⟨rfl, c, hc, rfl⟩
              refine ⟨rfl, ?_⟩
              unfold tYes
              dsimp only
              rw [if_pos rfl]
              refine ⟨_, rfl, c, lettersS, rfl, rfl, _, d1, ?_, ?_, ?_⟩
              · rw [List.length_map, List.length_map, List.length_take]
                exact Nat.lt_of_le_of_lt (Nat.min_le_right _ _) (Nat.lt_of_le_of_lt (show z.cps.toList.length ≤ 1000 from hz) (by decide))
              · exact fun b o e => by rw [upd_ne (ne_of_none e hD)]; exact s1 _ _ e
              · rw [upd_same]
                have hc' : z.cps.toList[i]? = some c := by rw [Array.getElem?_toList]; exact hc
                rw [List.take_add_one, hc', List.map_append, List.map_append]
                rfl
            · rintro H1 ⟨s1, d1⟩
              refine ⟨D, (z.cps.toList.take z.cps.size).map (fun c => decide (c ∈ lettersS.cps.toList)), rfl, SqL.of d1, ?_⟩
              have e2 : (z.cps.toList.take z.cps.size) = z.cps.toList := List.take_of_length_le (by rw [Array.length_toList]; exact Nat.le_refl _)
              have e1 : List.all ((z.cps.toList.take z.cps.size).map (fun c => decide (c ∈ lettersS.cps.toList))) id = z.cps.toList.all fun c => decide (c ∈ lettersS.cps.toList) := by
                rw [e2, List.all_map]; rfl
              have e3 : isName z = List.all ((z.cps.toList.take z.cps.size).map (fun c => decide (c ∈ lettersS.cps.toList))) id := by
                rw [e0, e1]; simp
              show Q (.bl (List.all _ id)) H1
              rw [← e3]
              exact k _ s1
        · rw [decide_eq_false h2]
          rw [decide_eq_false h2, Bool.and_false] at e0
          rw [show isName z = false from by rw [e0]; rfl] at k
          exact iteT (k _ (Same.refl _))
      · rw [decide_eq_false h1] at e0 ⊢
        rw [show isName z = false from e0] at k
        exact iteF ⟨_, rfl, iteT (k _ (Same.refl _))⟩
    · refine ⟨_, rfl, _, _, .type t, .type "str", false, rfl, .ty _, ht, kit_ty hk, _, rfl, iteT ?_⟩
      exact iteT k
end
end Sj
namespace Sj
open PySem L2 Sup
open NdefX (NF NScope ncx envF startF nscope_by)
open C8 (pss_cut tCut)
/-- a leg's attributes -/
def legF (z : Str) : List (Str × V) := putF "name" (.str z) []
theorem legF_name (z : Str) : (legF z).lookup ("name" : Str) = some (.str z) := by
  unfold legF
  rw [lookup_putF, if_pos rfl]
theorem legF_no (z : Str) {m : Str} (h : ¬ m = "name") : (legF z).lookup m = none := by
  unfold legF
  rw [lookup_putF, if_neg h]
  rfl
def errH (H H' : Hp) (d : Addr) (fld : Str) (v : V) : Prop := H d = none ∧ H' d = some (.xd [(fld, v)]) ∧ Same H H'
/-- X.__init__(self, name) of a leg's class: the wish of an error -/
def spLegI (K : PySem.W.Frag) (CI C : Addr) : Sp := fun vs H Q E => ∃ (p dx : Addr) (x : V), vs = [.ref p, x] ∧ H p = some (.ins C dx []) ∧
  ((∃ z : Str, x = .str z ∧ z.length ≤ 1000 ∧ (isName z = true → ∀ H', H' p = some (.ins C dx (legF z)) → But H H' p → Q .non H') ∧
      (isName z = false → ∀ d H', errH H H' d "reason" (.str "name") → E (.ref CI) (some d) H')) ∨
   ∃ t : String, TyX K H x (.type t) ∧ kitB t "str" = some false ∧ ∀ d H', errH H H' d "reason" (.str "name") → E (.ref CI) (some d) H')
structure LgT (P : Program) (K : PySem.W.Frag) (mg : Str → Option Value) (CI fI f n : Addr) : Prop where
  ex : ExT P K mg CI "reason"
  iC : PySem.W.findIn K (.ref CI) "__init__" = some (some (.ref fI))
  tI : PySem.W.typeIn K (.ref fI) = some (.type "function")
  mI : mg "InvalidFrame" = some (.ref CI)
  mN : mg "is_name" = some (.ref n)
structure LegC (K : PySem.W.Frag) (C : Addr) : Prop where
  cl : Cls K C
  nN : NoAttr K C "name"
section
variable {P : Program} {w : World} {K : PySem.W.Frag} {mg : Str → Option Value} {base : Heap}
theorem scLegI : FnScope ["self", "name"] ["self", "name"] (defScope sLegI) := ⟨rfl, rfl, rfl, by decide +kernel, rfl, by decide +kernel, by decide +kernel⟩
theorem ok_legI {f fI fN CI C c cc : Addr} {fd fdI fdN : FuncData} (F : Fun K "__init__" "Leg.__init__" sLegI f fd) (T : LgT P K mg CI fI f fN) (NT : NmT K mg) (LC : LegC K C)
    (FN : Fun K "is_name" "is_name" sIsName fN fdN) (bN : Binds K fdN ["value"] []) (FI : FunS P K "__init__" "InvalidFrame.__init__" sInv fI fdI c cc CI) (bI : Binds K fdI ["self", "reason"] []) :
    FnOk P w K mg base (L2.CX P w) 3 f fd ["self", "name"] (spLegI K CI C) := by
  have GN : FnOk P w K mg base CX0 1 fN fdN ["value"] (spIsName K) := ok_isname FN NT
  have GI : FnOk P w K mg base CX0 1 fI fdI ["self", "reason"] (spInv K CI) := ok_inv FI T.ex
  refine F.okX scLegI (fun vs H Q E h => ?_) (fun cdv A outer s H vs Q E hr h => ?_)
  · obtain ⟨p, dx, x, rfl, _⟩ := h
    rfl
  · obtain ⟨p, dx, x, rfl, hp, h⟩ := h
    have hr1 : Room 1 _ := hr.mono (by decide)
    refine ⟨_, pss_cons (ps_if (pt_not (pt_val (pe_call GN hr1 rfl T.mN FN.kp bN .nil pass0 (pa_cons (pv 1) pa_nil))))
        (pss_one (ps_raise rfl (takes_of rfl rfl rfl rfl) (pmk_oex T.ex.oex T.iC T.tI GI hr bI .nil pass0 rfl T.mI (pa_cons pe_str pa_nil)))) pss_nil)
      (pss_one (ps_fld (pv 0) (pv 1) rfl)), ?_⟩
    have fin : ∀ H1, Same H H1 → (∀ d H', errH H H' d "reason" (.str "name") → E (.ref CI) (some d) H') →
        tMkO CI (spInv K CI) [] (tCons (tC (.str "name")) tNil) (start ["self", "name"] [.ref p, x]) H1 fun cls d H' => E cls d H' := fun H1 s1 k => by
      refine ⟨by show 1 ≤ 1000; decide, fun a ha => ⟨a, "name", rfl, by decide +kernel, upd_same, fun d hd hda => ⟨rfl, d, [("reason", .str "name")], upd_same, ?_, ?_, ?_⟩⟩⟩
      · rw [upd_ne hda, upd_same]
      · rw [upd_ne hda] at hd
        exact hd
      · refine k d _ ⟨?_, upd_same, fun b o e => ?_⟩
        · rw [upd_ne hda] at hd
          exact s1.free hd
        · rw [upd_ne hda] at hd
          have e1 := s1 _ _ e
          have nbd : b ≠ d := ne_of_none e1 hd
          have nba : b ≠ a := ne_of_none e1 ha
          rw [upd_ne nbd, del_ne nba, upd_ne nba, upd_ne nbd, upd_ne nba]
          exact e1
    rcases h with ⟨z, rfl, hz, k1, k2⟩ | ⟨t, ht, hk, k2⟩
    · refine ⟨_, rfl, _, rfl, .inl ⟨z, rfl, hz, fun H1 s1 => ⟨_, rfl, ?_⟩⟩⟩
      cases hn : isName z with
      | true =>
        refine iteF ⟨_, rfl, _, rfl, p, C, dx, _, rfl, s1 _ _ hp, LC.cl, LC.nN, by show 0 < 1000; decide, ?_⟩
        exact k1 hn _ upd_same fun b o hb e => by rw [upd_ne hb]; exact s1 _ _ e
      | false => exact iteT (fin H1 s1 (k2 hn))
    · refine ⟨_, rfl, _, rfl, .inr ⟨t, ht, hk, ⟨_, rfl, ?_⟩⟩⟩
      exact iteT (fin H (Same.refl _) k2)
end
end Sj
namespace Sj
open PySem L2 Sup
open NdefX (NF NScope ncx envF startF nscope_by)
open C8 (pss_cut tCut)
structure SubT (P : Program) (K : PySem.W.Frag) (mg : Str → Option Value) (C f : Addr) : Prop where
  sup : SupT P K mg C
  hm : PySem.W.ks_superIn K C C "__init__" = some (some (.ref f))
  tf : PySem.W.typeIn K (.ref f) = some (.type "function")
  ff : PySem.W.fnIn K f = true
  hs : PySem.W.mroIn K C (.ref C) = some true
section
variable {P : Program} {w : World} {K : PySem.W.Frag} {mg : Str → Option Value} {base : Heap}
theorem scDrvI : NScope ["self", "name", "__class__"] ["self", "name"] ["__class__"] (defScope sDrvI) := nscope_by (by decide +kernel)
theorem scLisI : NScope ["self", "name", "__class__"] ["self", "name"] ["__class__"] (defScope sLisI) := nscope_by (by decide +kernel)
theorem ok_drvI {fL f CI C c cc : Addr} {fd fdL : FuncData} (F : FunS P K "__init__" "Driver.__init__" sDrvI f fd c cc C) (T : SubT P K mg C fL) (bL : Binds K fdL ["self", "name"] [])
    (GL : FnOk P w K mg base (L2.CX P w) 3 fL fdL ["self", "name"] (spLegI K CI C)) : FnOk P w K mg base (L2.CX P w) 4 f fd ["self", "name"] (spLegI K CI C) := by
  refine fn_super F scDrvI (fun vs H Q E h => ?_) (fun A outer s H vs Q E hr h s1 I => ?_)
  · obtain ⟨p, dx, x, rfl, _⟩ := h
    rfl
  · obtain ⟨p, dx, x, rfl, hp, h⟩ := h
    refine super_own (me := "self") (x := p) (C := C) (E := E) (atS_of F rfl rfl rfl rfl ⟨_, rfl, rfl⟩) T.sup GL hr bL .nil (passes_call (takes_of rfl rfl rfl rfl) fun _ _ _ _ h => h) rfl T.hm T.tf T.ff T.hs (by decide)
      (pa_cons (pv 1) pa_nil) pss_nil I rfl (ins_obj I hp) ?_ rfl rfl rfl rfl rfl
    exact ⟨_, rfl, p, dx, x, rfl, hp, h⟩
theorem ok_lisI {fL f CI C c cc : Addr} {fd fdL : FuncData} (F : FunS P K "__init__" "Listener.__init__" sLisI f fd c cc C) (T : SubT P K mg C fL) (bL : Binds K fdL ["self", "name"] [])
    (GL : FnOk P w K mg base (L2.CX P w) 3 fL fdL ["self", "name"] (spLegI K CI C)) : FnOk P w K mg base (L2.CX P w) 4 f fd ["self", "name"] (spLegI K CI C) := by
  refine fn_super F scLisI (fun vs H Q E h => ?_) (fun A outer s H vs Q E hr h s1 I => ?_)
  · obtain ⟨p, dx, x, rfl, _⟩ := h
    rfl
  · obtain ⟨p, dx, x, rfl, hp, h⟩ := h
    refine super_own (me := "self") (x := p) (C := C) (E := E) (atS_of F rfl rfl rfl rfl ⟨_, rfl, rfl⟩) T.sup GL hr bL .nil (passes_call (takes_of rfl rfl rfl rfl) fun _ _ _ _ h => h) rfl T.hm T.tf T.ff T.hs (by decide)
      (pa_cons (pv 1) pa_nil) pss_nil I rfl (ins_obj I hp) ?_ rfl rfl rfl rfl rfl
    exact ⟨_, rfl, p, dx, x, rfl, hp, h⟩
end
end Sj
namespace Sup
open PySem PySem.Spec PyProof.Rows L2
/-! ### x == y, x != y where x or y is an instance with an __eq__ of its own -/
section
variable {M : Model} {prog : Program} {w : World} {A : Around} {E : Value → Shared → Prop} {s : Shared} {K : PySem.W.Frag} {x C g : Addr} {ox : Obj} {od : Option Obj} {b : Value}
/-- the answer, as it is or turned -/
def ansOf (op : CmpOp) (k : Bool) : Bool := match op with
  | .NotEq => !k
  | _ => k
/-- g gives a truth value that R takes -/
def GivesB (prog : Program) (w : World) (A : Around) (E : Value → Shared → Prop) (g x : Addr) (b : Value) (R : Bool → Shared → Prop) (s : Shared) : Prop :=
  wpAny (model prog w) A (call (.ref g) [.ref x, b]) (fun v s' => ∃ k, v = .bool k ∧ R k s') E s
theorem objNe_own (X : K.In s.heap) (I : PySem.W.InstAt s.heap x ox C od) (hs : PySem.W.findIn K (.ref C) "__eq__" = some (some (.ref g))) (hf : PySem.W.isFn K (.ref g) = true) (hu : A.units < cLine) {Q : Fin → Shared → Prop}
    (h : GivesB prog w A E g x b (fun k s' => Q (.done (.ret (.bool (!k)))) s') s) : wpAny (model prog w) A (Builtin.«object.__ne__» ⟨[.ref x, b], []⟩) Q E s := by
  unfold Builtin.«object.__ne__»
  repeat (first
    | with_reducible refine wpAny_cRoomFor hu ?_
    | (refine wpAny_bind (m := callSpecialIfBound? (.ref x) (Str.ofString "__eq__") [b])
        (PySem.W.ifBound_K X I hs hf (wpAny_mono h (fun r s' hr => by
          obtain ⟨k, rfl, hq⟩ := hr
          repeat (first | exact hq | exact wpAny_pure hq | exact wpAny_truthy_bool hq | (refine wpAny_bind (m := truthy (.bool _)) (wpAny_truthy_bool ?_)) | wp_step)) fun _ _ e => e)))
    | wp_step)
theorem ifBound_objNe {args : List Value} {Q : Option Value → Shared → Prop} (X : K.In s.heap) (I : PySem.W.InstAt s.heap x ox C od) (hs : PySem.W.findIn K (.ref C) "__ne__" = some (some (.builtin "object.__ne__")))
    (h : wpAny M A (call (.builtin "object.__ne__") (.ref x :: args)) (fun v => Q (some v)) E s) : wpAny M A (callSpecialIfBound? (.ref x) "__ne__" args) Q E s := by
  simp only [callSpecialIfBound?, bindSpecialIfBound?]
  refine wpAny_holding (wpAny_bind (wpAny_bind (wpAny_bind (I.type.here ((PySem.W.looks_findIn X hs).here ?_)))))
  refine wpAny_bind (wpAny_askSetting (wpAny_ite ?_))
  have fin : wpAny M A (call (.builtin "object.__ne__") ([.ref x] ++ args) >>= fun v => pure (some v)) Q E s := wpAny_bind (wpAny_mono h (fun v s' h' => wpAny_pure h') fun _ _ h' => h')
  split
  · exact wpAny_bind (wpAny_of_eq (F.cmp_object.ne.bind _) (wpAny_pure (by exact fin)))
  · exact wpAny_tryCatch (wpAny_bind (wpAny_of_eq (F.cmp_object.ne.bind _) (wpAny_pure (by exact fin))))
/-- the instance's own answer -/
theorem try_own {op : CmpOp} (hop : op = .Eq ∨ op = .NotEq) (X : K.In s.heap) (I : PySem.W.InstAt s.heap x ox C od) (hs : PySem.W.findIn K (.ref C) "__eq__" = some (some (.ref g))) (hf : PySem.W.isFn K (.ref g) = true)
    (hn : PySem.W.findIn K (.ref C) "__ne__" = some (some (.builtin "object.__ne__"))) (hm : PySem.W.mroIn K C (.type "object") = some true) (hu : A.in1.units < cLine) {R : Bool → Shared → Prop}
    (h : ∀ A', A' = A ∨ A' = A.in1 → GivesB prog w A' E g x b R s) :
    wpAny (model prog w) A (tryCompare (.ref x) (cmpInfo op).2.1 b) (fun r s' => ∃ k, r = some (.bool (ansOf op k)) ∧ R k s') E s := by
  rcases hop with rfl | rfl
  · unfold tryCompare
    refine wpAny_bind (PySem.W.ifBound_K X I hs hf (wpAny_mono (h A (.inl rfl)) (fun v s' hv => ?_) fun _ _ e => e))
    obtain ⟨k, rfl, hq⟩ := hv
    exact wpAny_pure ⟨k, rfl, hq⟩
  · unfold tryCompare
    refine wpAny_bind (ifBound_objNe X I hn (wpAny_call (codeAny_call_builtin F.cmp_object.ne.plain F.cmpEntry_ne (PySem.W.check_slot F.cmpKind_ne F.cmpSplit_ne (I.type.andThen (PySem.W.looks_mroIn X hm)) (F.cmpArgs_ne _ _)
      (objNe_own X I hs hf hu (wpAny_mono (h A.in1 (.inr rfl)) (fun v s' hv => ?_) fun _ _ e => e))))))
    obtain ⟨k, rfl, hq⟩ := hv
    exact ⟨k, rfl, wpAny_pure ⟨k, rfl, hq⟩⟩
theorem rc_own_left {op : CmpOp} (hop : op = .Eq ∨ op = .NotEq) {tb : Value} {Q : Value → Shared → Prop} (hu : A.units < cLine) (X : K.In s.heap) (I : PySem.W.InstAt s.heap x ox C od) (hb : PySem.W.Looks (model prog w) s.heap (typeOf b) tb) (hn : PySem.W.notFirst K C tb = true)
    {R : Bool → Shared → Prop} (one : wpAny (model prog w) A (tryCompare (.ref x) (cmpInfo op).2.1 b) (fun r s' => ∃ k, r = some (.bool (ansOf op k)) ∧ R k s') E s) (h : ∀ k s', R k s' → Q (.bool (ansOf op k)) s') :
    wpAny (model prog w) A (richCompare op (.ref x) b) Q E s := by
  unfold richCompare
  simp only [oneThing_ref]
  refine wpAny_holding (wpAny_bind (wpAny_cRoomFor hu ?_))
  refine wpAny_bind (I.type.here (wpAny_bind (hb.here ?_)))
  split
  · rename_i q
    have e : PySem.W.subIn K tb (.ref C) = some false := by
      rcases Bool.or_eq_true_iff.mp hn with e | e
      · rw [beq_iff_eq.mp e] at q; simp at q
      · exact beq_iff_eq.mp e
    refine wpAny_bind ((PySem.W.looks_subIn X e).here ?_)
    simp only [Bool.false_eq_true, if_false]
    refine wpAny_bind (wpAny_mono one (fun r s' z => ?_) fun _ _ e => e)
    obtain ⟨k, rfl, hq⟩ := z
    exact wpAny_pure (h _ _ hq)
  · refine wpAny_bind (wpAny_pure ?_)
    simp only [Bool.false_eq_true, if_false]
    refine wpAny_bind (wpAny_mono one (fun r s' z => ?_) fun _ _ e => e)
    obtain ⟨k, rfl, hq⟩ := z
    exact wpAny_pure (h _ _ hq)
/-- the right one's class is below the left one's: it is asked first -/
theorem rc_own_right {op : CmpOp} (hop : op = .Eq ∨ op = .NotEq) {a' D : Addr} {oy : Obj} {od' : Option Obj} {Q : Value → Shared → Prop} (hu : A.units < cLine) (X : K.In s.heap) (I : PySem.W.InstAt s.heap x ox C od) (J : PySem.W.InstAt s.heap a' oy D od')
    (hne : D ≠ C) (hsub : PySem.W.subIn K (.ref D) (.ref C) = some true)
    {R : Bool → Shared → Prop} (one : wpAny (model prog w) A (tryCompare (.ref a') (cmpInfo op).2.1 (.ref x)) (fun r s' => ∃ k, r = some (.bool (ansOf op k)) ∧ R k s') E s) (h : ∀ k s', R k s' → Q (.bool (ansOf op k)) s') :
    wpAny (model prog w) A (richCompare op (.ref x) (.ref a')) Q E s := by
  have hr : (cmpInfo op).2.2 = (cmpInfo op).2.1 := by rcases hop with rfl | rfl <;> rfl
  unfold richCompare
  simp only [oneThing_ref]
  refine wpAny_holding (wpAny_bind (wpAny_cRoomFor hu ?_))
  refine wpAny_bind (I.type.here (wpAny_bind (J.type.here ?_)))
  split
  · refine wpAny_bind ((PySem.W.looks_subIn X hsub).here ?_)
    simp only [if_true]
    rw [hr]
    refine wpAny_bind (wpAny_mono one (fun r s' z => ?_) fun _ _ e => e)
    obtain ⟨k, rfl, hq⟩ := z
    exact wpAny_bind (wpAny_rule (wpAny_pure (h _ _ hq)))
  · rename_i q
    exact absurd (show (Value.ref C != Value.ref D) = true by simp [Ne.symm hne]) q
end
/-- what == asks of the class at C -/
structure EqC (X : Cx) (C : Addr) (sp : Sp) : Prop where
  ex : ∃ (g : Addr) (fd : FuncData) (k : Nat), PySem.W.findIn X.K (.ref C) "__eq__" = some (some (.ref g)) ∧ PySem.W.isFn X.K (.ref g) = true ∧ FnOk X.prog X.w X.K X.mg X.base CX0 k g fd ["self", "other"] sp ∧ Room (k + 1) X.A ∧ Binds X.K fd ["self", "other"] []
  ne : PySem.W.findIn X.K (.ref C) "__ne__" = some (some (.builtin "object.__ne__"))
  ob : PySem.W.mroIn X.K C (.type "object") = some true
def rOwnE (K : PySem.W.Frag) (op : CmpOp) (S : Addr → Prop) (spE : Addr → Sp) : R2 := fun x y H Q => ∃ a C dx fs, x = .ref a ∧ H a = some (.ins C dx fs) ∧ S C ∧
  ((∃ t, TyX K H y t ∧ PySem.W.notFirst K C t = true ∧ spE C [x, y] H (fun z H' => ∃ k, z = .bl k ∧ Q (.bl (ansOf op k)) H') E0) ∨
   ∃ b D dy gs, y = .ref b ∧ H b = some (.ins D dy gs) ∧ S D ∧ D ≠ C ∧ PySem.W.subIn K (.ref D) (.ref C) = some true ∧ spE D [y, x] H (fun z H' => ∃ k, z = .bl k ∧ Q (.bl (ansOf op k)) H') E0)
section
variable {X : Cx} {pins : List (Addr × Obj)} {σ : L2.St} {H : Hp} {s : Shared}
theorem gives_own {A : Around} {g a : Addr} {fd : FuncData} {k : Nat} {sp : Sp} {y : V} {b : Value} {Q' : Bool → Hp → Prop} {E' : Value → Shared → Prop} (F : FnOk X.prog X.w X.K X.mg X.base CX0 k g fd ["self", "other"] sp) (hr : Room k A) (hb : Binds X.K fd ["self", "other"] []) (e0 : Env0 X.prog X.w X.K X.mg X.base A X.stack s H)
    (I : Inv X pins σ H s) (ry : RelV y b) (h : sp [.ref a, y] H (fun z H' => ∃ k, z = .bl k ∧ Q' k H') E0) :
    GivesB X.prog X.w A E' g a b (fun k s' => ∃ H', Inv X pins σ H' s' ∧ Q' k H') s := by
  refine wpAny_call (codeAny_mono (F.run A X.stack s H ⟨[.ref a, b], []⟩ [.ref a, b] [.ref a, y] _ E0 hr e0 (by simpa using hb s [.ref a, b] I.kIn rfl) (.cons rfl (.cons ry .nil)) h) fun r s' hq => ?_)
  cases r with
  | error e => exact False.elim hq
  | ok fl =>
    cases fl with
    | ret u =>
      obtain ⟨v, H', I', rv, k, ev, q⟩ := I.after hq
      subst ev
      exact ⟨k, rv, H', I', q⟩
    | next => exact False.elim hq
    | brk => exact False.elim hq
    | cont => exact False.elim hq
theorem op_ownE {op : CmpOp} (hop : op = .Eq ∨ op = .NotEq) {S : Addr → Prop} {spE : Addr → Sp} (T : ∀ C, S C → EqC X C (spE C)) : OpR X (compareOp op) (rOwnE X.K op S spE) := by
  intro pins s σ H x y v u Q I rx ry h
  obtain ⟨a, C, dx, fs, rfl, ha, hS, h⟩ := h
  obtain rfl : v = Value.ref a := rx
  obtain ⟨mA, O, _⟩ := ins_get I.hok ha
  obtain ⟨od, J, _⟩ := O.look
  have hcmp : compareOp op (.ref a) u = richCompare op (.ref a) u := by rcases hop with rfl | rfl <;> rfl
  rw [hcmp]
  have KX := I.kIn
  rcases h with ⟨t, ht, hn, q⟩ | ⟨b, D, dy, gs, rfl, hb, hSD, hne, hsub, q⟩
  · obtain ⟨⟨g, fd, k, h1, h2, GF, hr, hbd⟩, h3, h4⟩ := T C hS
    obtain ⟨P, KP, hP, _⟩ := kit_of I ry ht
    refine rc_own_left hop hr.units0 KX J (KP.ty _ _ KX hP) hn (R := fun k s' => ∃ H', Inv X pins σ H' s' ∧ Q (.bl (ansOf op k)) H') (try_own hop KX J h1 h2 h3 h4 (Room.in1 hr).units0 fun A' hA => ?_) fun k s' ⟨H', I', qq⟩ => ⟨.bl (ansOf op k), H', I', rfl, qq⟩
    rcases hA with rfl | rfl
    · exact gives_own GF (hr.mono (Nat.le_succ _)) hbd I.env0 I ry q
    · exact gives_own GF (Room.in1 hr) hbd I.env0.in1 I ry q
  · obtain rfl : u = Value.ref b := ry
    obtain ⟨⟨g, fd, k, h1, h2, GF, hr, hbd⟩, h3, h4⟩ := T D hSD
    obtain ⟨mB, O', _⟩ := ins_get I.hok hb
    obtain ⟨od', J', _⟩ := O'.look
    refine rc_own_right hop hr.units0 KX J J' hne hsub (R := fun k s' => ∃ H', Inv X pins σ H' s' ∧ Q (.bl (ansOf op k)) H') (try_own hop KX J' h1 h2 h3 h4 (Room.in1 hr).units0 fun A' hA => ?_) fun k s' ⟨H', I', qq⟩ => ⟨.bl (ansOf op k), H', I', rfl, qq⟩
    rcases hA with rfl | rfl
    · exact gives_own GF (hr.mono (Nat.le_succ _)) hbd I.env0 I (y := .ref a) rfl q
    · exact gives_own GF (Room.in1 hr) hbd I.env0.in1 I (y := .ref a) rfl q
end
end Sup
namespace Sup
open PySem PySem.Spec PyProof.Rows L2
section
variable {X : Cx}
/-- repr(True) -/
def boolText (b : Bool) : Str := if b then "True" else "False"
theorem call_repr_bool : CallR X (.builtin "repr") (fun xs H Q => ∃ b, xs = [.bl b] ∧ Q (.str (boolText b)) H) := by
  intro pins s σ H xs us Q I r h
  obtain ⟨b, rfl, q⟩ := h
  obtain ⟨u, rfl, ru⟩ := r.one
  obtain rfl : u = Value.bool b := ru
  exact PySem.P.repr_of_bool ⟨.str (boolText b), H, I.tok _, ⟨_, rfl⟩, q⟩
/-- repr of data, where nothing is shown around -/
theorem call_reprD (hg : X.A.guards = some []) (hu : X.A.units + 70 < cLine) : CallR X (.builtin "repr") (fun xs H Q => ∃ x d, xs = [x] ∧ Dp X.K H x d ∧ (∃ a, x = .ref a) ∧ PyData.showable d = true ∧ d.hasDict = false ∧ d.depth ≤ 64 ∧ d.shown.length ≤ sizeLine ∧ Q (.str d.shown) H) := by
  intro pins s σ H xs us Q I r h
  obtain ⟨x, d, rfl, hd, ⟨a, rfl⟩, hs, hno, hdp, hsz, q⟩ := h
  obtain ⟨u, rfl, ru⟩ := r.one
  obtain ⟨as, rd⟩ := Dp.reads I d (.ref a) u hd ru
  obtain rfl : u = Value.ref a := ru
  exact PySem.repr_of_reads' rd hs (PyData.noDict_hsm hno) hg (by omega) (fun _ _ e => e) (fun h' u tk hk => ⟨.str d.shown, H, I.kept (t' := tk) hk, ⟨_, rfl⟩, q⟩) hsz
/-- a class's own __str__ or __repr__ -/
structure StrC (X : Cx) (C : Addr) (name : Str) (sp : Sp) : Prop where
  ex : ∃ (g : Addr) (fd : FuncData) (k : Nat), PySem.W.findIn X.K (.ref C) name = some (some (.ref g)) ∧ PySem.W.isFn X.K (.ref g) = true ∧ FnOk X.prog X.w X.K X.mg X.base CX0 k g fd ["self"] sp ∧ Room (k + 3) X.A ∧ Binds X.K fd ["self"] []
def rStrOwn (S : Addr → Prop) (spS : Addr → Sp) : List V → Hp → VK → Prop := fun xs H Q => ∃ a C dx fs, xs = [.ref a] ∧ H a = some (.ins C dx fs) ∧ S C ∧ spS C [.ref a] H (fun z H' => ∃ y, z = .str y ∧ Q (.str y) H') E0
theorem gives_str {pins : List (Addr × Obj)} {σ : L2.St} {H : Hp} {s : Shared} {A : Around} {g a : Addr} {fd : FuncData} {k : Nat} {sp : Sp} {Q' : VK} {E' : Value → Shared → Prop} (F : FnOk X.prog X.w X.K X.mg X.base CX0 k g fd ["self"] sp) (hr : Room k A) (hb : Binds X.K fd ["self"] [])
    (e0 : Env0 X.prog X.w X.K X.mg X.base A X.stack s H) (I : Inv X pins σ H s) (h : sp [.ref a] H (fun z H' => ∃ y, z = .str y ∧ Q' (.str y) H') E0) :
    wpAny (model X.prog X.w) A (call (.ref g) [.ref a]) (PySem.W.StrBack (EP X pins σ Q')) E' s := by
  refine wpAny_call (codeAny_mono (F.run A X.stack s H ⟨[.ref a], []⟩ [.ref a] [.ref a] _ E0 hr e0 (by simpa using hb s [.ref a] I.kIn rfl) (.cons rfl .nil) h) fun r s' hq => ?_)
  cases r with
  | error e => exact False.elim hq
  | ok fl =>
    cases fl with
    | ret u =>
      obtain ⟨v, H', I', rv, y, ev, q⟩ := I.after hq
      subst ev
      obtain ⟨t, rfl⟩ := rv
      exact ⟨.str y, H', I', ⟨t, rfl⟩, q⟩
    | next => exact False.elim hq
    | brk => exact False.elim hq
    | cont => exact False.elim hq
theorem call_strOwn {S : Addr → Prop} {spS : Addr → Sp} (T : ∀ C, S C → StrC X C "__str__" (spS C)) : CallR X (.type "str") (rStrOwn S spS) := by
  intro pins s σ H xs us Q I r h
  obtain ⟨a, C, dx, fs, rfl, ha, hS, q⟩ := h
  obtain ⟨u, rfl, ru⟩ := r.one
  obtain rfl : u = Value.ref a := ru
  obtain ⟨g, fd, k, h1, h2, GF, hr, hb⟩ := T C hS
  obtain ⟨mA, O, _⟩ := ins_get I.hok ha
  obtain ⟨od, J, _⟩ := O.look
  have hr2 : Room k X.A.in1.in1 := ((show Room (k + 2) X.A from hr.mono (by omega)).in1).in1
  exact PySem.W.kso_call hr2.units0 I.kIn J h1 h2 (gives_str GF hr2 hb I.env0.in1.in1 I q)
theorem call_reprOwn {S : Addr → Prop} {spS : Addr → Sp} (T : ∀ C, S C → StrC X C "__repr__" (spS C)) : CallR X (.builtin "repr") (rStrOwn S spS) := by
  intro pins s σ H xs us Q I r h
  obtain ⟨a, C, dx, fs, rfl, ha, hS, q⟩ := h
  obtain ⟨u, rfl, ru⟩ := r.one
  obtain rfl : u = Value.ref a := ru
  obtain ⟨g, fd, k, h1, h2, GF, hr, hb⟩ := T C hS
  obtain ⟨mA, O, _⟩ := ins_get I.hok ha
  obtain ⟨od, J, _⟩ := O.look
  obtain ⟨m, hF⟩ := I.fr
  have hr2 : Room k X.A.in1 := (show Room (k + 1) X.A from hr.mono (by omega)).in1
  exact PySem.W.repr_K hr2.units0 hF I.ok.mod.kin J h1 h2 (gives_str GF hr2 hb I.env0.in1 I q)
end
end Sup
namespace Sj
open PySem L2 Sup
open NdefX (NF NScope ncx envF startF nscope_by)
open C8 (pss_cut tCut)
abbrev sLeg (i : Nat) : Stmt := inClass (top 9) i
abbrev sDrv (i : Nat) : Stmt := inClass (top 10) i
abbrev sLis (i : Nat) : Stmt := inClass (top 11) i
/-- a leg of the class at C with the name z stands at a -/
def LegAt (H : Hp) (a C : Addr) (z : Str) : Prop := ∃ dx, H a = some (.ins C dx (legF z))
theorem LegAt.same {H H' : Hp} {a C : Addr} {z : Str} (h : LegAt H a C z) (s : Same H H') : LegAt H' a C z := h.imp fun _ e => s _ _ e
def spDr (C : Addr) (b : Bool) : Sp := fun vs H Q _ => ∃ a z, vs = [.ref a] ∧ LegAt H a C z ∧ Q (.bl b) H
/-- the facts of a class that isinstance asks -/
structure IsiC (K : PySem.W.Frag) (C : Addr) : Prop where
  cl : Cls K C
  ca : PySem.W.findIn K (.ref C) "__class__" = some (some (.builtin "object.__class__"))
  cn : PySem.W.specialIn K (.builtin "object.__class__") "__get__" = some (some (.builtin "getset_descriptor.__get__"))
  ct : PySem.W.takesIn K (.builtin "object.__class__") = some true
  cm : PySem.W.mroIn K C (.type "object") = some true
theorem LegAt.ty {K : PySem.W.Frag} {H : Hp} {a C : Addr} {z : Str} (h : LegAt H a C z) (c : IsiC K C) : TyX K H (.ref a) (.ref C) := by
  obtain ⟨dx, e⟩ := h
  exact .base (.ins e c.cl c.ca c.cn c.ct c.cm)
/-- C's __eq__: a leg of the class at C itself, or a value that is no C -/
def spEq (K : PySem.W.Frag) (C : Addr) : Sp := fun vs H Q _ => ∃ a z y, vs = [.ref a, y] ∧ LegAt H a C z ∧
  ((∃ b z', y = .ref b ∧ LegAt H b C z' ∧ Q (.bl (decide (z = z'))) H) ∨ ∃ t, TyX K H y t ∧ PySem.W.kitOne K t (.ref C) = some false ∧ Q (.bl false) H)
def spStr (C : Addr) (pre post : Str) : Sp := fun vs H Q _ => ∃ a z, vs = [.ref a] ∧ LegAt H a C z ∧ z.length ≤ 1000 ∧ Q (.str (pre ++ z ++ post)) H
def spStr1 (C : Addr) (pre : Str) : Sp := fun vs H Q _ => ∃ a z, vs = [.ref a] ∧ LegAt H a C z ∧ z.length ≤ 1000 ∧ Q (.str (pre ++ z)) H
structure EqT (K : PySem.W.Frag) (mg : Str → Option Value) (C : Addr) (nm : Str) : Prop where
  isi : mg "isinstance" = none
  mC : mg nm = some (.ref C)
  ic : IsiC K C
  self : PySem.W.kitOne K (.ref C) (.ref C) = some true
  nN : NoAttr K C "name"
section
variable {P : Program} {w : World} {K : PySem.W.Frag} {mg : Str → Option Value} {base : Heap}
theorem scS1 {st : Stmt} (h : defScope st = defScope (sLeg 2)) : FnScope ["self"] ["self"] (defScope st) := by
  rw [h]
  exact ⟨rfl, rfl, rfl, by decide +kernel, rfl, by decide +kernel, by decide +kernel⟩
theorem ok_drives {f C : Addr} {fd : FuncData} {st : Stmt} {q : Str} {b : Bool} {p1 p2 : Pos} {i1 : Nat} (F : Fun K "drives" q st f fd) (hs : defScope st = defScope (sLeg 2)) (hb : defBody st = [.Return (some (.Constant (.bool b) i1 p1)) p2]) :
    FnOk P w K mg base CX0 1 f fd ["self"] (spDr C b) := by
  refine F.ok (scS1 hs) (fun vs H Q E h => ?_) (fun cdv A outer s H vs Q E hr h => ?_)
  · obtain ⟨a, z, rfl, _⟩ := h
    rfl
  · obtain ⟨a, z, rfl, _, k⟩ := h
    rw [hb]
    exact ⟨_, pss_one (ps_ret pe_bl), k⟩
theorem scEqL : FnScope ["self", "other"] ["self", "other"] (defScope (sLeg 3)) := ⟨rfl, rfl, rfl, by decide +kernel, rfl, by decide +kernel, by decide +kernel⟩
theorem scEqD : FnScope ["self", "other"] ["self", "other"] (defScope (sDrv 3)) := ⟨rfl, rfl, rfl, by decide +kernel, rfl, by decide +kernel, by decide +kernel⟩
theorem scEqI : FnScope ["self", "other"] ["self", "other"] (defScope (sLis 3)) := ⟨rfl, rfl, rfl, by decide +kernel, rfl, by decide +kernel, by decide +kernel⟩
theorem str_eq (z z' : Str) : decide (V.str z = V.str z') = decide (z = z') := by
  by_cases h : z = z'
  · rw [decide_eq_true h, h]; exact decide_eq_true rfl
  · rw [decide_eq_false h]; exact decide_eq_false fun e => h (V.str.inj e)
theorem ok_eqD {f C : Addr} {fd : FuncData} (F : Fun K "__eq__" "Driver.__eq__" (sDrv 3) f fd) (T : EqT K mg C "Driver") : FnOk P w K mg base CX0 1 f fd ["self", "other"] (spEq K C) := by
  refine F.ok scEqD (fun vs H Q E h => ?_) (fun cdv A outer s H vs Q E hr h => ?_)
  · obtain ⟨a, z, y, rfl, _⟩ := h
    rfl
  · obtain ⟨a, z, y, rfl, ha, h⟩ := h
    refine ⟨_, pss_one (ps_ret (pe_and (pe_callB call_isi (by rfl) T.isi (by decide +kernel) (pa_cons (pv 1) (pa_cons (pe_glob rfl T.mC (v := .ref C) rfl) pa_nil)))
      (pe_one (pe_cmpR op_eq (pe_fld (pv 0) rfl) (pe_fld (pv 1) rfl) (nomark _))))), ?_⟩
    rcases h with ⟨b, z', rfl, hb, k⟩ | ⟨t, ht, hk, k⟩
    · obtain ⟨dx, ea⟩ := id ha
      obtain ⟨dy, eb⟩ := id hb
      refine ⟨_, rfl, _, _, .ref C, .ref C, true, rfl, .own _, hb.ty T.ic, T.self, _, rfl, iteT ?_⟩
      refine ⟨_, rfl, a, C, dx, _, _, rfl, ea, T.ic.cl, T.nN, legF_name _, _, rfl, b, C, dy, _, _, rfl, eb, T.ic.cl, T.nN, legF_name _, rfl, ?_⟩
      show Q (.bl (decide (V.str z = V.str z'))) H
      rw [str_eq]
      exact k
    · exact ⟨_, rfl, _, _, t, .ref C, false, rfl, .own _, ht, hk, _, rfl, iteF k⟩
theorem ok_eqI {f C : Addr} {fd : FuncData} (F : Fun K "__eq__" "Listener.__eq__" (sLis 3) f fd) (T : EqT K mg C "Listener") : FnOk P w K mg base CX0 1 f fd ["self", "other"] (spEq K C) := by
  refine F.ok scEqI (fun vs H Q E h => ?_) (fun cdv A outer s H vs Q E hr h => ?_)
  · obtain ⟨a, z, y, rfl, _⟩ := h
    rfl
  · obtain ⟨a, z, y, rfl, ha, h⟩ := h
    refine ⟨_, pss_one (ps_ret (pe_and (pe_callB call_isi (by rfl) T.isi (by decide +kernel) (pa_cons (pv 1) (pa_cons (pe_glob rfl T.mC (v := .ref C) rfl) pa_nil)))
      (pe_one (pe_cmpR op_eq (pe_fld (pv 0) rfl) (pe_fld (pv 1) rfl) (nomark _))))), ?_⟩
    rcases h with ⟨b, z', rfl, hb, k⟩ | ⟨t, ht, hk, k⟩
    · obtain ⟨dx, ea⟩ := id ha
      obtain ⟨dy, eb⟩ := id hb
      refine ⟨_, rfl, _, _, .ref C, .ref C, true, rfl, .own _, hb.ty T.ic, T.self, _, rfl, iteT ?_⟩
      refine ⟨_, rfl, a, C, dx, _, _, rfl, ea, T.ic.cl, T.nN, legF_name _, _, rfl, b, C, dy, _, _, rfl, eb, T.ic.cl, T.nN, legF_name _, rfl, ?_⟩
      show Q (.bl (decide (V.str z = V.str z'))) H
      rw [str_eq]
      exact k
    · exact ⟨_, rfl, _, _, t, .ref C, false, rfl, .own _, ht, hk, _, rfl, iteF k⟩
theorem ok_eqL {f C : Addr} {fd : FuncData} {uK : Value} (F : Fun K "__eq__" "Leg.__eq__" (sLeg 3) f fd) (T : EqT K mg C "Leg") (hK : Con K C "KIND" (.str "leg") uK) : FnOk P w K mg base CX0 1 f fd ["self", "other"] (spEq K C) := by
  refine F.ok scEqL (fun vs H Q E h => ?_) (fun cdv A outer s H vs Q E hr h => ?_)
  · obtain ⟨a, z, y, rfl, _⟩ := h
    rfl
  · obtain ⟨a, z, y, rfl, ha, h⟩ := h
    refine ⟨_, pss_one (ps_ret (pe_and (pe_callB call_isi (by rfl) T.isi (by decide +kernel) (pa_cons (pv 1) (pa_cons (pe_glob rfl T.mC (v := .ref C) rfl) pa_nil)))
      (pe_and (pe_cmpR op_eq (pe_con (pv 0) rfl) (pe_con (pv 1) rfl) (nomark _)) (pe_one (pe_cmpR op_eq (pe_fld (pv 0) rfl) (pe_fld (pv 1) rfl) (nomark _)))))), ?_⟩
    rcases h with ⟨b, z', rfl, hb, k⟩ | ⟨t, ht, hk, k⟩
    · obtain ⟨dx, ea⟩ := id ha
      obtain ⟨dy, eb⟩ := id hb
      have nk : (legF z).lookup ("KIND" : Str) = none := legF_no _ (by decide +kernel)
      have nk' : (legF z').lookup ("KIND" : Str) = none := legF_no _ (by decide +kernel)
      refine ⟨_, rfl, _, _, .ref C, .ref C, true, rfl, .own _, hb.ty T.ic, T.self, _, rfl, iteT ?_⟩
      refine ⟨_, rfl, a, C, dx, _, _, _, rfl, ea, T.ic.cl, hK, nk, _, rfl, b, C, dy, _, _, _, rfl, eb, T.ic.cl, hK, nk', rfl, _, rfl, ?_⟩
      rw [show decide (V.str "leg" = V.str "leg") = true from decide_eq_true rfl]
      refine iteT ⟨_, rfl, a, C, dx, _, _, rfl, ea, T.ic.cl, T.nN, legF_name _, _, rfl, b, C, dy, _, _, rfl, eb, T.ic.cl, T.nN, legF_name _, rfl, ?_⟩
      show Q (.bl (decide (V.str z = V.str z'))) H
      rw [str_eq]
      exact k
    · exact ⟨_, rfl, _, _, t, .ref C, false, rfl, .own _, ht, hk, _, rfl, iteF k⟩
end
end Sj
namespace Sj
open PySem L2 Sup
open NdefX (NF NScope ncx envF startF nscope_by)
open C8 (pss_cut tCut)
section
variable {P : Program} {w : World} {K : PySem.W.Frag} {mg : Str → Option Value} {base : Heap}
/-- f'PRE{self.name}' -/
theorem ok_str1 {f C : Addr} {fd : FuncData} {st : Stmt} {nm q : Str} {pre : Str} {j : Nat} {p1 p2 p3 p4 p5 p6 : Pos} (F : Fun K nm q st f fd) (hs : defScope st = defScope (sLeg 2))
    (hb : defBody st = [.Return (some (.JoinedStr [.Constant (.str pre) j p1, .FormattedValue (.Attribute (.Name "self" p2) "name" p3) (-1) none p4] p5)) p6])
    (hp : pre.length ≤ 100) (c : Cls K C) (n : NoAttr K C "name") : FnOk P w K mg base CX0 1 f fd ["self"] (spStr1 C (Str.empty ++ pre)) := by
  refine F.ok (scS1 hs) (fun vs H Q E h => ?_) (fun cdv A outer s H vs Q E hr h => ?_)
  · obtain ⟨a, z, rfl, _⟩ := h
    rfl
  · obtain ⟨a, z, rfl, ⟨dx, ea⟩, hz, k⟩ := h
    rw [hb]
    refine ⟨_, pss_one (ps_ret (pe_joined (.cons pe_str (.cons (pe_fmt (pe_fld (pv 0 (hN := rfl) (hv := Or.inl (by show (defScope st).names.lookup _ = _; rw [hs]; rfl))) rfl)) .nil)))), ?_⟩
    have l0 : (Str.empty ++ pre).length = pre.length := by rw [strLen]; exact Nat.zero_add _
    refine ⟨_, rfl, ?_, _, rfl, a, C, dx, _, _, rfl, ea, c, n, legF_name _, .inl ⟨z, rfl, Nat.le_trans hz (by decide), _, rfl, ?_, k⟩⟩
    · rw [l0]; exact Nat.le_trans hp (by decide)
    · rw [strLen, l0]; exact Nat.le_trans (Nat.add_le_add hp hz) (by decide)
/-- f'PRE{self.name}POST' -/
theorem ok_str2 {f C : Addr} {fd : FuncData} {st : Stmt} {nm q : Str} {pre post : Str} {j j2 : Nat} {p1 p2 p3 p4 p5 p6 p7 : Pos} (F : Fun K nm q st f fd) (hs : defScope st = defScope (sLeg 2))
    (hb : defBody st = [.Return (some (.JoinedStr [.Constant (.str pre) j p1, .FormattedValue (.Attribute (.Name "self" p2) "name" p3) (-1) none p4, .Constant (.str post) j2 p7] p5)) p6])
    (hp : pre.length ≤ 100) (hq : post.length ≤ 100) (c : Cls K C) (n : NoAttr K C "name") : FnOk P w K mg base CX0 1 f fd ["self"] (spStr C (Str.empty ++ pre) post) := by
  refine F.ok (scS1 hs) (fun vs H Q E h => ?_) (fun cdv A outer s H vs Q E hr h => ?_)
  · obtain ⟨a, z, rfl, _⟩ := h
    rfl
  · obtain ⟨a, z, rfl, ⟨dx, ea⟩, hz, k⟩ := h
    rw [hb]
    refine ⟨_, pss_one (ps_ret (pe_joined (.cons pe_str (.cons (pe_fmt (pe_fld (pv 0 (hN := rfl) (hv := Or.inl (by show (defScope st).names.lookup _ = _; rw [hs]; rfl))) rfl)) (.cons pe_str .nil))))), ?_⟩
    have l0 : (Str.empty ++ pre).length = pre.length := by rw [strLen]; exact Nat.zero_add _
    refine ⟨_, rfl, ?_, _, rfl, a, C, dx, _, _, rfl, ea, c, n, legF_name _, .inl ⟨z, rfl, Nat.le_trans hz (by decide), _, rfl, ?_, _, rfl, ?_, k⟩⟩
    · rw [l0]; exact Nat.le_trans hp (by decide)
    · rw [strLen, l0]; exact Nat.le_trans (Nat.add_le_add hp hz) (by decide)
    · rw [strLen, strLen, l0]; exact Nat.le_trans (Nat.add_le_add (Nat.add_le_add hp hz) hq) (by decide)
end
end Sj
namespace Sj
open PySem L2 Sup
open NdefX (NF NScope ncx envF startF nscope_by)
open C8 (pss_cut tCut)
abbrev sTags : Stmt := top 16
def poolA : List Str := ["a", "frame", "b", "rest", "self", "c", "zzzzzzzz", "word", "d"]
def poolB : List Str := ["e", "reads", "leg", "x", "grounds", "q", "cls"]
def poolS : List Str := poolA ++ poolB
def spTags : Sp := fun vs H Q _ => ∃ (p l : Addr) (cs : List Int) (n m : Nat), vs = [.ref p, .int m] ∧ Pen H p l cs n ∧ m ≤ 16 ∧ n < 100000 ∧
  ∀ (H' : Hp) (q : Addr) (xs rest : List Str), H q = none → H' q = some (.lst (xs.map V.str)) → xs.length = m → (xs ++ rest).Perm poolS → Pen H' p l cs (n + m) → But H H' p → Q (.ref q) H'
section
variable {P : Program} {w : World} {K : PySem.W.Frag} {mg : Str → Option Value} {base : Heap}
theorem scTags : FnScope ["_law_pen_here", "_law_many", "_law_pool", "_law_turn"] ["_law_pen_here", "_law_many"] (defScope sTags) := ⟨rfl, rfl, rfl, by decide +kernel, rfl, by decide +kernel, by decide +kernel⟩
theorem map_erase {α β : Type} (f : α → β) : ∀ (xs : List α) (k : Nat), (xs.map f).eraseIdx k = (xs.eraseIdx k).map f
  | [], _ => by simp
  | x :: xs, 0 => rfl
  | x :: xs, k + 1 => by
    show f x :: (xs.map f).eraseIdx k = f x :: (xs.eraseIdx k).map f
    rw [map_erase f xs k]
theorem perm_erase {α : Type} : ∀ (xs : List α) (k : Nat) (h : k < xs.length), ([xs[k]] ++ xs.eraseIdx k).Perm xs
  | x :: xs, 0, _ => List.Perm.refl _
  | x :: xs, k + 1, h => by
    have hk : k < xs.length := Nat.lt_of_succ_lt_succ h
    have q := perm_erase xs k hk
    exact (List.Perm.swap x xs[k] (xs.eraseIdx k)).trans (List.Perm.cons x q)
theorem Pen.same {H H' : Hp} {p l : Addr} {cs : List Int} {n : Nat} (h : Pen H p l cs n) (s : Same H H') : Pen H' p l cs n := by
  obtain ⟨i, g, h1, h2, h3⟩ := h
  exact ⟨i, g, s _ _ h1, s _ _ h2, h3⟩
/-- the reading of _law_pool.pop(_law_draw(_law_pen_here, len(_law_pool))) -/
def rLenQ (K : PySem.W.Frag) : List V → Hp → VK → Prop := fun xs H Q => ∃ p ys, xs = [.ref p] ∧ (SqL K H p ys ∨ SqT K H p ys) ∧ Q (.int ys.length) H
def rPopQ : V → List V → Hp → VK → Prop := fun x ys H Q => ∃ l xs i k y, x = .ref l ∧ ys = [.int i] ∧ H l = some (.lst xs) ∧ -(2 ^ 63) ≤ i ∧ i < 2 ^ 63 ∧ seqIndex? i xs.length = some k ∧ xs[k]? = some y ∧ Q y (upd H l (.lst (xs.eraseIdx k)))
def tePop (K : PySem.W.Frag) : TE := tBM K "list" rPopQ (tVar 2) (tCons (tCall spDraw [] E0 (tCons (tVar 0) (tCons (tCB (rLenQ K) (tCons (tVar 2) tNil)) tNil))) tNil)
theorem ok_tags {f fD : Addr} {fd fdD : FuncData} (F : Fun K "_law_tags" "_law_tags" sTags f fd) (B : Bi mg) (mR : mg "range" = none) (FD : Fun K "_law_draw" "_law_draw" sDraw fD fdD) (bD : Binds K fdD ["_law_pen_here", "_law_many"] []) (mD : mg "_law_draw" = some (.ref fD)) :
    FnOk P w K mg base CX0 2 f fd ["_law_pen_here", "_law_many"] spTags := by
  have GD : FnOk P w K mg base CX0 1 fD fdD ["_law_pen_here", "_law_many"] spDraw := ok_draw FD B
  refine F.ok scTags (fun vs H Q E h => ?_) (fun cdv A outer s H vs Q E hr h => ?_)
  · obtain ⟨p, l, cs, n, m, rfl, _⟩ := h
    rfl
  · obtain ⟨p, l, cs, n, m, rfl, hP, hm, hn, k⟩ := h
    refine ⟨_, pss_cons (ps_set (i := 2) scTags.nd rfl (Or.inr rfl) (pe_lst (pa_cons pe_str (pa_cons pe_str (pa_cons pe_str (pa_cons pe_str (pa_cons pe_str (pa_cons pe_str (pa_cons pe_str (pa_cons pe_str (pa_cons pe_str pa_nil)))))))))))
      (pss_cons (ps_set (i := 2) scTags.nd rfl (Or.inr rfl) (pe_op op_cat (pv 2) (pe_lst (pa_cons pe_str (pa_cons pe_str (pa_cons pe_str (pa_cons pe_str (pa_cons pe_str (pa_cons pe_str (pa_cons pe_str pa_nil))))))))))
      (pss_one (ps_ret (pe_lc (te := tePop K) (own := [("_law_turn", 3)]) (g := gName 3) (tt := tYes) rfl scTags.nd (pi_range1 rfl mR (pa_cons (pv 1) pa_nil))
        (blkOk_by (N := ["_law_pen_here", "_law_many", "_law_pool", "_law_turn"]) (sc := defScope sTags) (by decide +kernel)) (fun _ _ _ _ _ => pg_name (i := 3) scTags.nd rfl (Or.inl rfl)) (fun _ _ _ _ _ => pts_nil)
        (fun s0 H0 C0 cl0 fp0 => by
          refine pe_bm PySem.F.plainAttrs_list PySem.F.slot_list_pop PySem.F.type_list_pop mt_popAt ?o ?a
          case o => exact pv 2
          case a =>
            refine pa_cons ?b pa_nil
            refine pe_call GD hr ?g mD FD.kp bD .nil pass0 ?c
            case g => rfl
            case c => exact pa_cons (pv 0) (pa_cons (pe_callB call_len_seq (by rfl) B.len PySem.boot_len (pa_cons (pv 2) pa_nil)) pa_nil)))))), ?_⟩
    refine ⟨(by show 9 ≤ sizeLine; decide), fun q1 h1 => ?_⟩
    refine ⟨_, rfl, (by show 7 ≤ sizeLine; decide), fun q2 h2 => ?_⟩
    have n12 : q1 ≠ q2 := ne_of_none upd_same h2
    refine ⟨q1, q2, _, _, rfl, rfl, (by rw [upd_ne n12]; exact upd_same), upd_same, (by show 9 + 7 ≤ sizeLine; decide), fun q3 h3 => ?_⟩
    have hHq1 : H q1 = none := h1
    have hHq2 : H q2 = none := by rw [upd_ne n12.symm] at h2; exact h2
    have n23 : q2 ≠ q3 := ne_of_none upd_same h3
    have n13 : q1 ≠ q3 := ne_of_none (by rw [upd_ne n12]; exact upd_same) h3
    have hHq3 : H q3 = none := by rw [upd_ne n23.symm, upd_ne n13.symm] at h3; exact h3
    have s3 : Same H (upd (upd (upd H q1 (.lst (poolA.map V.str))) q2 (.lst (poolB.map V.str))) q3 (.lst (poolS.map V.str))) := fun b o e => by
      rw [upd_ne (ne_of_none e hHq3), upd_ne (ne_of_none e hHq2), upd_ne (ne_of_none e hHq1)]
      exact e
    have key : ∀ D, upd (upd (upd H q1 (.lst (poolA.map V.str))) q2 (.lst (poolB.map V.str))) q3 (.lst (poolS.map V.str)) D = none → upd (upd (upd H q1 (.lst (poolA.map V.str))) q2 (.lst (poolB.map V.str))) q3 (.lst (poolS.map V.str)) D = none := fun _ z => z
    obtain ⟨i0', g0', hp0, hl0, hz0, hi0, hi1⟩ := id hP
    refine ⟨_, rfl, m, rfl, by omega, by omega, fun D hD0 => have hD := key D hD0; lc_range (n := m) (fun i H' => ∃ xs rest : List Str, xs.length = i ∧ (xs ++ rest).Perm poolS ∧ H' q3 = some (.lst (rest.map V.str)) ∧ H' D = some (.lst (xs.map V.str)) ∧ Pen H' p l cs (n + i) ∧ But H H' p) ?_ ?_ ?_⟩
    · have n3D : q3 ≠ D := ne_of_none upd_same hD
      have s4 : Same H (upd (upd (upd (upd H q1 (.lst (poolA.map V.str))) q2 (.lst (poolB.map V.str))) q3 (.lst (poolS.map V.str))) D (.lst [])) := fun b o e => by
        rw [upd_ne (ne_of_none (s3 _ _ e) hD)]
        exact s3 _ _ e
      exact ⟨[], poolS, rfl, List.Perm.refl _, Eq.trans (upd_ne n3D) upd_same, upd_same, hP.same s4, fun b o _ e => s4 _ _ e⟩
    · rintro i H' hi ⟨xs, rest, hx, hperm, hq, hD', hP', hB⟩
      have hlen : xs.length + rest.length = 16 := by
        have q := hperm.length_eq
        rw [List.length_append] at q
        exact q
      have n3p : q3 ≠ p := fun e => by rw [e, hp0] at hHq3; cases hHq3
      have nDp : D ≠ p := fun e => by rw [e, s3 _ _ hp0] at hD; cases hD
      have nD3 : D ≠ q3 := fun e => by rw [e, upd_same] at hD; cases hD
      refine ⟨rfl, ?_⟩
      unfold tYes
      dsimp only
      rw [if_pos rfl]
      refine ⟨_, rfl, .inl ⟨rfl, _, SqL.of hq⟩, _, rfl, _, rfl, q3, _, rfl, .inl (SqL.of hq), p, l, cs, n + i, _, rfl, hP', ?_, ?_, by omega, fun d iz g H2 d0 d1 i0 i1 hp2 b2 => ?_⟩
      · rw [List.length_map]; omega
      · rw [List.length_map]; omega
      · rw [List.length_map] at d1
        have hq2 : H2 q3 = some (.lst (rest.map V.str)) := b2 _ _ n3p hq
        have hD2 : H2 D = some (.lst (xs.map V.str)) := b2 _ _ nDp hD'
        have hk : d.toNat < rest.length := by omega
        refine ⟨q3, rest.map V.str, d, d.toNat, .str rest[d.toNat], rfl, rfl, hq2, by omega, by omega, seqIndex_of d0 (by rw [List.length_map]; omega), by simp [hk], xs.map V.str, ?_, ?_, ?_⟩
        · exact Eq.trans (upd_ne nD3) hD2
        · rw [List.length_map]; exact Nat.lt_of_le_of_lt (show xs.length ≤ 16 by omega) (by decide)
        · refine ⟨xs ++ [rest[d.toNat]], rest.eraseIdx d.toNat, by rw [List.length_append, hx]; rfl, ?_, ?_, ?_, ?_, ?_⟩
          · refine List.Perm.trans ?_ hperm
            rw [List.append_assoc]
            exact List.Perm.append_left _ (perm_erase rest _ hk)
          · rw [upd_ne nD3.symm, upd_same]
            congr 2
            exact (map_erase V.str rest d.toNat)
          · rw [upd_same, List.map_append]
            rfl
          · have hl' : ∃ i g, H' p = some (penO l i g) ∧ H' l = some (.lst (cs.map V.int)) := by
              obtain ⟨a, b, c, d, _⟩ := hP'
              exact ⟨a, b, c, d⟩
            obtain ⟨ia, ga, hpa, hla⟩ := hl'
            have n3l : q3 ≠ l := fun e => by rw [e, hl0] at hHq3; cases hHq3
            have nDl : D ≠ l := fun e => by rw [e, s3 _ _ hl0] at hD; cases hD
            have npl : l ≠ p := fun e => by
              subst e
              rw [hp0] at hl0
              have z := List.map_eq_cons_iff.mp (HO.lst.inj (Option.some.inj hl0)).symm
              obtain ⟨_, _, _, w1, _⟩ := z
              cases w1
            refine ⟨iz, g, ?_, ?_, hz0, i0, by omega⟩
            · rw [upd_ne nDp.symm, upd_ne n3p.symm]; exact hp2
            · rw [upd_ne nDl.symm, upd_ne n3l.symm]; exact b2 _ _ npl hla
          · intro b o hb e
            have e1 := hB b o hb e
            have nb3 : b ≠ q3 := ne_of_none e hHq3
            have nbD : b ≠ D := fun z => by rw [z] at e; rw [s3 _ _ e] at hD; cases hD
            rw [upd_ne nbD, upd_ne nb3]
            exact b2 _ _ hb e1
    · rintro H' ⟨xs, rest, hx, hperm, hq, hD', hP', hB⟩
      have hHD : H D = none := by
        cases e : H D with
        | none => rfl
        | some o => rw [s3 _ _ e] at hD; cases hD
      exact k H' D xs rest hHD hD' hx hperm hP' hB
end
end Sj
namespace Sj
open PySem L2 Sup
open NdefX (NF NScope ncx envF startF nscope_by)
open C8 (pss_cut tCut)
def WLen (n : Nat) (W : WX) : XK := fun cls d H => ∀ σ : L2.St, σ.length = n → W cls d σ H
theorem passesLen {X : Cx} {W : WX} {n : Nat} (hn : X.N.length = n) (tk : Takes X W) : Passes (L2.CX X.prog X.w) X (WLen n W) :=
  fun _ σ _ _ e s' I c => tk e s' (XE.of_call I (fun cls d H' h => h σ (I.len.trans hn)) c)
abbrev sMade : Stmt := top 17
/-- the three kinds: the word, its class -/
structure Kinds where
  drv : Addr
  lis : Addr
  leg : Addr
def Kinds.of (k : Kinds) (z : Str) (C : Addr) : Prop := (z = "driver" ∧ C = k.drv) ∨ (z = "listener" ∧ C = k.lis) ∨ (z = "leg" ∧ C = k.leg)
/-- a class's making, by place and by name -/
structure MkC (P : Program) (w : World) (K : PySem.W.Frag) (mg : Str → Option Value) (base : Heap) (CI C : Addr) (nm : Str) : Prop where
  ex : ∃ (f : Addr) (fd : FuncData), Mk K C f ∧ FnOk P w K mg base (L2.CX P w) 4 f fd ["self", "name"] (spLegI K CI C) ∧ Binds K fd ["self", "name"] [] ∧ KBn K fd ["self", "name"] 1 ["name"] (fun us ws => us ++ ws) (fun vs zs => vs ++ zs)
  mg : mg nm = some (.ref C)
structure MadeT (P : Program) (w : World) (K : PySem.W.Frag) (mg : Str → Option Value) (base : Heap) (k : Kinds) (CI : Addr) : Prop where
  d : MkC P w K mg base CI k.drv "Driver"
  i : MkC P w K mg base CI k.lis "Listener"
  l : MkC P w K mg base CI k.leg "Leg"
  mI : mg "InvalidFrame" = some (.ref CI)
  ex : PySem.W.exmOne K (.ref CI) (.ref CI) = some true
  xf : XfC K CI
  no : PySem.W.findIn K (.ref CI) "reason" = some none
def spMade (K : PySem.W.Frag) (k : Kinds) : Sp := fun vs H Q _ => ∃ (kz : Str) (C : Addr) (x : V), vs = [.str kz, x] ∧ k.of kz C ∧
  ((∃ z : Str, x = .str z ∧ z.length ≤ 1000 ∧ (isName z = true → ∀ a H', H a = none → LegAt H' a C z → Same H H' → Q (.ref a) H') ∧
      (isName z = false → ∀ t H', H t = none → H' t = some (.tup [.str "name"]) → Same H H' → Q (.ref t) H')) ∨
   ∃ t : String, TyX K H x (.type t) ∧ kitB t "str" = some false ∧ (∀ H', Same H H' → TyX K H' x (.type t)) ∧ ∀ t H', H t = none → H' t = some (.tup [.str "name"]) → Same H H' → Q (.ref t) H')
theorem lookup1 (f : Str) (v : V) : ([(f, v)] : List (Str × V)).lookup f = some v := by
  rw [List.lookup_cons, beq_self_eq_true]
section
variable {P : Program} {w : World} {K : PySem.W.Frag} {mg : Str → Option Value} {base : Heap}
theorem scMade : FnScope ["_law_kind", "_law_tag", "error"] ["_law_kind", "_law_tag"] (defScope sMade) := ⟨rfl, rfl, rfl, by decide +kernel, rfl, by decide +kernel, by decide +kernel⟩
theorem ok_made {f CI : Addr} {fd : FuncData} {ks : Kinds} (F : Fun K "_law_made" "_law_made" sMade f fd) (T : MadeT P w K mg base ks CI) : FnOk P w K mg base CX0 6 f fd ["_law_kind", "_law_tag"] (spMade K ks) := by
  obtain ⟨⟨fD, fdD, MD, GD, bD, kD⟩, mD⟩ := T.d
  obtain ⟨⟨fI, fdI, MI, GI, bI, kI⟩, mI⟩ := T.i
  obtain ⟨⟨fL, fdL, ML, GL, bL, kL⟩, mL⟩ := T.l
  refine F.ok scMade (fun vs H Q E h => ?_) (fun cdv A outer s H vs Q E hr h => ?_)
  · obtain ⟨kz, C, x, rfl, _⟩ := h
    rfl
  · obtain ⟨kz, C, x, rfl, hk, h⟩ := h
    refine ⟨_, pss_one (ps_try_as (i := 2) rfl rfl scMade.nd rfl rfl (c := .ref CI) ⟨rfl, by decide, .inl T.mI⟩ takes0
      (fun W pn xe tk _ => pss_cons (ps_if (pt_cmpR op_eq (pv 0) pe_str (nomark _)) (pss_one (ps_ret (pe_makeK0 MD GD hr rfl mD kD (passesLen (n := 3) rfl tk) (pk_cons (pv 1) pk_nil)))) pss_nil)
        (pss_one (ps_ret (pe_ifExp (pt_cmpR op_eq (pv 0) pe_str (nomark _)) (pe_makeK0 MI GI hr rfl mI kI (passesLen (n := 3) rfl tk) (pk_cons (pv 1) pk_nil)) (pe_makeK0 ML GL hr rfl mL kL (passesLen (n := 3) rfl tk) (pk_cons (pv 1) pk_nil))))))
      (fun a oe cls d pn hz hf => pss_one (ps_ret (pe_tup (pa_cons (pe_xf T.xf T.no hz hf (pv 2)) pa_nil))))), ?_⟩
    have err : ∀ (dd : Addr) (H1 : Hp), Same H H1 → H1 dd = some (.xd [("reason", .str "name")]) → (∀ t H', H t = none → H' t = some (.tup [.str "name"]) → Same H H' → Q (.ref t) H') →
        WLen 3 (wAs K (.ref CI) 2 (fun a cls d => tRet (tTup (tCons (tXf a cls d CI "reason" (tVar 2)) tNil))) (fun _ _ _ _ => False) { nx := fun _ H' => Q .non H', rt := Q }) (.ref CI) (some dd) H1 := by
      intro dd H1 s1 hd k σ hσ
      refine ⟨true, T.ex, fun _ a ha => ?_, fun e => nomatch e⟩
      have h2 : (σ.set 2 (some (V.ref a)))[2]? = some (some (V.ref a)) := by simp [hσ]
      refine ⟨_, h2, rfl, rfl, dd, _, .str "name", rfl, hd, lookup1 _ _, by show 1 ≤ sizeLine; decide, fun t ht => ?_⟩
      exact k t _ (s1.free ht) upd_same fun b o e => by rw [upd_ne (ne_of_none (s1 _ _ e) ht)]; exact s1 _ _ e
    have mk : tMakeK C 0 ["name"].length (spLegI K CI C) (fun vs zs => vs ++ zs) (WLen 3 (wAs K (.ref CI) 2 (fun a cls d => tRet (tTup (tCons (tXf a cls d CI "reason" (tVar 2)) tNil))) (fun _ _ _ _ => False) { nx := fun _ H' => Q .non H', rt := Q }))
        tNil (tCons (tVar 1) tNil) (start ["_law_kind", "_law_tag", "error"] [.str kz, x]) H Q := by
      refine ⟨_, rfl, rfl, rfl, fun a dx ha hdx hne => ?_⟩
      have s0 : Same H (upd (upd H dx (.own a)) a (.ins C dx [])) := fun b o e => by
        rw [upd_ne (ne_of_none e ha), upd_ne (ne_of_none e hdx)]
        exact e
      refine ⟨a, dx, x, rfl, upd_same, ?_⟩
      rcases h with ⟨z, rfl, hz, k1, k2⟩ | ⟨t, ht, hkt, hst, k2⟩
      · refine .inl ⟨z, rfl, hz, fun hn H' hp hb => ⟨rfl, k1 hn a H' ha ⟨dx, hp⟩ fun b o e => hb b o (ne_of_none e ha) (s0 _ _ e)⟩, fun hn d H' hE => err d H' (s0.trans hE.2.2) hE.2.1 (k2 hn)⟩
      · exact .inr ⟨t, hst _ s0, hkt, fun d H' hE => err d H' (s0.trans hE.2.2) hE.2.1 k2⟩
    have se : ∀ z : Str, decide (V.str kz = V.str z) = decide (kz = z) := fun z => str_eq kz z
    rcases hk with ⟨rfl, rfl⟩ | ⟨rfl, rfl⟩ | ⟨rfl, rfl⟩
    · refine ⟨_, rfl, rfl, _, rfl, ?_⟩
      rw [se, show decide (("driver" : Str) = "driver") = true from by decide +kernel]
      exact iteT mk
    · refine ⟨_, rfl, rfl, _, rfl, ?_⟩
      rw [se, show decide (("listener" : Str) = "driver") = false from by decide +kernel]
      refine iteF ⟨_, rfl, rfl, _, rfl, ?_⟩
      rw [se, show decide (("listener" : Str) = "listener") = true from by decide +kernel]
      exact iteT mk
    · refine ⟨_, rfl, rfl, _, rfl, ?_⟩
      rw [se, show decide (("leg" : Str) = "driver") = false from by decide +kernel]
      refine iteF ⟨_, rfl, rfl, _, rfl, ?_⟩
      rw [se, show decide (("leg" : Str) = "listener") = false from by decide +kernel]
      exact iteF mk
end
end Sj
namespace Sj
open PySem L2 Sup
open NdefX (NF NScope ncx envF startF nscope_by)
open C8 (pss_cut tCut)
abbrev sTold : Stmt := top 18
def faceOf (kz : Str) : Str := if kz = "driver" then "Driver" else if kz = "listener" then "Listener" else "Leg"
/-- what the law asks of a leg's class C, kz its word -/
structure KdC (P : Program) (w : World) (K : PySem.W.Frag) (mg : Str → Option Value) (base : Heap) (ks : Kinds) (kz : Str) (C : Addr) : Prop where
  ic : IsiC K C
  nN : NoAttr K C "name"
  kind : ∃ u, Con K C "KIND" (.str kz) u
  drv : ∃ p g fd, PropOf K C "drives" p g ∧ FnOk P w K mg base CX0 1 g fd ["self"] (spDr C (decide (kz = "driver"))) ∧ Binds K fd ["self"] []
  str : ∃ g fd, PySem.W.findIn K (.ref C) "__str__" = some (some (.ref g)) ∧ PySem.W.isFn K (.ref g) = true ∧ FnOk P w K mg base CX0 1 g fd ["self"] (spStr1 C (kz ++ " ")) ∧ Binds K fd ["self"] []
  repr : ∃ g fd, PySem.W.findIn K (.ref C) "__repr__" = some (some (.ref g)) ∧ PySem.W.isFn K (.ref g) = true ∧ FnOk P w K mg base CX0 1 g fd ["self"] (spStr C (faceOf kz ++ "(") ")") ∧ Binds K fd ["self"] []
  isL : PySem.W.kitOne K (.ref C) (.ref ks.leg) = some true
  isD : PySem.W.kitOne K (.ref C) (.ref ks.drv) = some (decide (kz = "driver"))
  isI : PySem.W.kitOne K (.ref C) (.ref ks.lis) = some (decide (kz = "listener"))
structure ToldT (K : PySem.W.Frag) (mg : Str → Option Value) (ks : Kinds) : Prop where
  repr : mg "repr" = none
  str : mg "str" = none
  isi : mg "isinstance" = none
  mD : mg "Driver" = some (.ref ks.drv)
  mI : mg "Listener" = some (.ref ks.lis)
  mL : mg "Leg" = some (.ref ks.leg)
def spTold (ks : Kinds) : Sp := fun vs H Q _ => ∃ (kz z : Str) (C a : Addr), vs = [.str kz, .str z, .ref a] ∧ ks.of kz C ∧ LegAt H a C z ∧ z.length ≤ 1000 ∧ ∀ H', Same H H' → Q (.bl true) H'
def faceKv : List (Key × V) := [(Sum.inr "driver", .str "Driver"), (Sum.inr "listener", .str "Listener"), (Sum.inr "leg", .str "Leg")]
theorem ne_same (v : V) : (!decide (v = v)) = false := by
  rw [decide_eq_true rfl]
  rfl
section
variable {P : Program} {w : World} {K : PySem.W.Frag} {mg : Str → Option Value} {base : Heap}
theorem scTold : FnScope ["_law_kind", "_law_tag", "_law_leg", "_law_face", "_law_flags"] ["_law_kind", "_law_tag", "_law_leg"] (defScope sTold) := ⟨rfl, rfl, rfl, by decide +kernel, rfl, by decide +kernel, by decide +kernel⟩
theorem ok_told {f : Addr} {fd : FuncData} {ks : Kinds} (F : Fun K "_law_told_right" "_law_told_right" sTold f fd) (T : ToldT K mg ks) (KD : ∀ kz C, ks.of kz C → KdC P w K mg base ks kz C) : FnOk P w K mg base CX0 6 f fd ["_law_kind", "_law_tag", "_law_leg"] (spTold ks) := by
  refine F.ok scTold (fun vs H Q E h => ?_) (fun cdv A outer s H vs Q E hr h => ?_)
  · obtain ⟨kz, z, C, a, rfl, _⟩ := h
    rfl
  · obtain ⟨kz, z, C, a, rfl, hk, ⟨dx, ea⟩, hz, k⟩ := h
    have kd := KD kz C hk
    obtain ⟨u, hK⟩ := kd.kind
    obtain ⟨p, g, fdg, hP, GG, bG⟩ := kd.drv
    have hS : ∀ C', C' = C → StrC (cxOf CX0 P w K mg base ["_law_kind", "_law_tag", "_law_leg", "_law_face", "_law_flags"] "_law_told_right" (defScope sTold) f cdv A outer s H E).nox C' "__str__" (spStr1 C (kz ++ " ")) := by
      rintro C' rfl
      obtain ⟨g, fd, h1, h2, h3, h4⟩ := kd.str
      exact ⟨g, fd, 1, h1, h2, h3, hr.mono (by decide), h4⟩
    have hR : ∀ C', C' = C → StrC (cxOf CX0 P w K mg base ["_law_kind", "_law_tag", "_law_leg", "_law_face", "_law_flags"] "_law_told_right" (defScope sTold) f cdv A outer s H E).nox C' "__repr__" (spStr C (faceOf kz ++ "(") ")") := by
      rintro C' rfl
      obtain ⟨g, fd, h1, h2, h3, h4⟩ := kd.repr
      exact ⟨g, fd, 1, h1, h2, h3, hr.mono (by decide), h4⟩
    refine ⟨_, pss_cons (ps_if (PW.pt (pw_or (pt_cmpR op_ne (pe_fld (pv 2) rfl) (pv 1) (nomark _)) (pw_or (pt_cmpR op_ne (pe_con (pv 2) rfl) (pv 0) (nomark _))
          (pw_or1 (pt_cmpR op_ne (pe_callB call_repr_bool (by rfl) T.repr (by decide +kernel) (pa_cons (pe_prop (pv 2) kd.ic.cl hP GG (hr.mono (by decide)) bG .nil pass0 rfl) pa_nil))
            (pe_callB call_repr_bool (by rfl) T.repr (by decide +kernel) (pa_cons (pe_cmpR op_eq (pv 0) pe_str (nomark _)) pa_nil)) (nomark _))))))
        (pss_one (ps_ret pe_bl)) pss_nil)
      (pss_cons (ps_set (i := 3) scTold.nd rfl (Or.inl rfl) (pe_dget (hu_of hr) (pe_disp (pps_cons pe_str pe_str (pps_cons pe_str pe_str (pps_cons pe_str pe_str pps_nil))) rfl rfl (by simp) (by decide)) (pv 0) (fun _ _ => rfl)))
      (pss_cons (ps_if (PW.pt (pw_or (pt_cmpR op_ne (pe_callTy (call_strOwn hS) (by rfl) T.str (by decide +kernel) (pa_cons (pv 2) pa_nil)) (pe_op op_add_str (pe_op op_add_str (pv 0) pe_str) (pv 1)) (nomark _))
          (pw_or1 (pt_cmpR op_ne (pe_callB (call_reprOwn hR) (by rfl) T.repr (by decide +kernel) (pa_cons (pv 2) pa_nil)) (pe_op op_add_str (pe_op op_add_str (pe_op op_add_str (pv 3) pe_str) (pv 1)) pe_str) (nomark _)))))
        (pss_one (ps_ret pe_bl)) pss_nil)
      (pss_cons (ps_set (i := 4) scTold.nd rfl (Or.inl rfl) (pe_lst (pa_cons (pe_callB call_isi (by rfl) T.isi (by decide +kernel) (pa_cons (pv 2) (pa_cons (pe_glob rfl T.mL (v := .ref ks.leg) rfl) pa_nil)))
          (pa_cons (pe_callB call_isi (by rfl) T.isi (by decide +kernel) (pa_cons (pv 2) (pa_cons (pe_glob rfl T.mD (v := .ref ks.drv) rfl) pa_nil)))
          (pa_cons (pe_callB call_isi (by rfl) T.isi (by decide +kernel) (pa_cons (pv 2) (pa_cons (pe_glob rfl T.mI (v := .ref ks.lis) rfl) pa_nil))) pa_nil)))))
      (pss_one (ps_ret (pe_cmpR (op_eqD hr.units) (pv 4) (pe_lst (pa_cons pe_bl (pa_cons (pe_cmpR op_eq (pv 0) pe_str (nomark _)) (pa_cons (pe_cmpR op_eq (pv 0) pe_str (nomark _)) pa_nil)))) (nomark _))))))), ?_⟩
    have nk : (legF z).lookup ("KIND" : Str) = none := legF_no _ (by decide +kernel)
    have hkz : kz.length ≤ 8 ∧ (faceOf kz).length ≤ 8 := by
      rcases hk with ⟨rfl, _⟩ | ⟨rfl, _⟩ | ⟨rfl, _⟩ <;> exact ⟨by decide +kernel, by decide +kernel⟩
    have se : ∀ y : Str, decide (V.str kz = V.str y) = decide (kz = y) := fun y => str_eq kz y
    refine ⟨_, rfl, a, C, dx, _, _, rfl, ea, kd.ic.cl, kd.nN, legF_name _, _, rfl, rfl, _, rfl, ?_⟩
    rw [ne_same]
    refine iteF ⟨_, rfl, a, C, dx, _, _, _, rfl, ea, kd.ic.cl, hK, nk, _, rfl, rfl, _, rfl, ?_⟩
    rw [ne_same]
    refine iteF ⟨_, rfl, a, dx, _, rfl, ea, a, z, rfl, ⟨dx, ea⟩, _, rfl, _, rfl, rfl, _, rfl, rfl, _, rfl, ?_⟩
    rw [se, ne_same]
    refine iteF ?_
    refine fun p1 hp1 => ⟨upd_same, faceKv, rfl, by decide, ?_⟩
    refine ⟨_, rfl, p1, .str (faceOf kz), rfl, ?_, ?_⟩
    · have e : valV (mergeK [] faceKv) (Sum.inr kz) = some (.str (faceOf kz)) := by
        rcases hk with ⟨rfl, _⟩ | ⟨rfl, _⟩ | ⟨rfl, _⟩ <;> decide +kernel
      rw [← e]
      exact DGet.k (k := Sum.inr kz) upd_same
    obtain ⟨H1, e1⟩ : ∃ H1, H1 = upd (upd H p1 (.dK [])) p1 (.dK (mergeK [] faceKv)) := ⟨_, rfl⟩
    have s1 : Same H H1 := fun b o e => by
      rw [e1, upd_ne (ne_of_none e hp1), upd_ne (ne_of_none e hp1)]
      exact e
    have ea1 := s1 _ _ ea
    rw [← e1]
    refine ⟨_, rfl, a, C, dx, _, rfl, ea1, rfl, a, z, rfl, ⟨dx, ea1⟩, hz, _, rfl, _, rfl, _, _, rfl, rfl, ?_, _, rfl, _, _, rfl, rfl, ?_, rfl, _, rfl, ?_⟩
    · exact Nat.le_trans (Nat.add_le_add hkz.1 (show (" " : Str).length ≤ 1 by decide +kernel)) (by decide)
    · rw [strLen]
      exact Nat.le_trans (Nat.add_le_add (Nat.add_le_add hkz.1 (show (" " : Str).length ≤ 1 by decide +kernel)) hz) (by decide)
    rw [ne_same]
    refine iteF ⟨_, rfl, a, C, dx, _, rfl, ea1, rfl, a, z, rfl, ⟨dx, ea1⟩, hz, _, rfl, _, rfl, _, _, rfl, rfl, ?_, _, rfl, _, _, rfl, rfl, ?_, _, _, rfl, rfl, ?_, rfl, _, rfl, ?_⟩
    · exact Nat.le_trans (Nat.add_le_add hkz.2 (show ("(" : Str).length ≤ 1 by decide +kernel)) (by decide)
    · rw [strLen]
      exact Nat.le_trans (Nat.add_le_add (Nat.add_le_add hkz.2 (show ("(" : Str).length ≤ 1 by decide +kernel)) hz) (by decide)
    · rw [strLen, strLen]
      exact Nat.le_trans (Nat.add_le_add (Nat.add_le_add (Nat.add_le_add hkz.2 (show ("(" : Str).length ≤ 1 by decide +kernel)) hz) (show (")" : Str).length ≤ 1 by decide +kernel)) (by decide)
    rw [ne_same]
    refine iteF ?_
    have ty : TyX K H1 (.ref a) (.ref C) := LegAt.ty (z := z) ⟨dx, ea1⟩ kd.ic
    refine ⟨_, rfl, _, _, .ref C, .ref ks.leg, true, rfl, .own _, ty, kd.isL, _, rfl, _, _, .ref C, .ref ks.drv, _, rfl, .own _, ty, kd.isD, _, rfl, _, _, .ref C, .ref ks.lis, _, rfl, .own _, ty, kd.isI, (by show 3 ≤ sizeLine; decide), fun l1 hl1 => ?_⟩
    refine ⟨_, rfl, _, rfl, rfl, _, rfl, rfl, (by show 3 ≤ sizeLine; decide), fun l2 hl2 => ?_⟩
    have n12 : l1 ≠ l2 := ne_of_none upd_same hl2
    refine ⟨.list [.bool true, .bool (decide (kz = "driver")), .bool (decide (kz = "listener"))], .list [.bool true, .bool (decide (V.str kz = V.str "driver")), .bool (decide (V.str kz = V.str "listener"))],
      .lst (SqL.of (by rw [upd_ne n12]; exact upd_same)) (.cons (.bl _) (.cons (.bl _) (.cons (.bl _) .nil))), .lst (SqL.of upd_same) (.cons (.bl _) (.cons (.bl _) (.cons (.bl _) .nil))), rfl, rfl, ?_⟩
    have e3 : PyData.eqv (.list [.bool true, .bool (decide (kz = "driver")), .bool (decide (kz = "listener"))]) (.list [.bool true, .bool (decide (V.str kz = V.str "driver")), .bool (decide (V.str kz = V.str "listener"))]) = true := by
      rw [se, se]
      cases decide (kz = "driver") <;> cases decide (kz = "listener") <;> rfl
    rw [e3]
    refine k _ fun b o e => ?_
    have e4 := s1 _ _ e
    have n1 := ne_of_none e4 hl1
    rw [upd_ne (ne_of_none (by rw [upd_ne n1]; exact e4) hl2), upd_ne n1]
    exact e4
end
end Sj
/-! The law's def, proved for the one place where the row calls it (so that what is shown around is known: nothing). -/
namespace Sup
open PySem PySem.Spec PyProof.Rows L2
abbrev Sp1 := V → Hp → VK → Prop
/-- called there with one value, the def keeps its promise -/
def AtCall (P : Program) (w : World) (K : PySem.W.Frag) (mg : Str → Option Value) (base : Heap) (f : Addr) (sp : Sp1) : Prop :=
  ∀ (s : Shared) (H : Hp) (u : Value) (v : V) (Q : VK), Env0 P w K mg base callerA [] s H → RelV v u → sp v H Q → codeAny (model P w) callerA (.call (.ref f) ⟨[u], []⟩) (CR CX0 [] P w H s Q E0) s
section
variable {P : Program} {w : World} {K : PySem.W.Frag} {mg mb : Str → Option Value} {base : Heap}
theorem at_call {nm q x : Str} {st : Stmt} {f : Addr} {fd : FuncData} {N : List Str} {k : Nat} {sp : Sp1} (F : Fun K nm q st f fd) (S : FnScope N [x] (defScope st)) (room : Room (k + 1) callerA) (hb : ∀ (s : Shared) (u : Value), BindsTo s fd ⟨[u], []⟩ [(x, u)])
    (body : ∀ (cdv : Value) (s : Shared) (H : Hp) (v : V) (Q : VK), Room k (callerA.deeper (envOfC q (defScope st) s.heap.objs.size f cdv)) → sp v H Q →
      ∃ t, PSs (cxOf CX0 P w K mg base N q (defScope st) f cdv callerA [] s H E0).nox (defBody st) t ∧ t { nx := fun _ H' => Q .non H', rt := Q } (start N [v]) H) : AtCall P w K mg base f sp := by
  obtain ⟨oc, od, kV, doc, pm, an, cdv, ct, osl, rfl, lk, hcd⟩ := F.ex
  intro s H u v Q env0 ru hsp
  have stand : ∀ b o, base.get? b = some o → s.heap.get? b = some o := fun b o z => (env0.bs b o z).1
  have inK := env0.mod.kin.keeps stand
  have kinds : ∀ y ∈ [x].zip [u], (defScope st).names.lookup y.1 = some .local ∨ ((defScope st).names.lookup y.1 = some .cell ∧ ((cellsFrom (s.heap.objs.size + 1) (defScope st).names []).lookup y.1).isSome = true) := by
    intro y hy
    have ey : y = (x, u) := by simpa using hy
    subst ey
    exact (S.par x (by simp)).imp id fun c => ⟨c, PySem.W.cellsFrom_some _ _ _ (.inl c)⟩
  apply codeAny_call_function room.depth (inK _ _ lk) rfl S.co S.gen rfl (PySem.W.codeRec_of inK hcd)
  apply hb s u
  apply wpAny_newFunctionEnv_cells S.kind kinds
  intro env he s1 inC
  subst he
  constructor
  · exact (env0.mod.nolimit.keeps stand).keeps inC.toInCall.keep
  · obtain ⟨t, ht, hq⟩ := body cdv s H v Q (room.deeper _) hsp
    have J := inv_start (CX := CX0) (E := E0) (P := P) (w := w) (us := [u]) (vs := [v]) S room.hd env0 rfl (.cons ru .nil) inC
    apply codeAny_func
    apply wpAny_mono (ht.nox.run [] s1 (start N [v]) H _ J hq) _ (fun _ _ z => z)
    intro fl s' hs
    have done : ∀ {σ' : L2.St} {H' : Hp} {y : V} {z : Value}, Inv (cxOf CX0 P w K mg base N q (defScope st) f cdv callerA [] s H E0) [] σ' H' s' → L2.RelV y z → Q y H' → CE [] P w H s Q z s' := by
      intro σ' H' y z I ry qy
      exact ⟨y, H', I.os, I.bare, I.base, I.hok, ry, qy⟩
    match fl, hs with
    | .ret _, ⟨_, _, _, I, ry, qy⟩ => exact done I ry qy
    | .next, ⟨_, _, I, qy⟩ => exact done (y := V.non) (z := Value.none) I rfl qy
    | .brk, ⟨_, _, _, z⟩ => exact z.elim
    | .cont, ⟨_, _, _, z⟩ => exact z.elim
/-- behind the top, from the script alone -/
theorem law_runs {f a : Addr} {sp : Sp1} {s1 : Shared} {vs : List Value} {ns : List Int} (inK : K.In s1.heap) (gl : s1.heap.Ns mainGlobals mg) (bl : s1.heap.Ns builtinsNs mb) (bb : ∀ x : Str, x ≠ "__name__" → mb x = bootBuiltins x) (lim : s1.heap.NoLimit)
    (nogen : s1.gens = #[]) (ha : s1.heap.get? a = some { cls := .type "list", data := .seq vs.toArray }) (hi : IntsAre vs ns) (hl : ns.length ≤ sizeLine)
    (go : ∀ base : Heap, K.In base → base.Ns mainGlobals mg → AtCall P w K mg base f sp) (want : ∀ H : Hp, SqL K H a (ns.map V.int) → sp (.ref a) H fun v _ => v = .bl true) :
    codeAny (model P w) callerA (.call (.ref f) ⟨[.ref a], []⟩) (fun r s' => r = .ok (.ret (.bool true)) ∧ OldK s1.heap s'.heap ∧ s'.os = s1.os ∧ AllBare s'.gens) s1 := by
  have rel := vals_ints hi
  have szV : vs.length ≤ sizeLine := hi.length ▸ hl
  -- H tracks at most the script, as a thing that is known
  have main : ∀ H : Hp, (∀ b u, H b = some u → b = a ∧ K.lookup a = none ∧ ∃ o xs, u = .frz o (.lst xs)) → SqL K H a (ns.map V.int) → HOk P w H s1.heap → codeAny (model P w) callerA (.call (.ref f) ⟨[.ref a], []⟩)
      (fun r s' => r = .ok (.ret (.bool true)) ∧ OldK s1.heap s'.heap ∧ s'.os = s1.os ∧ AllBare s'.gens) s1 := by
    intro H only hS hok
    have keepB : ∀ {b : Addr} {o : Obj}, s1.heap.get? b = some o → (∀ xs n, o.data ≠ .seq xs n) → (hidT s1.heap H).get? b = some o := by
      intro b o e no
      apply hidT_get e
      cases z : H b with
      | none => rfl
      | some u =>
        obtain ⟨eb, _⟩ := only b u z
        rw [eb, ha] at e
        exact absurd rfl (by cases e; exact no _ _)
    have keepK : K.In (hidT s1.heap H) := by
      intro b o e
      apply hidT_get (inK b o e)
      cases z : H b with
      | none => rfl
      | some u =>
        obtain ⟨eb, nk, _⟩ := only b u z
        rw [eb, nk] at e
        cases e
    have keepN : ∀ {b : Addr} {m : Str → Option Value}, s1.heap.Ns b m → (hidT s1.heap H).Ns b m := by
      rintro b m ⟨o, es, ep, e, d, r⟩
      have nl : ∀ xs n, o.data ≠ .seq xs n := fun xs n z => by
        rw [d] at z
        cases z
      exact ⟨o, es, ep, keepB e nl, d, r⟩
    have mod : Mod K mg (hidT s1.heap H) := by
      refine ⟨keepK, keepN gl, ⟨mb, keepN bl, bb⟩, ?_⟩
      obtain ⟨mc, n1, n2⟩ := lim
      exact ⟨mc, keepN n1, n2⟩
    have env : Env0 P w K mg (hidT s1.heap H) callerA [] s1 H := by
      refine ⟨rfl, mod, fun b o e => of_hidT e, Nat.le_of_eq (hidT_size _ _), trivial, ?_, hok, .of_eq nogen⟩
      intro b hb
      cases hb
    apply codeAny_mono (go _ keepK (keepN gl) s1 H (.ref a) (.ref a) _ env rfl (want H hS))
    intro r s' h
    match r, h with
    | .ok (.ret u), ⟨v, H', os, bare, un, hok', ru, q⟩ =>
      have ev : v = .bl true := q
      subst ev
      obtain rfl : u = Value.bool true := ru
      refine ⟨rfl, OldK.of_keep ?_, os, bare⟩
      intro b o e
      cases z : H b with
      | none => exact un.keep b o e z (fun k => by cases k) (fun k => by cases k)
      | some u =>
        obtain ⟨_, _, ob, xs, eu⟩ := only b u z
        subst eu
        have here := (hok b _ z).1
        have there := (hok' b _ (un.frzs b ob _ z)).1
        rw [e] at here
        cases here
        exact there
  cases known : K.lookup a with
  | some o =>
    have eo := inK a o known
    rw [ha] at eo
    cases eo
    apply main (fun _ => none) (fun b u z => by cases z)
    · exact .inr ⟨_, vs.toArray, _, known, rfl, rfl, rfl, by simpa using szV, by simpa using rel⟩
    · intro b u z
      cases z
  | none =>
    apply main (fun b => if b = a then some (.frz { cls := .type "list", data := .seq vs.toArray } (.lst (ns.map V.int))) else none)
    · intro b u z
      by_cases hb : b = a
      · rw [if_pos hb] at z
        cases z
        exact ⟨hb, known, _, _, rfl⟩
      · rw [if_neg hb] at z
        cases z
    · exact .inl (.inr ⟨{ cls := .type "list", data := .seq vs.toArray }, if_pos rfl⟩)
    · intro b u z
      dsimp only at z
      by_cases hb : b = a
      · rw [if_pos hb] at z
        cases z
        subst hb
        exact ⟨ha, by rw [List.length_map]; exact hl, vs, _, rel, ha⟩
      · rw [if_neg hb] at z
        cases z
/-- the goal that k_head leaves, from AtCall -/
theorem walk_at {l : PySem.W.OpenLaw} {n : Nat} {q : Program} {loose : List Str} {XP : (Str → Option Value) → Heap → Prop} {YP : World → Heap → Prop} {d : DefRec} {K : Params → PySem.W.Frag} {sp : PySem.W.Frag → Sp1}
    (hn : l.most = some n) (hz : n ≤ sizeLine) (hdf : d.params.defaults = []) (hY : ∀ (w : World) (h : Heap), YP w h → (K w.params).In h)
    (go : ∀ (w : World) (mg : Str → Option Value) (f : Addr) (h : Heap), (K w.params).In h → h.Ns mainGlobals mg → mg d.name = some (.ref f) →
      ∀ base : Heap, (K w.params).In base → base.Ns mainGlobals mg → AtCall l.prog w (K w.params) mg base f (sp (K w.params)))
    (want : ∀ (K : PySem.W.Frag) (H : Hp) (a : Addr) (ns : List Int), ns.length ≤ n → SqL K H a (ns.map V.int) → sp K (.ref a) H fun v _ => v = .bl true) :
    PySem.W.WalkO q loose XP YP l.row.toRowW d [] (fun f vs => PySem.call f vs) := by
  apply Att.attach_call hn hdf
  intro w _ s1 mg mb f _ _ _ _ a vs ns G Y _ _ _ hmg hobj hints hlen hg
  have inK := hY w _ Y
  exact law_runs inK G.T.g G.T.b G.T.builtins G.T.nolimit hg hobj hints (Nat.le_trans hlen hz) (go w mg f _ inK G.T.g hmg) fun H hS => want _ H a ns hlen hS
end
end Sup
namespace Sj
open PySem L2 Sup
open NdefX (NF NScope ncx envF startF nscope_by)
open C8 (pss_cut tCut)
abbrev sLaw : Stmt := top 19
/-- a row: its tuple's address, the word, the name, the leg, its class -/
structure Row where
  t : Addr
  kz : Str
  z : Str
  a : Addr
  C : Addr
def Row.ok (ks : Kinds) (H : Hp) (r : Row) : Prop := H r.t = some (.tup [.str r.kz, .str r.z, .ref r.a]) ∧ LegAt H r.a r.C r.z ∧ ks.of r.kz r.C ∧ r.z.length ≤ 8
theorem Row.ok.same {ks : Kinds} {H H' : Hp} {r : Row} (h : r.ok ks H) (s : Same H H') : r.ok ks H' := ⟨s _ _ h.1, h.2.1.same s, h.2.2⟩
theorem Row.ok.but {ks : Kinds} {H H' : Hp} {r : Row} {q : Addr} {xs : List V} (h : r.ok ks H) (hq : H q = some (.lst xs)) (s : But H H' q) : r.ok ks H' := by
  obtain ⟨h1, ⟨dx, h2⟩, h3⟩ := h
  exact ⟨s _ _ (ne_of h1 hq (by intro z; cases z)) h1, ⟨dx, s _ _ (ne_of h2 hq (by intro z; cases z)) h2⟩, h3⟩
def kindsV : List V := [.str "driver", .str "listener", .str "leg"]
/-- what stands while the rows are made -/
structure LawH (ks : Kinds) (H : Hp) (p l kq rq : Addr) (cs : List Int) (n : Nat) (rows : List Row) : Prop where
  pen : Pen H p l cs n
  hkq : H kq = some (.lst kindsV)
  hrq : H rq = some (.lst (rows.map fun r => .ref r.t))
  nkp : kq ≠ p
  nrp : rq ≠ p
  nrl : rq ≠ l
  nkr : kq ≠ rq
  rows : ∀ r ∈ rows, r.ok ks H
theorem LawH.same {ks : Kinds} {H H' : Hp} {p l kq rq : Addr} {cs : List Int} {n : Nat} {rows : List Row} (h : LawH ks H p l kq rq cs n rows) (s : Same H H') : LawH ks H' p l kq rq cs n rows :=
  ⟨h.pen.same s, s _ _ h.hkq, s _ _ h.hrq, h.nkp, h.nrp, h.nrl, h.nkr, fun r hr => (h.rows r hr).same s⟩
theorem LawH.draw {ks : Kinds} {H H' : Hp} {p l kq rq : Addr} {cs : List Int} {n n' : Nat} {rows : List Row} (h : LawH ks H p l kq rq cs n rows) (hp : Pen H' p l cs n') (s : But H H' p) : LawH ks H' p l kq rq cs n' rows := by
  obtain ⟨i, g, h1, _⟩ := id h.pen
  exact ⟨hp, s _ _ h.nkp h.hkq, s _ _ h.nrp h.hrq, h.nkp, h.nrp, h.nrl, h.nkr, fun r hr => (h.rows r hr).but h1 s⟩
theorem LawH.push {ks : Kinds} {H : Hp} {p l kq rq : Addr} {cs : List Int} {n : Nat} {rows : List Row} (h : LawH ks H p l kq rq cs n rows) (r : Row) (hr : r.ok ks H) :
    LawH ks (upd H rq (.lst (rows.map (fun r => V.ref r.t) ++ [.ref r.t]))) p l kq rq cs n (rows ++ [r]) := by
  have b : But H (upd H rq (.lst (rows.map (fun r => V.ref r.t) ++ [.ref r.t]))) rq := .upd _ _ _
  obtain ⟨i, g, h1, h2, h3⟩ := id h.pen
  refine ⟨⟨i, g, b _ _ h.nrp.symm h1, b _ _ h.nrl.symm h2, h3⟩, b _ _ h.nkr h.hkq, ?_, h.nkp, h.nrp, h.nrl, h.nkr, fun x hx => ?_⟩
  · rw [upd_same, List.map_append]
    rfl
  · rcases List.mem_append.mp hx with hx | hx
    · exact (h.rows x hx).but h.hrq b
    · obtain rfl := List.mem_singleton.mp hx
      exact hr.but h.hrq b
/-- the odd values: none is a name -/
def OddV (H : Hp) (K : PySem.W.Frag) (x : V) : Prop := (∃ z : Str, x = .str z ∧ z.length ≤ 1000 ∧ isName z = false) ∨ ∃ t : String, TyX K H x (.type t) ∧ kitB t "str" = some false ∧ ∀ H', Same H H' → TyX K H' x (.type t)
end Sj
namespace Sj
open PySem L2 Sup
open NdefX (NF NScope ncx envF startF nscope_by)
open C8 (pss_cut tCut)
def Kinds.has (k : Kinds) (C : Addr) : Prop := C = k.drv ∨ C = k.lis ∨ C = k.leg
/-- a def that is called by its name -/
structure Cal (P : Program) (w : World) (K : PySem.W.Frag) (mg : Str → Option Value) (base : Heap) (nm : Str) (n : Nat) (ps : List Str) (sp : Sp) : Prop where
  ex : ∃ (f : Addr) (fd : FuncData), FnOk P w K mg base CX0 n f fd ps sp ∧ mg nm = some (.ref f) ∧ PySem.W.keepIn K (.ref f) = true ∧ Binds K fd ps []
structure EqF (P : Program) (w : World) (K : PySem.W.Frag) (mg : Str → Option Value) (base : Heap) (C : Addr) : Prop where
  ex : ∃ (g : Addr) (fd : FuncData), PySem.W.findIn K (.ref C) "__eq__" = some (some (.ref g)) ∧ PySem.W.isFn K (.ref g) = true ∧ FnOk P w K mg base CX0 1 g fd ["self", "other"] (spEq K C) ∧ Binds K fd ["self", "other"] []
  ne : PySem.W.findIn K (.ref C) "__ne__" = some (some (.builtin "object.__ne__"))
  ob : PySem.W.mroIn K C (.type "object") = some true
theorem EqF.at_ {X : Cx} {C : Addr} (h : EqF X.prog X.w X.K X.mg X.base C) (hr : Room 2 X.A) : EqC X C (spEq X.K C) := by
  obtain ⟨⟨g, fd, h1, h2, h3, h4⟩, h5, h6⟩ := h
  exact ⟨⟨g, fd, 1, h1, h2, h3, hr, h4⟩, h5, h6⟩
/-- how the classes stand to each other -/
structure Ord (K : PySem.W.Frag) (ks : Kinds) : Prop where
  ndl : ks.drv ≠ ks.leg
  nil : ks.lis ≠ ks.leg
  ndi : ks.drv ≠ ks.lis
  dl : PySem.W.subIn K (.ref ks.drv) (.ref ks.leg) = some true
  il : PySem.W.subIn K (.ref ks.lis) (.ref ks.leg) = some true
  ld : PySem.W.notFirst K ks.drv (.ref ks.leg) = true
  li : PySem.W.notFirst K ks.lis (.ref ks.leg) = true
  di : PySem.W.notFirst K ks.lis (.ref ks.drv) = true
  id_ : PySem.W.notFirst K ks.drv (.ref ks.lis) = true
  str : ∀ C, ks.has C → PySem.W.notFirst K C (.type "str") = true
  non : ∀ C, ks.has C → PySem.W.notFirst K C (.type "NoneType") = true
  tup : ∀ C, ks.has C → PySem.W.notFirst K C (.type "tuple") = true
  kd : PySem.W.kitOne K (.ref ks.leg) (.ref ks.drv) = some false
  ki : PySem.W.kitOne K (.ref ks.leg) (.ref ks.lis) = some false
  kdi : PySem.W.kitOne K (.ref ks.drv) (.ref ks.lis) = some false
  kid : PySem.W.kitOne K (.ref ks.lis) (.ref ks.drv) = some false
  kstr : ∀ C, ks.has C → PySem.W.kitOne K (.type "str") (.ref C) = some false
  knon : ∀ C, ks.has C → PySem.W.kitOne K (.type "NoneType") (.ref C) = some false
  ktup : ∀ C, ks.has C → PySem.W.kitOne K (.type "tuple") (.ref C) = some false
structure LawT (P : Program) (w : World) (K : PySem.W.Frag) (mg : Str → Option Value) (base : Heap) (ks : Kinds) (CI : Addr) : Prop where
  pen : Cal P w K mg base "_law_pen" 1 ["_law_script"] (spPen K)
  pick : Cal P w K mg base "_law_pick" 2 ["_law_pen_here", "_law_some"] spPick
  tags : Cal P w K mg base "_law_tags" 2 ["_law_pen_here", "_law_many"] spTags
  made : Cal P w K mg base "_law_made" 6 ["_law_kind", "_law_tag"] (spMade K ks)
  told : Cal P w K mg base "_law_told_right" 6 ["_law_kind", "_law_tag", "_law_leg"] (spTold ks)
  mkc : MadeT P w K mg base ks CI
  tt : ToldT K mg ks
  range : mg "range" = none
  kd : ∀ kz C, ks.of kz C → KdC P w K mg base ks kz C
  eq : ∀ C, ks.has C → EqF P w K mg base C
  ord : Ord K ks
  vD : ∃ mc u, ClX.CRead K ks.drv mc ∧ ClX.CVal K ks.drv mc "KIND" (.str "driver") u
  vI : ∃ mc u, ClX.CRead K ks.lis mc ∧ ClX.CVal K ks.lis mc "KIND" (.str "listener") u
  vL : ∃ mc u, ClX.CRead K ks.leg mc ∧ ClX.CVal K ks.leg mc "KIND" (.str "leg") u
def lawN : List Str := ["_law_script", "_law_pen_here", "_law_kinds_so", "_law_rows", "_law_turn", "_law_kind", "_law_tag", "_law_leg", "_law_some", "_law_odd", "_law_sort", "_law_label", "_law_other", "_law_is_alike", "_law_one"]
theorem scLaw : FnScope lawN ["_law_script"] (defScope sLaw) := ⟨rfl, rfl, rfl, by decide +kernel, rfl, by decide +kernel, by decide +kernel⟩
abbrev sLawB (i : Nat) : Stmt := (defBody sLaw).getD i (.Pass ⟨0, 0, 0, 0⟩)
def spLaw1 (K : PySem.W.Frag) : Sp1 := fun v H Q => ∃ (a : Addr) (ns : List Int), v = .ref a ∧ SqL K H a (ns.map V.int) ∧ ns.length ≤ 63 ∧ ∀ H', Q (.bl true) H'
theorem kind_of (ks : Kinds) {j : Nat} {x : V} (h : kindsV[j]? = some x) : ∃ kz C, x = .str kz ∧ ks.of kz C := by
  match j, h with
  | 0, h => exact ⟨"driver", ks.drv, (Option.some.inj h).symm, .inl ⟨rfl, rfl⟩⟩
  | 1, h => exact ⟨"listener", ks.lis, (Option.some.inj h).symm, .inr (.inl ⟨rfl, rfl⟩)⟩
  | 2, h => exact ⟨"leg", ks.leg, (Option.some.inj h).symm, .inr (.inr ⟨rfl, rfl⟩)⟩
theorem pool_ok : ∀ z ∈ poolS, isName z = true ∧ z.length ≤ 8 := by decide +kernel
def odds10 : List V := [.str "", .str "A", .str "a1", .str "abcdefghi", .str "ground", .str "power", .str "nothing", .non, .int 1, .bl true]
theorem odd_of {H : Hp} {K : PySem.W.Frag} {t1 l2 d3 : Addr} (h1 : H t1 = some (.tup [.str "a"])) (h2 : H l2 = some (.lst [])) (h3 : H d3 = some (.dK [])) {j : Nat} {x : V} (h : (odds10 ++ [.ref t1, .ref l2, .ref d3])[j]? = some x) : OddV H K x := by
  have sc : ∀ {y : V} {t : String}, (∀ H', TyX K H' y (.type t)) → kitB t "str" = some false → OddV H K y := fun ht hk => .inr ⟨_, ht H, hk, fun H' _ => ht H'⟩
  match j, h with
  | 0, h => exact .inl ⟨"", (Option.some.inj h).symm, by decide +kernel, by decide +kernel⟩
  | 1, h => exact .inl ⟨"A", (Option.some.inj h).symm, by decide +kernel, by decide +kernel⟩
  | 2, h => exact .inl ⟨"a1", (Option.some.inj h).symm, by decide +kernel, by decide +kernel⟩
  | 3, h => exact .inl ⟨"abcdefghi", (Option.some.inj h).symm, by decide +kernel, by decide +kernel⟩
  | 4, h => exact .inl ⟨"ground", (Option.some.inj h).symm, by decide +kernel, by decide +kernel⟩
  | 5, h => exact .inl ⟨"power", (Option.some.inj h).symm, by decide +kernel, by decide +kernel⟩
  | 6, h => exact .inl ⟨"nothing", (Option.some.inj h).symm, by decide +kernel, by decide +kernel⟩
  | 7, h => rw [← Option.some.inj h]; exact sc (t := "NoneType") (fun _ => .base .non) (by decide +kernel)
  | 8, h => rw [← Option.some.inj h]; exact sc (t := "int") (fun _ => .base (.int 1)) (by decide +kernel)
  | 9, h => rw [← Option.some.inj h]; exact sc (t := "bool") (fun _ => .base (.bl true)) (by decide +kernel)
  | 10, h => rw [← Option.some.inj h]; exact .inr ⟨"tuple", .base (.tup h1), by decide +kernel, fun H' s => .base (.tup (s _ _ h1))⟩
  | 11, h => rw [← Option.some.inj h]; exact .inr ⟨"list", .base (.lst h2), by decide +kernel, fun H' s => .base (.lst (s _ _ h2))⟩
  | 12, h => rw [← Option.some.inj h]; exact .inr ⟨"dict", .base (.dK h3), by decide +kernel, fun H' s => .base (.dK (s _ _ h3))⟩
theorem same_new {H : Hp} {q : Addr} (h : H q = none) (o : HO) : Same H (upd H q o) := fun b u e => by
  rw [upd_ne (ne_of_none e h)]
  exact e
section
variable {P : Program} {w : World} {K : PySem.W.Frag} {mg : Str → Option Value} {base : Heap}
/-- the slots while the rows are made -/
def lawSt (sc p kq rq : Addr) (o4 o5 o6 o7 o8 o9 : Option V) : L2.St := [some (.ref sc), some (.ref p), some (.ref kq), some (.ref rq), o4, o5, o6, o7, o8, o9, none, none, none, none, none]
/-- the first loop: its statement, with any context that is the law's own -/
theorem law_loop1 {ks : Kinds} {CI f : Addr} {cdv : Value} {s : Shared} {H0 : Hp} (T : LawT P w K mg base ks CI) (hr : Room 8 (callerA.deeper (PyProof.Rows.envOfC "law" (defScope sLaw) s.heap.objs.size f cdv))) :
    ∃ t, PS (cxOf CX0 P w K mg base lawN "law" (defScope sLaw) f cdv callerA [] s H0 E0).nox (sLawB 2) t ∧
      ∀ (sc p l kq rq : Addr) (cs : List Int) (H : Hp) (D : Ends), LawH ks H p l kq rq cs 0 [] →
        (∀ o4 o5 o6 o7 o8 o9 rows H', LawH ks H' p l kq rq cs 18 rows → rows.length ≤ 6 → D.nx (lawSt sc p kq rq o4 o5 o6 o7 o8 o9) H') → t D (lawSt sc p kq rq none none none none none none) H := by
  obtain ⟨⟨fK, fdK, GK, mK, kK, bK⟩⟩ := T.pick
  obtain ⟨⟨fT, fdT, GT, mT, kT, bT⟩⟩ := T.tags
  obtain ⟨⟨fM, fdM, GM, mM, kM, bM⟩⟩ := T.made
  obtain ⟨⟨fO, fdO, GO, mO, kO, bO⟩⟩ := T.told
  have hr2 : Room 2 (callerA.deeper (PyProof.Rows.envOfC "law" (defScope sLaw) s.heap.objs.size f cdv)) := hr.mono (by decide)
  have hr6 : Room 6 (callerA.deeper (PyProof.Rows.envOfC "law" (defScope sLaw) s.heap.objs.size f cdv)) := hr.mono (by decide)
  refine ⟨_, ps_for PassesOwn.never rfl (pi_range1 rfl T.range (pa_cons pe_int pa_nil)) (pg_name (i := 4) scLaw.nd rfl (Or.inl rfl))
    (pss_cons (ps_par (i := 5) (j := 6) rfl scLaw.nd rfl rfl (by decide) rfl rfl
      (pa_cons (pe_call GK hr2 rfl mK kK bK .nil pass0 (pa_cons (pv 1) (pa_cons (pv 2) pa_nil))) (pa_cons (pe_ix ix_list (pe_call GT hr2 rfl mT kT bT .nil pass0 (pa_cons (pv 1) (pa_cons pe_int pa_nil))) pe_int (fun _ _ => rfl)) pa_nil)) (by rfl))
    (pss_cons (ps_set (i := 7) scLaw.nd rfl (Or.inr rfl) (pe_call GM hr6 rfl mM kM bM .nil pass0 (pa_cons (pv 5) (pa_cons (pv 6) pa_nil))))
    (pss_cons (ps_if (PW.pt (pw_or (pt_not (pt_val (pe_callB call_isi (by rfl) T.tt.isi (by decide +kernel) (pa_cons (pv 7) (pa_cons (pe_glob rfl T.tt.mL (v := .ref ks.leg) rfl) pa_nil)))))
        (pw_or1 (pt_not (pt_val (pe_call GO hr6 rfl mO kO bO .nil pass0 (pa_cons (pv 5) (pa_cons (pv 6) (pa_cons (pv 7) pa_nil)))))))))
      (pss_one (ps_ret pe_bl)) pss_nil)
    (pss_cons (ps_expr (pe_bm PySem.F.plainAttrs_list PySem.F.slot_list_append PySem.F.type_list_append mt_append (pv 3) (pa_cons (pe_tup (pa_cons (pv 5) (pa_cons (pv 6) (pa_cons (pv 7) pa_nil)))) pa_nil)))
    (pss_cons (ps_set (i := 8) scLaw.nd rfl (Or.inl rfl) (pe_lst (pa_cons pe_str (pa_cons pe_str (pa_cons pe_str (pa_cons pe_str (pa_cons pe_str (pa_cons pe_str (pa_cons pe_str (pa_cons pe_non (pa_cons pe_int (pa_cons pe_bl pa_nil))))))))))))
    (pss_cons (ps_set (i := 9) scLaw.nd rfl (Or.inr rfl) (pe_call GK hr2 rfl mK kK bK .nil pass0 (pa_cons (pv 1) (pa_cons (pe_op op_cat (pv 8) (pe_lst (pa_cons (pe_tup (pa_cons pe_str pa_nil)) (pa_cons (pe_lst pa_nil) (pa_cons pe_dnewK pa_nil))))) pa_nil))))
    (pss_one (ps_if (pt_cmpR (op_neD hr.units) (pe_lc (te := tCall (spMade K ks) [] E0 (tCons (tVar 14) (tCons (tVar 9) tNil))) (own := [("_law_one", 14)]) (g := gName 14) (tt := tYes) rfl scLaw.nd (pi_list (pv 2))
          (blkOk_by (N := lawN) (sc := defScope sLaw) (by decide +kernel)) (fun _ _ _ _ _ => pg_name (i := 14) scLaw.nd rfl (Or.inl rfl)) (fun _ _ _ _ _ => pts_nil)
          (fun _ _ _ _ _ => pe_call GM hr6 rfl mM kM bM .nil pass0 (pa_cons (pv 14) (pa_cons (pv 9) pa_nil))))
        (pe_op op_rep (pe_lst (pa_cons (pe_tup (pa_cons pe_str pa_nil)) pa_nil)) pe_int) (nomark _)) (pss_one (ps_ret pe_bl)) pss_nil)))))))), ?_⟩
  refine fun sc p l kq rq cs H D hL after => ?_
  refine ⟨6, rfl, by decide, by decide, for_range (n := 6) (fun i σ H' => ∃ o4 o5 o6 o7 o8 o9 rows, σ = lawSt sc p kq rq o4 o5 o6 o7 o8 o9 ∧ LawH ks H' p l kq rq cs (3 * i) rows ∧ rows.length = i) ⟨_, _, _, _, _, _, [], rfl, hL, rfl⟩ ?_ ?_⟩
  · rintro i σ H1 hi ⟨o4, o5, o6, o7, o8, o9, rows, rfl, hL1, hlen⟩
    -- kind, tag
    refine ⟨_, rfl, _, rfl, p, l, kq, cs, 3 * i, kindsV, rfl, hL1.pen, hL1.hkq, hL1.nkp, by decide, by decide, by omega, fun j x H2 hj hP2 b2 => ?_⟩
    obtain ⟨kz, C, rfl, hk⟩ := kind_of ks hj
    have hL2 := hL1.draw hP2 b2
    refine ⟨_, rfl, p, l, cs, 3 * i + 1, 1, rfl, hP2, by decide, by omega, fun H3 q xs rest hqn hq hx hperm hP3 b3 => ?_⟩
    obtain ⟨z, rfl⟩ : ∃ z, xs = [z] := by
      match xs, hx with
      | [z], _ => exact ⟨z, rfl⟩
    have hz := pool_ok z (hperm.subset (by simp))
    have hL3 := hL2.draw hP3 b3
    refine ⟨q, _, _, .str z, rfl, rfl, SqL.of hq, rfl, _, _, rfl, ?_⟩
    -- the leg
    refine ⟨_, rfl, _, rfl, kz, C, .str z, rfl, hk, .inl ⟨z, rfl, by omega, fun _ a H4 ha hleg s4 => ?_, fun e => by rw [hz.1] at e; cases e⟩⟩
    have hL4 := hL3.same s4
    have kd := T.kd kz C hk
    refine ⟨_, rfl, _, _, .ref C, .ref ks.leg, true, rfl, .own _, hleg.ty kd.ic, kd.isL, _, rfl, iteF ?_⟩
    refine ⟨_, rfl, _, rfl, _, rfl, kz, z, C, a, rfl, hk, hleg, by omega, fun H5 s5 => ⟨_, rfl, iteF ?_⟩⟩
    have hL5 := hL4.same s5
    have hleg5 := hleg.same s5
    -- rows.append
    refine ⟨_, rfl, .inl ⟨rfl, _, SqL.of hL5.hrq⟩, _, rfl, _, rfl, _, rfl, by show 3 ≤ sizeLine; decide, fun t ht => ?_⟩
    have s6 := same_new ht (.tup [.str kz, .str z, .ref a])
    have hL6 := hL5.same s6
    have hrow : Row.ok ks (upd H5 t (.tup [.str kz, .str z, .ref a])) ⟨t, kz, z, a, C⟩ := ⟨upd_same, hleg5.same s6, hk, hz.2⟩
    refine ⟨rq, _, _, rfl, rfl, hL6.hrq, by rw [List.length_map, hlen]; exact Nat.lt_of_le_of_lt (show i ≤ 6 by omega) (by decide), ?_⟩
    have hL7 := hL6.push ⟨t, kz, z, a, C⟩ hrow
    -- the odd value
    refine ⟨by show 10 ≤ sizeLine; decide, fun l8 h8 => ?_⟩
    have a1 := same_new h8 (.lst odds10)
    refine ⟨_, rfl, _, rfl, by show 1 ≤ sizeLine; decide, fun t1 h1 => ⟨Nat.zero_le _, fun l2 h2 => fun d3 h3 => ⟨by show 3 ≤ sizeLine; decide, fun l4 h4 => ?_⟩⟩⟩
    have a2 := same_new h1 (.tup [.str "a"])
    have a3 := same_new h2 (.lst [])
    have a4 := same_new h3 (.dK [])
    have a5 := same_new h4 (.lst [.ref t1, .ref l2, .ref d3])
    refine ⟨l8, l4, odds10, [.ref t1, .ref l2, .ref d3], rfl, rfl, a5 _ _ (a4 _ _ (a3 _ _ (a2 _ _ upd_same))), upd_same, by show 10 + 3 ≤ sizeLine; decide, fun l5 h5 => ?_⟩
    have a6 := same_new h5 (.lst (odds10 ++ [.ref t1, .ref l2, .ref d3]))
    have hLa := hL7.same ((((a1.trans a2).trans a3).trans a4).trans a5)
    have hLb := hLa.same a6
    obtain ⟨ip, gp, hpp, _⟩ := id hLa.pen
    obtain ⟨ip1, gp1, hpp1, _⟩ := id (hL7.same a1).pen
    obtain ⟨ip2, gp2, hpp2, _⟩ := id (hL7.same (a1.trans a2)).pen
    obtain ⟨ip3, gp3, hpp3, _⟩ := id (hL7.same ((a1.trans a2).trans a3)).pen
    have n5 : l5 ≠ p := (ne_of_none hpp h5).symm
    have n1 : t1 ≠ p := (ne_of_none hpp1 h1).symm
    have n2 : l2 ≠ p := (ne_of_none hpp2 h2).symm
    have n3 : d3 ≠ p := (ne_of_none hpp3 h3).symm
    refine ⟨p, l, l5, cs, 3 * i + 2, _, rfl, hLb.pen, upd_same, n5, by show 0 < 13; decide, by show 13 < 1000; decide, by omega, fun j9 x H9 hj9 hP9 b9 => ?_⟩
    have hL9 := hLb.draw hP9 b9
    have odd : OddV H9 K x := odd_of (b9 _ _ n1 (a6 _ _ (a5 _ _ (a4 _ _ (a3 _ _ upd_same))))) (b9 _ _ n2 (a6 _ _ (a5 _ _ (a4 _ _ upd_same)))) (b9 _ _ n3 (a6 _ _ (a5 _ _ upd_same))) hj9
    -- the comprehension
    refine ⟨_, rfl, kq, rfl, ⟨_, SqL.of hL9.hkq⟩, fun D9 hD9 => lc_list (xs := kindsV) (fun i H' => Same H9 H' ∧ ∃ ts : List Addr, ts.length = i ∧ H' D9 = some (.lst (ts.map V.ref)) ∧ ∀ t ∈ ts, H' t = some (.tup [.str "name"])) ?_ ?_ ?_ ?_⟩
    · exact ⟨same_new hD9 _, [], rfl, upd_same, fun t ht => absurd ht (by simp)⟩
    · rintro i H' _ ⟨sm, _⟩
      exact SqL.of (sm _ _ hL9.hkq)
    · rintro i9 y H' hy ⟨sm, ts, hts, hD', hall⟩
      obtain ⟨kz', C', rfl, hk'⟩ := kind_of ks hy
      have hi9 : i9 < 3 := (List.getElem?_eq_some_iff.mp hy).1
      refine ⟨rfl, ?_⟩
      unfold tYes
      dsimp only
      rw [if_pos rfl]
      have fin : ∀ (t' : Addr) (H'' : Hp), H' t' = none → H'' t' = some (.tup [.str "name"]) → Same H' H'' → ∃ acc, H'' D9 = some (.lst acc) ∧ acc.length < sizeLine ∧ Same H9 (upd H'' D9 (.lst (acc ++ [.ref t']))) ∧
          ∃ ts : List Addr, ts.length = i9 + 1 ∧ upd H'' D9 (.lst (acc ++ [.ref t'])) D9 = some (.lst (ts.map V.ref)) ∧ ∀ t ∈ ts, upd H'' D9 (.lst (acc ++ [.ref t'])) t = some (.tup [.str "name"]) := by
        intro t' H'' ht1 ht2 s''
        have hD2 := s'' _ _ hD'
        refine ⟨_, hD2, by rw [List.length_map, hts]; exact Nat.lt_of_le_of_lt (show i9 ≤ 3 by omega) (by decide), fun b o e => ?_, ts ++ [t'], by rw [List.length_append, hts]; rfl, ?_, fun u hu => ?_⟩
        · rw [upd_ne (ne_of_none e hD9)]
          exact s'' _ _ (sm _ _ e)
        · rw [upd_same, List.map_append]
          rfl
        · rcases List.mem_append.mp hu with hu | hu
          · have e := s'' _ _ (hall u hu)
            rw [upd_ne (ne_of e hD2 (by intro z; cases z))]
            exact e
          · obtain rfl := List.mem_singleton.mp hu
            rw [upd_ne (ne_of ht2 hD2 (by intro z; cases z))]
            exact ht2
      refine ⟨_, rfl, _, rfl, kz', C', x, rfl, hk', ?_⟩
      rcases odd with ⟨zo, rfl, hzo, hno⟩ | ⟨to, hto, hko, hso⟩
      · exact .inl ⟨zo, rfl, hzo, fun e => by rw [hno] at e; (cases e), fun _ t' H'' h1 h2 h3 => fin t' H'' h1 h2 h3⟩
      · exact .inr ⟨to, hso _ sm, hko, fun H2 s2 => hso _ (sm.trans s2), fun t' H'' h1 h2 h3 => fin t' H'' h1 h2 h3⟩
    · rintro H' ⟨sm, ts, hts, hD', hall⟩
      refine ⟨by show 1 ≤ sizeLine; decide, fun t9 ht9 => ⟨by show 1 ≤ sizeLine; decide, fun l9 hl9 => ?_⟩⟩
      have c1 := same_new ht9 (.tup [.str "name"])
      have c2 := same_new hl9 (.lst [.ref t9])
      refine ⟨l9, 3, _, rfl, rfl, upd_same, by decide, by decide, by show 1 * 3 ≤ sizeLine; decide, fun l10 hl10 => ?_⟩
      have c3 := same_new hl10 (.lst [.ref t9, .ref t9, .ref t9])
      have hD3 := c3 _ _ (c2 _ _ (c1 _ _ hD'))
      have ht3 := c3 _ _ (c2 _ _ (upd_same : upd H' t9 (.tup [.str "name"]) t9 = _))
      obtain ⟨u1, u2, u3, rfl⟩ : ∃ u1 u2 u3, ts = [u1, u2, u3] := by
        match ts, hts with
        | [u1, u2, u3], _ => exact ⟨u1, u2, u3, rfl⟩
      have hu : ∀ u ∈ [u1, u2, u3], Dp K (upd (upd (upd H' t9 (.tup [.str "name"])) l9 (.lst [.ref t9])) l10 (.lst [.ref t9, .ref t9, .ref t9])) (.ref u) (.tuple [.str "name"]) := fun u hu =>
        .tup (SqT.of (c3 _ _ (c2 _ _ (c1 _ _ (hall u hu))))) (.cons (.str _) .nil)
      have h9 : Dp K (upd (upd (upd H' t9 (.tup [.str "name"])) l9 (.lst [.ref t9])) l10 (.lst [.ref t9, .ref t9, .ref t9])) (.ref t9) (.tuple [.str "name"]) := .tup (SqT.of ht3) (.cons (.str _) .nil)
      refine ⟨.list [.tuple [.str "name"], .tuple [.str "name"], .tuple [.str "name"]], .list [.tuple [.str "name"], .tuple [.str "name"], .tuple [.str "name"]],
        .lst (SqL.of hD3) (.cons (hu u1 (by simp)) (.cons (hu u2 (by simp)) (.cons (hu u3 (by simp)) .nil))), .lst (SqL.of upd_same) (.cons h9 (.cons h9 (.cons h9 .nil))), by decide +kernel, by decide +kernel, _, rfl, ?_⟩
      rw [show PyData.eqv (.list [.tuple [.str "name"], .tuple [.str "name"], .tuple [.str "name"]]) (.list [.tuple [.str "name"], .tuple [.str "name"], .tuple [.str "name"]]) = true from by decide +kernel]
      refine iteF ⟨_, _, _, _, _, _, rows ++ [⟨t, kz, z, a, C⟩], rfl, ?_, by rw [List.length_append, hlen]; rfl⟩
      exact ((hL9.same sm).same ((c1.trans c2).trans c3))
  · rintro σ H1 ⟨o4, o5, o6, o7, o8, o9, rows, rfl, hL1, hn⟩
    exact after o4 o5 o6 o7 o8 o9 rows H1 hL1 (by omega)
end
end Sj
namespace Sj
open PySem L2 Sup
open NdefX (NF NScope ncx envF startF nscope_by)
open C8 (pss_cut tCut)
def alike (r s : Row) : Bool := decide (r.kz = s.kz) && decide (r.z = s.z)
theorem Kinds.of_has {ks : Kinds} {kz : Str} {C : Addr} (h : ks.of kz C) : ks.has C := by
  rcases h with ⟨_, e⟩ | ⟨_, e⟩ | ⟨_, e⟩
  · exact .inl e
  · exact .inr (.inl e)
  · exact .inr (.inr e)
noncomputable def wordOf (ks : Kinds) (C : Addr) : Str := if C = ks.drv then "driver" else if C = ks.lis then "listener" else "leg"
theorem of_word {ks : Kinds} {C : Addr} (h : ks.has C) : ks.of (wordOf ks C) C := by
  unfold wordOf
  by_cases h1 : C = ks.drv
  · rw [if_pos h1]; exact .inl ⟨rfl, h1⟩
  · rw [if_neg h1]
    by_cases h2 : C = ks.lis
    · rw [if_pos h2]; exact .inr (.inl ⟨rfl, h2⟩)
    · rw [if_neg h2]
      refine .inr (.inr ⟨rfl, ?_⟩)
      rcases h with h | h | h
      · exact absurd h h1
      · exact absurd h h2
      · exact h
theorem first_same {K : PySem.W.Frag} {C : Addr} : PySem.W.notFirst K C (.ref C) = true := by
  unfold PySem.W.notFirst
  rw [beq_self_eq_true]
  rfl
theorem depth2 (b : Bool) : (PyData.list [.bool b, .bool (!b)]).depth ≤ 64 := by
  cases b <;> decide +kernel
theorem shown2 (b : Bool) : (PyData.shown (.list [.bool b, .bool (!b)])).length ≤ sizeLine := by
  cases b <;> decide +kernel
section
variable {P : Program} {w : World} {K : PySem.W.Frag} {mg : Str → Option Value} {base : Heap}
/-- two legs compared -/
theorem eq_legs {ks : Kinds} {CI : Addr} (T : LawT P w K mg base ks CI) {op : CmpOp} {H : Hp} {r r' : Row} {Q : VK} (h : r.ok ks H) (h' : r'.ok ks H) (q : Q (.bl (ansOf op (alike r r'))) H) : rOwnE K op ks.has (spEq K) (.ref r.a) (.ref r'.a) H Q := by
  obtain ⟨_, hl, hk, _⟩ := h
  obtain ⟨_, hl', hk', _⟩ := h'
  have ic := (T.kd _ _ hk).ic
  have ic' := (T.kd _ _ hk').ic
  have hs := Kinds.of_has hk
  have hs' := Kinds.of_has hk'
  obtain ⟨dx, ea⟩ := id hl
  obtain ⟨dy, eb⟩ := id hl'
  have O := T.ord
  -- one class
  have same : r.kz = r'.kz → r.C = r'.C → rOwnE K op ks.has (spEq K) (.ref r.a) (.ref r'.a) H Q := fun ek ec => by
    have e : alike r r' = decide (r.z = r'.z) := by unfold alike; rw [decide_eq_true ek]; rfl
    rw [e] at q
    refine ⟨r.a, r.C, dx, _, rfl, ea, hs, .inl ⟨.ref r'.C, hl'.ty ic', by rw [ec]; exact first_same, r.a, r.z, .ref r'.a, rfl, hl, .inl ⟨r'.a, r'.z, rfl, by rw [ec]; exact hl', _, rfl, q⟩⟩⟩
  -- two classes, the left one is asked
  have left : r.kz ≠ r'.kz → PySem.W.notFirst K r.C (.ref r'.C) = true → PySem.W.kitOne K (.ref r'.C) (.ref r.C) = some false → rOwnE K op ks.has (spEq K) (.ref r.a) (.ref r'.a) H Q := fun ek hn hi => by
    have e : alike r r' = false := by unfold alike; rw [decide_eq_false ek]; rfl
    rw [e] at q
    exact ⟨r.a, r.C, dx, _, rfl, ea, hs, .inl ⟨.ref r'.C, hl'.ty ic', hn, r.a, r.z, .ref r'.a, rfl, hl, .inr ⟨_, hl'.ty ic', hi, _, rfl, q⟩⟩⟩
  have right : r.kz ≠ r'.kz → r'.C ≠ r.C → PySem.W.subIn K (.ref r'.C) (.ref r.C) = some true → PySem.W.kitOne K (.ref r.C) (.ref r'.C) = some false → rOwnE K op ks.has (spEq K) (.ref r.a) (.ref r'.a) H Q := fun ek hne hsub hi => by
    have e : alike r r' = false := by unfold alike; rw [decide_eq_false ek]; rfl
    rw [e] at q
    exact ⟨r.a, r.C, dx, _, rfl, ea, hs, .inr ⟨r'.a, r'.C, dy, _, rfl, eb, hs', hne, hsub, r'.a, r'.z, .ref r.a, rfl, hl', .inr ⟨_, hl.ty ic, hi, _, rfl, q⟩⟩⟩
  have d1 : ("driver" : Str) ≠ "listener" := by decide +kernel
  have d2 : ("driver" : Str) ≠ "leg" := by decide +kernel
  have d3 : ("listener" : Str) ≠ "leg" := by decide +kernel
  rcases hk with ⟨e1, e2⟩ | ⟨e1, e2⟩ | ⟨e1, e2⟩ <;> rcases hk' with ⟨f1, f2⟩ | ⟨f1, f2⟩ | ⟨f1, f2⟩
  · exact same (by rw [e1, f1]) (by rw [e2, f2])
  · exact left (by rw [e1, f1]; exact d1) (by rw [e2, f2]; exact O.id_) (by rw [e2, f2]; exact O.kid)
  · exact left (by rw [e1, f1]; exact d2) (by rw [e2, f2]; exact O.ld) (by rw [e2, f2]; exact O.kd)
  · exact left (by rw [e1, f1]; exact d1.symm) (by rw [e2, f2]; exact O.di) (by rw [e2, f2]; exact O.kdi)
  · exact same (by rw [e1, f1]) (by rw [e2, f2])
  · exact left (by rw [e1, f1]; exact d3) (by rw [e2, f2]; exact O.li) (by rw [e2, f2]; exact O.ki)
  · exact right (by rw [e1, f1]; exact d2.symm) (by rw [e2, f2]; exact O.ndl) (by rw [e2, f2]; exact O.dl) (by rw [e2, f2]; exact O.kd)
  · exact right (by rw [e1, f1]; exact d3.symm) (by rw [e2, f2]; exact O.nil) (by rw [e2, f2]; exact O.il) (by rw [e2, f2]; exact O.ki)
  · exact same (by rw [e1, f1]) (by rw [e2, f2])
/-- a leg against a value that is none -/
theorem eq_other {ks : Kinds} {CI : Addr} (T : LawT P w K mg base ks CI) {H : Hp} {r : Row} {y : V} {t : String} {Q : VK} (h : r.ok ks H) (ty : TyX K H y (.type t)) (hn : PySem.W.notFirst K r.C (.type t) = true) (hi : PySem.W.kitOne K (.type t) (.ref r.C) = some false)
    (q : Q (.bl false) H) : rOwnE K .Eq ks.has (spEq K) (.ref r.a) y H Q := by
  obtain ⟨_, hl, hk, _⟩ := h
  obtain ⟨dx, ea⟩ := id hl
  exact ⟨r.a, r.C, dx, _, rfl, ea, Kinds.of_has hk, .inl ⟨_, ty, hn, r.a, r.z, y, rfl, hl, .inr ⟨_, ty, hi, _, rfl, q⟩⟩⟩
theorem law_loop2 {ks : Kinds} {CI f : Addr} {cdv : Value} {s : Shared} {H0 : Hp} (T : LawT P w K mg base ks CI) (hr : Room 8 (callerA.deeper (PyProof.Rows.envOfC "law" (defScope sLaw) s.heap.objs.size f cdv))) :
    ∃ t, PS (cxOf CX0 P w K mg base lawN "law" (defScope sLaw) f cdv callerA [] s H0 E0).nox (sLawB 3) t ∧
      ∀ (sc p kq rq : Addr) (o4 o5 o6 o7 o8 o9 : Option V) (rows : List Row) (H : Hp) (D : Ends), H rq = some (.lst (rows.map fun r => .ref r.t)) → (∀ r ∈ rows, r.ok ks H) → rows.length ≤ 6 →
        (∀ σ' H', D.nx σ' H') → t D (lawSt sc p kq rq o4 o5 o6 o7 o8 o9) H := by
  have hr2 : Room 2 (callerA.deeper (PyProof.Rows.envOfC "law" (defScope sLaw) s.heap.objs.size f cdv)) := hr.mono (by decide)
  have hg : (callerA.deeper (PyProof.Rows.envOfC "law" (defScope sLaw) s.heap.objs.size f cdv)).guards = some [] := rfl
  have hu : (callerA.deeper (PyProof.Rows.envOfC "law" (defScope sLaw) s.heap.objs.size f cdv)).units + 70 < cLine := by rw [Around.deeper_units]; decide
  have hS : ∀ C, ks.has C → StrC (cxOf CX0 P w K mg base lawN "law" (defScope sLaw) f cdv callerA [] s H0 E0).nox C "__str__" (spStr1 C (wordOf ks C ++ " ")) := by
    intro C hC
    obtain ⟨g, fd, h1, h2, h3, h4⟩ := (T.kd _ _ (of_word hC)).str
    exact ⟨g, fd, 1, h1, h2, h3, hr.mono (by decide), h4⟩
  refine ⟨_, ps_for PassesOwn.never rfl (pi_list (pv 3)) (pg_tup rfl (pgs_cons (pg_name (i := 5) scLaw.nd rfl (Or.inl rfl)) (pgs_cons (pg_name (i := 6) scLaw.nd rfl (Or.inl rfl)) (pgs_cons (pg_name (i := 7) scLaw.nd rfl (Or.inr rfl)) pgs_nil))))
    (pss_cons (ps_for PassesOwn.never rfl (pi_list (pv 3)) (pg_tup rfl (pgs_cons (pg_name (i := 10) scLaw.nd rfl (Or.inl rfl)) (pgs_cons (pg_name (i := 11) scLaw.nd rfl (Or.inl rfl)) (pgs_cons (pg_name (i := 12) scLaw.nd rfl (Or.inl rfl)) pgs_nil))))
      (pss_cut (ps_set (i := 13) scLaw.nd rfl (Or.inl rfl) (pe_and (pe_cmpR op_eq (pv 5) (pv 10) (nomark _)) (pe_one (pe_cmpR op_eq (pv 6) (pv 11) (nomark _)))))
      (pss_one (ps_if (pt_cmpR op_ne
          (pe_callB (call_reprD hg hu) (by rfl) T.tt.repr (by decide +kernel) (pa_cons (pe_lst (pa_cons (pe_cmpR (op_ownE (.inl rfl) fun C h => (T.eq C h).at_ hr2) (pv 7) (pv 12) (nomark _)) (pa_cons (pe_cmpR (op_ownE (.inr rfl) fun C h => (T.eq C h).at_ hr2) (pv 7) (pv 12) (nomark _)) pa_nil))) pa_nil))
          (pe_callB (call_reprD hg hu) (by rfl) T.tt.repr (by decide +kernel) (pa_cons (pe_lst (pa_cons (pv 13) (pa_cons (pe_not (pv 13)) pa_nil))) pa_nil)) (nomark _))
        (pss_one (ps_ret pe_bl)) pss_nil))))
    (pss_one (ps_if (pt_cmpR (op_neD hr.units) (pe_lc (tt := tTest (tOp (rOwnE K .Eq ks.has (spEq K)) (tVar 7) (tVar 14))) (te := tVar 14) (own := [("_law_one", 14)]) (g := gName 14) rfl scLaw.nd
          (pi_tup (pe_tup (pa_cons (pv 6) (pa_cons (pv 5) (pa_cons pe_non (pa_cons (pe_callTy (call_strOwn hS) (by rfl) T.tt.str (by decide +kernel) (pa_cons (pv 7) pa_nil)) (pa_cons (pe_tup (pa_cons (pv 7) pa_nil)) pa_nil)))))))
          (blkOk_by (N := lawN) (sc := defScope sLaw) (by decide +kernel)) (fun _ _ _ _ _ => pg_name (i := 14) scLaw.nd rfl (Or.inl rfl))
          (fun _ _ _ _ _ => pts_one (pt_cmpR (op_ownE (.inl rfl) fun C h => (T.eq C h).at_ hr2) (pv 7) (pv 14) (nomark _))) (fun _ _ _ _ _ => pv 14))
        (pe_lst pa_nil) (nomark _)) (pss_one (ps_ret pe_bl)) pss_nil))), ?_⟩
  refine fun sc p kq rq o4 o5 o6 o7 o8 o9 rows H D hrq hrows hlen after => ?_
  have row_at : ∀ {i : Nat} {x : V}, (rows.map fun r => V.ref r.t)[i]? = some x → ∃ r, r ∈ rows ∧ x = .ref r.t := by
    intro i x h
    rw [List.getElem?_map] at h
    cases e : rows[i]? with
    | none => rw [e] at h; cases h
    | some r => rw [e] at h; exact ⟨r, List.mem_of_getElem? e, (Option.some.inj h).symm⟩
  refine ⟨_, rfl, rq, rfl, ⟨_, SqL.of hrq⟩, for_list (xs := rows.map fun r => V.ref r.t)
    (fun i σ H' => ∃ a4 a5 a6 a7 a8 a9 a10 a11 a12 a13 a14 : Option V, σ = [some (.ref sc), some (.ref p), some (.ref kq), some (.ref rq), a4, a5, a6, a7, a8, a9, a10, a11, a12, a13, a14] ∧ Same H H')
    ⟨_, _, _, _, _, _, _, _, _, _, _, rfl, Same.refl H⟩ ?_ ?_ ?_⟩
  · rintro i σ H' _ ⟨_, _, _, _, _, _, _, _, _, _, _, _, sm⟩
    exact SqL.of (sm _ _ hrq)
  · rintro i x σ H1 hx ⟨a4, a5, a6, a7, a8, a9, a10, a11, a12, a13, a14, rfl, sm⟩
    obtain ⟨r, hr0, rfl⟩ := row_at hx
    have hok := hrows r hr0
    refine ⟨r.t, _, rfl, SqT.of (sm _ _ hok.1), rfl, _, _, rfl, _, _, rfl, _, _, rfl, rfl, ?_⟩
    refine ⟨_, rfl, rq, rfl, ⟨_, SqL.of (sm _ _ hrq)⟩, for_list (xs := rows.map fun r => V.ref r.t)
      (fun j σ H' => ∃ b4 b8 b9 b10 b11 b12 b13 b14 : Option V, σ = [some (.ref sc), some (.ref p), some (.ref kq), some (.ref rq), b4, some (.str r.kz), some (.str r.z), some (.ref r.a), b8, b9, b10, b11, b12, b13, b14] ∧ Same H H')
      ⟨_, _, _, _, _, _, _, _, rfl, sm⟩ ?_ ?_ ?_⟩
    · rintro j σ H' _ ⟨_, _, _, _, _, _, _, _, _, sm2⟩
      exact SqL.of (sm2 _ _ hrq)
    · rintro j y σ H2 hy ⟨b4, b8, b9, b10, b11, b12, b13, b14, rfl, sm2⟩
      obtain ⟨r', hr1, rfl⟩ := row_at hy
      have hok2 := (hrows r hr0).same sm2
      have hok2' := (hrows r' hr1).same sm2
      refine ⟨r'.t, _, rfl, SqT.of hok2'.1, rfl, _, _, rfl, _, _, rfl, _, _, rfl, rfl, ?_⟩
      refine ⟨fun σ' H' => σ' = [some (.ref sc), some (.ref p), some (.ref kq), some (.ref rq), b4, some (.str r.kz), some (.str r.z), some (.ref r.a), b8, b9, some (.str r'.kz), some (.str r'.z), some (.ref r'.a), some (.bl (alike r r')), b14] ∧ H' = H2, ?_, ?_⟩
      · refine ⟨_, rfl, _, rfl, rfl, _, rfl, ?_⟩
        rw [str_eq]
        cases hd : decide (r.kz = r'.kz) with
        | true =>
          refine iteT ⟨_, rfl, _, rfl, rfl, ?_⟩
          have e : alike r r' = decide (V.str r.z = V.str r'.z) := by unfold alike; rw [hd, str_eq]; rfl
          rw [e]
          exact ⟨rfl, rfl⟩
        | false =>
          refine iteF ?_
          have e : alike r r' = false := by unfold alike; rw [hd]; rfl
          rw [e]
          exact ⟨rfl, rfl⟩
      · rintro σ' H' ⟨rfl, rfl⟩
        refine ⟨_, rfl, _, rfl, eq_legs T hok2 hok2' ⟨_, rfl, _, rfl, eq_legs T hok2 hok2' ⟨by show 2 ≤ sizeLine; decide, fun l1 hl1 => ?_⟩⟩⟩
        have c1 := same_new hl1 (.lst [.bl (ansOf .Eq (alike r r')), .bl (ansOf .NotEq (alike r r'))])
        refine ⟨.ref l1, .list [.bool (alike r r'), .bool (!alike r r')], rfl, .lst (SqL.of upd_same) (.cons (.bl _) (.cons (.bl _) .nil)), ⟨_, rfl⟩, rfl, rfl, depth2 _, shown2 _, ?_⟩
        refine ⟨_, rfl, _, rfl, _, rfl, by show 2 ≤ sizeLine; decide, fun l2 hl2 => ?_⟩
        have c2 := same_new hl2 (.lst [.bl (alike r r'), .bl (!alike r r')])
        refine ⟨.ref l2, .list [.bool (alike r r'), .bool (!alike r r')], rfl, .lst (SqL.of upd_same) (.cons (.bl _) (.cons (.bl _) .nil)), ⟨_, rfl⟩, rfl, rfl, depth2 _, shown2 _, ?_⟩
        refine ⟨rfl, _, rfl, ?_⟩
        rw [ne_same]
        exact iteF ⟨_, _, _, _, _, _, _, _, rfl, sm2.trans (c1.trans c2)⟩
    · rintro σ H2 ⟨b4, b8, b9, b10, b11, b12, b13, b14, rfl, sm2⟩
      have hok2 := (hrows r hr0).same sm2
      obtain ⟨_, ⟨dx, ea⟩, hk, hz⟩ := id hok2
      have has := Kinds.of_has hk
      refine ⟨_, rfl, _, rfl, _, rfl, r.a, r.C, dx, _, rfl, ea, has, r.a, r.z, rfl, ⟨dx, ea⟩, by omega, _, rfl, _, rfl, by show 1 ≤ sizeLine; decide, fun t1 h1 => ⟨by show 5 ≤ sizeLine; decide, fun t2 h2 => ?_⟩⟩
      have c1 := same_new h1 (.tup [.ref r.a])
      have c2 := same_new h2 (.tup [.str r.z, .str r.kz, .non, .str (wordOf ks r.C ++ " " ++ r.z), .ref t1])
      refine ⟨t2, rfl, ⟨_, SqT.of upd_same⟩, fun D9 hD9 => lc_tup (xs := [.str r.z, .str r.kz, .non, .str (wordOf ks r.C ++ " " ++ r.z), .ref t1])
        (fun i H' => Same (upd (upd H2 t1 (.tup [.ref r.a])) t2 (.tup [.str r.z, .str r.kz, .non, .str (wordOf ks r.C ++ " " ++ r.z), .ref t1])) H' ∧ H' D9 = some (.lst [])) ⟨same_new hD9 _, upd_same⟩ ?_ ?_ ?_⟩
      · rintro i H' _ ⟨sm3, _⟩
        exact SqT.of (sm3 _ _ upd_same)
      · rintro i y H' hy ⟨sm3, hD'⟩
        have hok3 := hok2.same ((c1.trans c2).trans sm3)
        have ht1 := sm3 _ _ (c2 _ _ (upd_same : upd H2 t1 (.tup [.ref r.a]) t1 = _))
        have one : ∃ t : String, TyX K H' y (.type t) ∧ PySem.W.notFirst K r.C (.type t) = true ∧ PySem.W.kitOne K (.type t) (.ref r.C) = some false := by
          match i, hy with
          | 0, hy => rw [← Option.some.inj hy]; exact ⟨"str", .base (.str _), T.ord.str _ has, T.ord.kstr _ has⟩
          | 1, hy => rw [← Option.some.inj hy]; exact ⟨"str", .base (.str _), T.ord.str _ has, T.ord.kstr _ has⟩
          | 2, hy => rw [← Option.some.inj hy]; exact ⟨"NoneType", .base .non, T.ord.non _ has, T.ord.knon _ has⟩
          | 3, hy => rw [← Option.some.inj hy]; exact ⟨"str", .base (.str _), T.ord.str _ has, T.ord.kstr _ has⟩
          | 4, hy => rw [← Option.some.inj hy]; exact ⟨"tuple", .base (.tup ht1), T.ord.tup _ has, T.ord.ktup _ has⟩
        obtain ⟨t, o1, o2, o3⟩ := one
        exact ⟨rfl, _, rfl, _, rfl, eq_other T hok3 o1 o2 o3 ⟨_, rfl, iteF ⟨sm3, hD'⟩⟩⟩
      · rintro H' ⟨sm3, hD'⟩
        refine ⟨Nat.zero_le _, fun l9 hl9 => ?_⟩
        have c3 := same_new hl9 (.lst [])
        refine ⟨.list [], .list [], .lst (SqL.of (c3 _ _ hD')) .nil, .lst (SqL.of upd_same) .nil, rfl, rfl, _, rfl, iteF ?_⟩
        exact ⟨_, _, _, _, _, _, _, _, _, _, _, rfl, (((sm2.trans (c1.trans c2)).trans sm3).trans c3)⟩
  · rintro σ H' _
    exact after σ H'
end
end Sj
namespace Sj
open PySem L2 Sup
open NdefX (NF NScope ncx envF startF nscope_by)
open C8 (pss_cut tCut)
section
variable {P : Program} {w : World} {K : PySem.W.Frag} {mg : Str → Option Value} {base : Heap}
theorem eq_one {ks : Kinds} {CI C a b : Addr} {kz z : Str} (T : LawT P w K mg base ks CI) (hk : ks.of kz C) {op : CmpOp} {H : Hp} {Q : VK} (ha : LegAt H a C z) (hb : LegAt H b C z) (q : Q (.bl (ansOf op true)) H) : rOwnE K op ks.has (spEq K) (.ref a) (.ref b) H Q := by
  obtain ⟨dx, ea⟩ := id ha
  have ic := (T.kd _ _ hk).ic
  have e : decide (z = z) = true := decide_eq_true rfl
  exact ⟨a, C, dx, _, rfl, ea, Kinds.of_has hk, .inl ⟨.ref C, hb.ty ic, first_same, a, z, .ref b, rfl, ha, .inl ⟨b, z, rfl, hb, _, rfl, by rw [e]; exact q⟩⟩⟩
/-- C(z), by place or by name: a leg -/
theorem made_leg {CI C x dx : Addr} {z : Str} {H : Hp} {Q : VK} {E : XK} (hn : isName z = true) (hz : z.length ≤ 1000) (h1 : H x = none) (h2 : H dx = none) (hne : dx ≠ x) (k : ∀ H', LegAt H' x C z → Same H H' → Q .non H') :
    spLegI K CI C [.ref x, .str z] (upd (upd H dx (.own x)) x (.ins C dx [])) Q E :=
  ⟨x, dx, .str z, rfl, upd_same, .inl ⟨z, rfl, hz, fun _ H' hx hb => k H' ⟨dx, hx⟩ fun b o e => hb b o (ne_of_none e h1) (by rw [upd_ne (ne_of_none e h1), upd_ne (ne_of_none e h2)]; exact e), fun e => by rw [hn] at e; cases e⟩⟩
theorem at_law {ks : Kinds} {CI f : Addr} {fd : FuncData} (F : Fun K "law" "law" sLaw f fd) (hb : ∀ (s : Shared) (u : Value), BindsTo s fd ⟨[u], []⟩ [("_law_script", u)]) (T : LawT P w K mg base ks CI) : AtCall P w K mg base f (spLaw1 K) := by
  refine at_call (k := 8) F scLaw ⟨rfl, by decide, by decide⟩ hb fun cdv s H v Q hr h => ?_
  obtain ⟨sc, ns, rfl, hS, hlen, k⟩ := h
  obtain ⟨⟨fP, fdP, GP, mP, kP, bP⟩⟩ := T.pen
  obtain ⟨⟨fD, fdD, MD, GD, bD, kD⟩, mD⟩ := T.mkc.d
  obtain ⟨⟨fI, fdI, MI, GI, bI, kI⟩, mI⟩ := T.mkc.i
  obtain ⟨mcD, uD, rD, vD⟩ := T.vD
  obtain ⟨mcI, uI, rI, vI⟩ := T.vI
  obtain ⟨mcL, uL, rL, vL⟩ := T.vL
  obtain ⟨t1, L1, read1⟩ := law_loop1 (f := f) (cdv := cdv) (s := s) (H0 := H) T hr
  obtain ⟨t2, L2, read2⟩ := law_loop2 (f := f) (cdv := cdv) (s := s) (H0 := H) T hr
  have hr1 : Room 1 (callerA.deeper (PyProof.Rows.envOfC "law" (defScope sLaw) s.heap.objs.size f cdv)) := hr.mono (by decide)
  have hr2 : Room 2 (callerA.deeper (PyProof.Rows.envOfC "law" (defScope sLaw) s.heap.objs.size f cdv)) := hr.mono (by decide)
  have hr5 : Room 5 (callerA.deeper (PyProof.Rows.envOfC "law" (defScope sLaw) s.heap.objs.size f cdv)) := hr.mono (by decide)
  refine ⟨_, pss_cons (ps_set (i := 1) scLaw.nd rfl (Or.inl rfl) (pe_call GP hr1 rfl mP kP bP .nil pass0 (pa_cons (pv 0) pa_nil)))
    (pss_cons (ps_par (i := 2) (j := 3) rfl scLaw.nd rfl rfl (by decide) rfl rfl (pa_cons (pe_lst (pa_cons pe_str (pa_cons pe_str (pa_cons pe_str pa_nil)))) (pa_cons (pe_lst pa_nil) pa_nil)) (by rfl))
    (pss_cut L1 (pss_cut L2
    (pss_cons (ps_if (PW.pt (pw_or (pt_cmpR (op_ownE (.inr rfl) fun C h => (T.eq C h).at_ hr2) (pe_make MD GD hr5 rfl mD bD .nil passL (pa_cons pe_str pa_nil)) (pe_makeK0 MD GD hr5 rfl mD kD passL (pk_cons pe_str pk_nil)) (nomark _))
        (pw_or1 (pt_cmpR (op_ownE (.inr rfl) fun C h => (T.eq C h).at_ hr2) (pe_make MI GI hr5 rfl mI bI .nil passL (pa_cons pe_str pa_nil)) (pe_makeK0 MI GI hr5 rfl mI kI passL (pk_cons pe_str pk_nil)) (nomark _)))))
      (pss_one (ps_ret pe_bl)) pss_nil)
    (pss_one (ps_ret (pe_cmpR (op_eqD hr.units) (pe_lst (pa_cons (ClX.pe_cval (pe_glob rfl T.tt.mL (v := .ref ks.leg) rfl)) (pa_cons (ClX.pe_cval (pe_glob rfl T.tt.mD (v := .ref ks.drv) rfl)) (pa_cons (ClX.pe_cval (pe_glob rfl T.tt.mI (v := .ref ks.lis) rfl)) pa_nil))))
      (pe_lst (pa_cons pe_str (pa_cons pe_str (pa_cons pe_str pa_nil)))) (nomark _)))))))), ?_⟩
  have hkD : ks.of "driver" ks.drv := .inl ⟨rfl, rfl⟩
  have hkI : ks.of "listener" ks.lis := .inr (.inl ⟨rfl, rfl⟩)
  refine ⟨_, rfl, sc, ns, rfl, hS, hlen, fun p l cs H1 hP s1 => ?_⟩
  refine ⟨by show 3 ≤ sizeLine; decide, fun kq hkq => ⟨Nat.zero_le _, fun rq hrq => ⟨_, _, rfl, ?_⟩⟩⟩
  have c1 := same_new hkq (.lst kindsV)
  have c2 := same_new hrq (.lst [])
  obtain ⟨ip, gp, hpp, hll, _⟩ := id hP
  have hL : LawH ks (upd (upd H1 kq (.lst kindsV)) rq (.lst [])) p l kq rq cs 0 [] :=
    ⟨(hP.same c1).same c2, c2 _ _ upd_same, upd_same, (ne_of_none hpp hkq).symm, (ne_of_none (c1 _ _ hpp) hrq).symm, (ne_of_none (c1 _ _ hll) hrq).symm, ne_of_none upd_same hrq, fun r hr => absurd hr (by simp)⟩
  refine ⟨fun σ' H' => ∃ o4 o5 o6 o7 o8 o9 rows, σ' = lawSt sc p kq rq o4 o5 o6 o7 o8 o9 ∧ LawH ks H' p l kq rq cs 18 rows ∧ rows.length ≤ 6, read1 sc p l kq rq cs _ _ hL fun o4 o5 o6 o7 o8 o9 rows H' h1 h2 => ⟨o4, o5, o6, o7, o8, o9, rows, rfl, h1, h2⟩, ?_⟩
  rintro σ2 H2 ⟨o4, o5, o6, o7, o8, o9, rows, rfl, hL2, hl6⟩
  refine ⟨fun _ _ => True, read2 sc p kq rq o4 o5 o6 o7 o8 o9 rows H2 _ hL2.hrq hL2.rows hl6 fun _ _ => trivial, ?_⟩
  rintro σ3 H3 _
  refine fun x1 d1 n1 m1 e1 => made_leg (by decide +kernel) (by decide +kernel) n1 m1 e1 fun H4 g1 s4 => ⟨rfl, ?_⟩
  refine ⟨rfl, rfl, fun x2 d2 n2 m2 e2 => made_leg (by decide +kernel) (by decide +kernel) n2 m2 e2 fun H5 g2 s5 => ⟨rfl, ?_⟩⟩
  refine eq_one T hkD (g1.same s5) g2 ⟨_, rfl, iteF ?_⟩
  refine fun x3 d3 n3 m3 e3 => made_leg (by decide +kernel) (by decide +kernel) n3 m3 e3 fun H6 g3 s6 => ⟨rfl, ?_⟩
  refine ⟨rfl, rfl, fun x4 d4 n4 m4 e4 => made_leg (by decide +kernel) (by decide +kernel) n4 m4 e4 fun H7 g4 s7 => ⟨rfl, ?_⟩⟩
  refine eq_one T hkI (g3.same s7) g4 ⟨_, rfl, iteF ?_⟩
  refine ⟨ks.leg, mcL, _, uL, rfl, rL, vL, ks.drv, mcD, _, uD, rfl, rD, vD, ks.lis, mcI, _, uI, rfl, rI, vI, by show 3 ≤ sizeLine; decide, fun l1 hl1 => ?_⟩
  refine ⟨by show 3 ≤ sizeLine; decide, fun l2 hl2 => ?_⟩
  have c3 := same_new hl2 (.lst [.str "leg", .str "driver", .str "listener"])
  refine ⟨.list [.str "leg", .str "driver", .str "listener"], .list [.str "leg", .str "driver", .str "listener"], .lst (SqL.of (c3 _ _ upd_same)) (.cons (.str _) (.cons (.str _) (.cons (.str _) .nil))), .lst (SqL.of upd_same) (.cons (.str _) (.cons (.str _) (.cons (.str _) .nil))),
    by decide +kernel, by decide +kernel, ?_⟩
  rw [show PyData.eqv (.list [.str "leg", .str "driver", .str "listener"]) (.list [.str "leg", .str "driver", .str "listener"]) = true from by decide +kernel]
  exact k _
end
end Sj
namespace Sj
open PySem L2 Sup
theorem all_mk {P : Program} {w : World} {K : PySem.W.Frag} {h : Heap} {mg : Str → Option Value} {fa : Addr} (X : K.In h) (G : h.Ns mainGlobals mg) (hfa : mg "law" = some (.ref fa))
    {CI : Addr}
    {CL : Addr}
    {CD : Addr}
    {CS : Addr}
    {tL tN : Tok} {aR : Addr} {dR : Option Addr} {itsR : Array Value} {nR : Nat} {slR : Array (Option Value)}
    {fN : Addr} {odN anN : Option Addr} {slN : Array (Option Value)} {ocN kVN dcN pmN cdN ctN : Value}
    {fLI : Addr} {odLI anLI : Option Addr} {slLI : Array (Option Value)} {ocLI kVLI dcLI pmLI cdLI ctLI : Value}
    {fPn : Addr} {odPn anPn : Option Addr} {slPn : Array (Option Value)} {ocPn kVPn dcPn pmPn cdPn ctPn : Value}
    {fDr : Addr} {odDr anDr : Option Addr} {slDr : Array (Option Value)} {ocDr kVDr dcDr pmDr cdDr ctDr : Value}
    {fPk : Addr} {odPk anPk : Option Addr} {slPk : Array (Option Value)} {ocPk kVPk dcPk pmPk cdPk ctPk : Value}
    {fTg : Addr} {odTg anTg : Option Addr} {slTg : Array (Option Value)} {ocTg kVTg dcTg pmTg cdTg ctTg : Value}
    {fMd : Addr} {odMd anMd : Option Addr} {slMd : Array (Option Value)} {ocMd kVMd dcMd pmMd cdMd ctMd : Value}
    {fTo : Addr} {odTo anTo : Option Addr} {slTo : Array (Option Value)} {ocTo kVTo dcTo pmTo cdTo ctTo : Value}
    {fLw : Addr} {odLw anLw : Option Addr} {slLw : Array (Option Value)} {ocLw kVLw dcLw pmLw cdLw ctLw : Value}
    {fEqL : Addr} {odEqL anEqL : Option Addr} {slEqL : Array (Option Value)} {ocEqL kVEqL dcEqL pmEqL cdEqL ctEqL : Value}
    {fStL : Addr} {odStL anStL : Option Addr} {slStL : Array (Option Value)} {ocStL kVStL dcStL pmStL cdStL ctStL : Value}
    {fReL : Addr} {odReL anReL : Option Addr} {slReL : Array (Option Value)} {ocReL kVReL dcReL pmReL cdReL ctReL : Value}
    {fDvL : Addr} {odDvL anDvL : Option Addr} {slDvL : Array (Option Value)} {ocDvL kVDvL dcDvL pmDvL cdDvL ctDvL : Value}
    {pDvL : Addr} {rsDvL : List Value}
    {fEqD : Addr} {odEqD anEqD : Option Addr} {slEqD : Array (Option Value)} {ocEqD kVEqD dcEqD pmEqD cdEqD ctEqD : Value}
    {fStD : Addr} {odStD anStD : Option Addr} {slStD : Array (Option Value)} {ocStD kVStD dcStD pmStD cdStD ctStD : Value}
    {fReD : Addr} {odReD anReD : Option Addr} {slReD : Array (Option Value)} {ocReD kVReD dcReD pmReD cdReD ctReD : Value}
    {fDvD : Addr} {odDvD anDvD : Option Addr} {slDvD : Array (Option Value)} {ocDvD kVDvD dcDvD pmDvD cdDvD ctDvD : Value}
    {pDvD : Addr} {rsDvD : List Value}
    {fEqS : Addr} {odEqS anEqS : Option Addr} {slEqS : Array (Option Value)} {ocEqS kVEqS dcEqS pmEqS cdEqS ctEqS : Value}
    {fStS : Addr} {odStS anStS : Option Addr} {slStS : Array (Option Value)} {ocStS kVStS dcStS pmStS cdStS ctStS : Value}
    {fReS : Addr} {odReS anReS : Option Addr} {slReS : Array (Option Value)} {ocReS kVReS dcReS pmReS cdReS ctReS : Value}
    {fDvS : Addr} {odDvS anDvS : Option Addr} {slDvS : Array (Option Value)} {ocDvS kVDvS dcDvS pmDvS cdDvS ctDvS : Value}
    {pDvS : Addr} {rsDvS : List Value}
    {fIE xIE yIE : Addr} {odIE anIE : Option Addr} {slIE : Array (Option Value)} {ocIE kVIE dcIE pmIE ctIE : Value}
    {u1IE u2IE : Value} {v1IE v2IE : Option Addr} {vsIE : Array Value} {w1IE w2IE : Array (Option Value)} {flIE : Str} {tfIE : Tok}
    {fDI xDI yDI : Addr} {odDI anDI : Option Addr} {slDI : Array (Option Value)} {ocDI kVDI dcDI pmDI ctDI : Value}
    {u1DI u2DI : Value} {v1DI v2DI : Option Addr} {vsDI : Array Value} {w1DI w2DI : Array (Option Value)} {flDI : Str} {tfDI : Tok}
    {fSI xSI ySI : Addr} {odSI anSI : Option Addr} {slSI : Array (Option Value)} {ocSI kVSI dcSI pmSI ctSI : Value}
    {u1SI u2SI : Value} {v1SI v2SI : Option Addr} {vsSI : Array Value} {w1SI w2SI : Array (Option Value)} {flSI : Str} {tfSI : Tok}
    {cdCI : ClassData}
    {cdCL : ClassData}
    {cdCD : ClassData}
    {cdCS : ClassData}
    {nm q : Str} {Ns : Addr} {bs bm sub : List Value} {sn : List Str} {ab : Bool} {col : Option Bool} {dd : Option Addr} {k0 k1 k2 k3 k5 : Option Value}
    {ukCL mcCL uvCL : Value}
    {ukCD mcCD uvCD : Value}
    {ukCS mcCS uvCS : Value}
    (gCI : PySem.W.nsIn K mainGlobals "InvalidFrame" = some (some (.ref CI)))
    (gCL : PySem.W.nsIn K mainGlobals "Leg" = some (some (.ref CL)))
    (gCD : PySem.W.nsIn K mainGlobals "Driver" = some (some (.ref CD)))
    (gCS : PySem.W.nsIn K mainGlobals "Listener" = some (some (.ref CS)))
    (gLet : PySem.W.nsIn K mainGlobals "LETTERS" = some (some (.str lettersS tL)))
    (gLon : PySem.W.nsIn K mainGlobals "LONGEST" = some (some (.int 8 tN)))
    (gRes : PySem.W.nsIn K mainGlobals "RESERVED" = some (some (.ref aR)))
    (lRes : K.lookup aR = some ⟨.type "tuple", dR, .seq itsR nR, slR⟩)
    (sRes : itsR.size ≤ sizeLine)
    (vRes : Vals reservedV itsR.toList)
    (z_isinstance : PySem.W.nsIn K mainGlobals "isinstance" = some none)
    (z_str : PySem.W.nsIn K mainGlobals "str" = some none)
    (z_len : PySem.W.nsIn K mainGlobals "len" = some none)
    (z_all : PySem.W.nsIn K mainGlobals "all" = some none)
    (z_repr : PySem.W.nsIn K mainGlobals "repr" = some none)
    (z_list : PySem.W.nsIn K mainGlobals "list" = some none)
    (z_int : PySem.W.nsIn K mainGlobals "int" = some none)
    (z_abs : PySem.W.nsIn K mainGlobals "abs" = some none)
    (z_range : PySem.W.nsIn K mainGlobals "range" = some none)
    (z_super : PySem.W.nsIn K mainGlobals "super" = some none)
    (aN : PySem.W.nsIn K mainGlobals "is_name" = some (some (.ref fN)))
    (lN : K.lookup fN = some ⟨ocN, odN, .func (PySem.W.fnOf "is_name" "is_name" (defArgs sIsName) (defBody sIsName) (defScope sIsName) .none kVN dcN pmN anN cdN ctN), slN⟩)
    (cN : PySem.W.codeIn K cdN "is_name" = true)
    (kN : PySem.W.keepIn K (.ref fN) = true)
    (aLI : PySem.W.findIn K (.ref CL) "__init__" = some (some (.ref fLI)))
    (iLI : PySem.W.isFn K (.ref fLI) = true)
    (lLI : K.lookup fLI = some ⟨ocLI, odLI, .func (PySem.W.fnOf "__init__" "Leg.__init__" (defArgs sLegI) (defBody sLegI) (defScope sLegI) .none kVLI dcLI pmLI anLI cdLI ctLI), slLI⟩)
    (cLI : PySem.W.codeIn K cdLI "Leg.__init__" = true)
    (kLI : PySem.W.keepIn K (.ref fLI) = true)
    (aPn : PySem.W.nsIn K mainGlobals "_law_pen" = some (some (.ref fPn)))
    (lPn : K.lookup fPn = some ⟨ocPn, odPn, .func (PySem.W.fnOf "_law_pen" "_law_pen" (defArgs sPen) (defBody sPen) (defScope sPen) .none kVPn dcPn pmPn anPn cdPn ctPn), slPn⟩)
    (cPn : PySem.W.codeIn K cdPn "_law_pen" = true)
    (kPn : PySem.W.keepIn K (.ref fPn) = true)
    (aDr : PySem.W.nsIn K mainGlobals "_law_draw" = some (some (.ref fDr)))
    (lDr : K.lookup fDr = some ⟨ocDr, odDr, .func (PySem.W.fnOf "_law_draw" "_law_draw" (defArgs sDraw) (defBody sDraw) (defScope sDraw) .none kVDr dcDr pmDr anDr cdDr ctDr), slDr⟩)
    (cDr : PySem.W.codeIn K cdDr "_law_draw" = true)
    (kDr : PySem.W.keepIn K (.ref fDr) = true)
    (aPk : PySem.W.nsIn K mainGlobals "_law_pick" = some (some (.ref fPk)))
    (lPk : K.lookup fPk = some ⟨ocPk, odPk, .func (PySem.W.fnOf "_law_pick" "_law_pick" (defArgs sPick) (defBody sPick) (defScope sPick) .none kVPk dcPk pmPk anPk cdPk ctPk), slPk⟩)
    (cPk : PySem.W.codeIn K cdPk "_law_pick" = true)
    (kPk : PySem.W.keepIn K (.ref fPk) = true)
    (aTg : PySem.W.nsIn K mainGlobals "_law_tags" = some (some (.ref fTg)))
    (lTg : K.lookup fTg = some ⟨ocTg, odTg, .func (PySem.W.fnOf "_law_tags" "_law_tags" (defArgs sTags) (defBody sTags) (defScope sTags) .none kVTg dcTg pmTg anTg cdTg ctTg), slTg⟩)
    (cTg : PySem.W.codeIn K cdTg "_law_tags" = true)
    (kTg : PySem.W.keepIn K (.ref fTg) = true)
    (aMd : PySem.W.nsIn K mainGlobals "_law_made" = some (some (.ref fMd)))
    (lMd : K.lookup fMd = some ⟨ocMd, odMd, .func (PySem.W.fnOf "_law_made" "_law_made" (defArgs sMade) (defBody sMade) (defScope sMade) .none kVMd dcMd pmMd anMd cdMd ctMd), slMd⟩)
    (cMd : PySem.W.codeIn K cdMd "_law_made" = true)
    (kMd : PySem.W.keepIn K (.ref fMd) = true)
    (aTo : PySem.W.nsIn K mainGlobals "_law_told_right" = some (some (.ref fTo)))
    (lTo : K.lookup fTo = some ⟨ocTo, odTo, .func (PySem.W.fnOf "_law_told_right" "_law_told_right" (defArgs sTold) (defBody sTold) (defScope sTold) .none kVTo dcTo pmTo anTo cdTo ctTo), slTo⟩)
    (cTo : PySem.W.codeIn K cdTo "_law_told_right" = true)
    (kTo : PySem.W.keepIn K (.ref fTo) = true)
    (aLw : PySem.W.nsIn K mainGlobals "law" = some (some (.ref fLw)))
    (lLw : K.lookup fLw = some ⟨ocLw, odLw, .func (PySem.W.fnOf "law" "law" (defArgs sLaw) (defBody sLaw) (defScope sLaw) .none kVLw dcLw pmLw anLw cdLw ctLw), slLw⟩)
    (cLw : PySem.W.codeIn K cdLw "law" = true)
    (kLw : PySem.W.keepIn K (.ref fLw) = true)
    (aEqL : PySem.W.findIn K (.ref CL) "__eq__" = some (some (.ref fEqL)))
    (iEqL : PySem.W.isFn K (.ref fEqL) = true)
    (lEqL : K.lookup fEqL = some ⟨ocEqL, odEqL, .func (PySem.W.fnOf "__eq__" "Leg.__eq__" (defArgs (sLeg 3)) (defBody (sLeg 3)) (defScope (sLeg 3)) .none kVEqL dcEqL pmEqL anEqL cdEqL ctEqL), slEqL⟩)
    (cEqL : PySem.W.codeIn K cdEqL "Leg.__eq__" = true)
    (kEqL : PySem.W.keepIn K (.ref fEqL) = true)
    (aStL : PySem.W.findIn K (.ref CL) "__str__" = some (some (.ref fStL)))
    (iStL : PySem.W.isFn K (.ref fStL) = true)
    (lStL : K.lookup fStL = some ⟨ocStL, odStL, .func (PySem.W.fnOf "__str__" "Leg.__str__" (defArgs (sLeg 4)) (defBody (sLeg 4)) (defScope (sLeg 4)) .none kVStL dcStL pmStL anStL cdStL ctStL), slStL⟩)
    (cStL : PySem.W.codeIn K cdStL "Leg.__str__" = true)
    (kStL : PySem.W.keepIn K (.ref fStL) = true)
    (aReL : PySem.W.findIn K (.ref CL) "__repr__" = some (some (.ref fReL)))
    (iReL : PySem.W.isFn K (.ref fReL) = true)
    (lReL : K.lookup fReL = some ⟨ocReL, odReL, .func (PySem.W.fnOf "__repr__" "Leg.__repr__" (defArgs (sLeg 5)) (defBody (sLeg 5)) (defScope (sLeg 5)) .none kVReL dcReL pmReL anReL cdReL ctReL), slReL⟩)
    (cReL : PySem.W.codeIn K cdReL "Leg.__repr__" = true)
    (kReL : PySem.W.keepIn K (.ref fReL) = true)
    (aDvL : PySem.W.findIn K (.ref CL) "drives" = some (some (.ref pDvL)))
    (bDvL : PySem.W.specialIn K (.ref pDvL) "__get__" = some (some (.builtin "property.__get__")))
    (dDvL : PySem.W.takesIn K (.ref pDvL) = some true)
    (eDvL : PySem.W.recIn K pDvL "property" = some (.ref fDvL :: rsDvL))
    (lDvL : K.lookup fDvL = some ⟨ocDvL, odDvL, .func (PySem.W.fnOf "drives" "Leg.drives" (defArgs (sLeg 2)) (defBody (sLeg 2)) (defScope (sLeg 2)) .none kVDvL dcDvL pmDvL anDvL cdDvL ctDvL), slDvL⟩)
    (cDvL : PySem.W.codeIn K cdDvL "Leg.drives" = true)
    (kDvL : PySem.W.keepIn K (.ref fDvL) = true)
    (aEqD : PySem.W.findIn K (.ref CD) "__eq__" = some (some (.ref fEqD)))
    (iEqD : PySem.W.isFn K (.ref fEqD) = true)
    (lEqD : K.lookup fEqD = some ⟨ocEqD, odEqD, .func (PySem.W.fnOf "__eq__" "Driver.__eq__" (defArgs (sDrv 3)) (defBody (sDrv 3)) (defScope (sDrv 3)) .none kVEqD dcEqD pmEqD anEqD cdEqD ctEqD), slEqD⟩)
    (cEqD : PySem.W.codeIn K cdEqD "Driver.__eq__" = true)
    (kEqD : PySem.W.keepIn K (.ref fEqD) = true)
    (aStD : PySem.W.findIn K (.ref CD) "__str__" = some (some (.ref fStD)))
    (iStD : PySem.W.isFn K (.ref fStD) = true)
    (lStD : K.lookup fStD = some ⟨ocStD, odStD, .func (PySem.W.fnOf "__str__" "Driver.__str__" (defArgs (sDrv 4)) (defBody (sDrv 4)) (defScope (sDrv 4)) .none kVStD dcStD pmStD anStD cdStD ctStD), slStD⟩)
    (cStD : PySem.W.codeIn K cdStD "Driver.__str__" = true)
    (kStD : PySem.W.keepIn K (.ref fStD) = true)
    (aReD : PySem.W.findIn K (.ref CD) "__repr__" = some (some (.ref fReD)))
    (iReD : PySem.W.isFn K (.ref fReD) = true)
    (lReD : K.lookup fReD = some ⟨ocReD, odReD, .func (PySem.W.fnOf "__repr__" "Driver.__repr__" (defArgs (sDrv 5)) (defBody (sDrv 5)) (defScope (sDrv 5)) .none kVReD dcReD pmReD anReD cdReD ctReD), slReD⟩)
    (cReD : PySem.W.codeIn K cdReD "Driver.__repr__" = true)
    (kReD : PySem.W.keepIn K (.ref fReD) = true)
    (aDvD : PySem.W.findIn K (.ref CD) "drives" = some (some (.ref pDvD)))
    (bDvD : PySem.W.specialIn K (.ref pDvD) "__get__" = some (some (.builtin "property.__get__")))
    (dDvD : PySem.W.takesIn K (.ref pDvD) = some true)
    (eDvD : PySem.W.recIn K pDvD "property" = some (.ref fDvD :: rsDvD))
    (lDvD : K.lookup fDvD = some ⟨ocDvD, odDvD, .func (PySem.W.fnOf "drives" "Driver.drives" (defArgs (sDrv 2)) (defBody (sDrv 2)) (defScope (sDrv 2)) .none kVDvD dcDvD pmDvD anDvD cdDvD ctDvD), slDvD⟩)
    (cDvD : PySem.W.codeIn K cdDvD "Driver.drives" = true)
    (kDvD : PySem.W.keepIn K (.ref fDvD) = true)
    (aEqS : PySem.W.findIn K (.ref CS) "__eq__" = some (some (.ref fEqS)))
    (iEqS : PySem.W.isFn K (.ref fEqS) = true)
    (lEqS : K.lookup fEqS = some ⟨ocEqS, odEqS, .func (PySem.W.fnOf "__eq__" "Listener.__eq__" (defArgs (sLis 3)) (defBody (sLis 3)) (defScope (sLis 3)) .none kVEqS dcEqS pmEqS anEqS cdEqS ctEqS), slEqS⟩)
    (cEqS : PySem.W.codeIn K cdEqS "Listener.__eq__" = true)
    (kEqS : PySem.W.keepIn K (.ref fEqS) = true)
    (aStS : PySem.W.findIn K (.ref CS) "__str__" = some (some (.ref fStS)))
    (iStS : PySem.W.isFn K (.ref fStS) = true)
    (lStS : K.lookup fStS = some ⟨ocStS, odStS, .func (PySem.W.fnOf "__str__" "Listener.__str__" (defArgs (sLis 4)) (defBody (sLis 4)) (defScope (sLis 4)) .none kVStS dcStS pmStS anStS cdStS ctStS), slStS⟩)
    (cStS : PySem.W.codeIn K cdStS "Listener.__str__" = true)
    (kStS : PySem.W.keepIn K (.ref fStS) = true)
    (aReS : PySem.W.findIn K (.ref CS) "__repr__" = some (some (.ref fReS)))
    (iReS : PySem.W.isFn K (.ref fReS) = true)
    (lReS : K.lookup fReS = some ⟨ocReS, odReS, .func (PySem.W.fnOf "__repr__" "Listener.__repr__" (defArgs (sLis 5)) (defBody (sLis 5)) (defScope (sLis 5)) .none kVReS dcReS pmReS anReS cdReS ctReS), slReS⟩)
    (cReS : PySem.W.codeIn K cdReS "Listener.__repr__" = true)
    (kReS : PySem.W.keepIn K (.ref fReS) = true)
    (aDvS : PySem.W.findIn K (.ref CS) "drives" = some (some (.ref pDvS)))
    (bDvS : PySem.W.specialIn K (.ref pDvS) "__get__" = some (some (.builtin "property.__get__")))
    (dDvS : PySem.W.takesIn K (.ref pDvS) = some true)
    (eDvS : PySem.W.recIn K pDvS "property" = some (.ref fDvS :: rsDvS))
    (lDvS : K.lookup fDvS = some ⟨ocDvS, odDvS, .func (PySem.W.fnOf "drives" "Listener.drives" (defArgs (sLis 2)) (defBody (sLis 2)) (defScope (sLis 2)) .none kVDvS dcDvS pmDvS anDvS cdDvS ctDvS), slDvS⟩)
    (cDvS : PySem.W.codeIn K cdDvS "Listener.drives" = true)
    (kDvS : PySem.W.keepIn K (.ref fDvS) = true)
    (aIE : PySem.W.findIn K (.ref CI) "__init__" = some (some (.ref fIE)))
    (iIE : PySem.W.isFn K (.ref fIE) = true)
    (tIE : PySem.W.typeIn K (.ref fIE) = some (.type "function"))
    (lIE : K.lookup fIE = some ⟨ocIE, odIE, .func (PySem.W.fnX "__init__" "InvalidFrame.__init__" (defArgs sInv) (defBody sInv) (defScope sInv) [("__class__", yIE)] .none kVIE dcIE pmIE anIE (.ref xIE) ctIE), slIE⟩)
    (cIE : PySem.W.codeIn K (.ref xIE) "InvalidFrame.__init__" = true)
    (mIE : K.lookup xIE = some ⟨u1IE, v1IE, .fields vsIE, w1IE⟩)
    (nIE : vsIE[2]? = some (.str flIE tfIE))
    (pIE : ((P.main.file : Str) == flIE) = true)
    (qIE : K.lookup yIE = some ⟨u2IE, v2IE, .cell (some (.ref CI)), w2IE⟩)
    (kIE : PySem.W.keepIn K (.ref fIE) = true)
    (aDI : PySem.W.findIn K (.ref CD) "__init__" = some (some (.ref fDI)))
    (iDI : PySem.W.isFn K (.ref fDI) = true)
    (tDI : PySem.W.typeIn K (.ref fDI) = some (.type "function"))
    (lDI : K.lookup fDI = some ⟨ocDI, odDI, .func (PySem.W.fnX "__init__" "Driver.__init__" (defArgs sDrvI) (defBody sDrvI) (defScope sDrvI) [("__class__", yDI)] .none kVDI dcDI pmDI anDI (.ref xDI) ctDI), slDI⟩)
    (cDI : PySem.W.codeIn K (.ref xDI) "Driver.__init__" = true)
    (mDI : K.lookup xDI = some ⟨u1DI, v1DI, .fields vsDI, w1DI⟩)
    (nDI : vsDI[2]? = some (.str flDI tfDI))
    (pDI : ((P.main.file : Str) == flDI) = true)
    (qDI : K.lookup yDI = some ⟨u2DI, v2DI, .cell (some (.ref CD)), w2DI⟩)
    (kDI : PySem.W.keepIn K (.ref fDI) = true)
    (aSI : PySem.W.findIn K (.ref CS) "__init__" = some (some (.ref fSI)))
    (iSI : PySem.W.isFn K (.ref fSI) = true)
    (tSI : PySem.W.typeIn K (.ref fSI) = some (.type "function"))
    (lSI : K.lookup fSI = some ⟨ocSI, odSI, .func (PySem.W.fnX "__init__" "Listener.__init__" (defArgs sLisI) (defBody sLisI) (defScope sLisI) [("__class__", ySI)] .none kVSI dcSI pmSI anSI (.ref xSI) ctSI), slSI⟩)
    (cSI : PySem.W.codeIn K (.ref xSI) "Listener.__init__" = true)
    (mSI : K.lookup xSI = some ⟨u1SI, v1SI, .fields vsSI, w1SI⟩)
    (nSI : vsSI[2]? = some (.str flSI tfSI))
    (pSI : ((P.main.file : Str) == flSI) = true)
    (qSI : K.lookup ySI = some ⟨u2SI, v2SI, .cell (some (.ref CS)), w2SI⟩)
    (kSI : PySem.W.keepIn K (.ref fSI) = true)
    (top_ : (P.main.scope.names.lookup ("super" : Str)).isSome = false)
    (third : PySem.W.nsIn K cStatics "thirdparty.any" = some none)
    (clsCI : PySem.W.clsIn K CI = some cdCI)
    (mrCI : PySem.W.mroIn K CI (.ref CI) = some true)
    (clsCL : PySem.W.clsIn K CL = some cdCL)
    (mrCL : PySem.W.mroIn K CL (.ref CL) = some true)
    (clsCD : PySem.W.clsIn K CD = some cdCD)
    (mrCD : PySem.W.mroIn K CD (.ref CD) = some true)
    (clsCS : PySem.W.clsIn K CS = some cdCS)
    (mrCS : PySem.W.mroIn K CS (.ref CS) = some true)
    (exL : K.lookup CI = some (excClassObj nm q CI Ns bs bm true sn sub ab col dd k0 k1 k2 k3 k5 "ValueError.__new__"))
    (exR : PySem.HandSPX.refsVE bm = true)
    (exS : PySem.W.findIn K (.ref CI) "__setattr__" = some (some (.builtin "object.__setattr__")))
    (exB : PySem.W.subIn K (.ref CI) (.type "BaseException") = some true)
    (exV : PySem.W.subIn K (.ref CI) (.type "ValueError") = some true)
    (exT : PySem.W.typeIn K (.ref CI) = some (.type "type"))
    (exK : PySem.W.keepIn K (.ref CI) = true)
    (exN : PySem.W.findIn K (.ref CI) "reason" = some none)
    (exU : PySem.W.ks_superIn K CI CI "__init__" = some (some (.builtin "ValueError.__init__")))
    (exM : PySem.W.exmOne K (.ref CI) (.ref CI) = some true)
    (exG : PySem.W.findIn K (.ref CI) "__getattribute__" = some (some (.builtin "BaseException.__getattribute__")))
    (exA : PySem.W.findIn K (.ref CI) "__getattr__" = some none)
    (exH : PySem.W.hasDictIn K CI = true)
    (fnLI : PySem.W.fnIn K fLI = true)
    (tyLI : PySem.W.typeIn K (.ref fLI) = some (.type "function"))
    (suCD : PySem.W.ks_superIn K CD CD "__init__" = some (some (.ref fLI)))
    (suCS : PySem.W.ks_superIn K CS CS "__init__" = some (some (.ref fLI)))
    (pgCL : PySem.W.plainGet K CL Str.empty = true)
    (hdCL : PySem.W.hasDictIn K CL = true)
    (poCL : PySem.W.plainOver K CL = true)
    (saCL : PySem.W.findIn K (.ref CL) "__setattr__" = some (some (.builtin "object.__setattr__")))
    (nnCL : PySem.W.findIn K (.ref CL) "name" = some none)
    (caCL : PySem.W.findIn K (.ref CL) "__class__" = some (some (.builtin "object.__class__")))
    (obCL : PySem.W.mroIn K CL (.type "object") = some true)
    (mkCL : PySem.W.makesIn K CL = true)
    (kcCL : PySem.W.keepIn K (.ref CL) = true)
    (kiCL : PySem.W.findIn K (.ref CL) "KIND" = some (some ukCL))
    (rkCL : RelV (.str "leg") ukCL)
    (gkCL : PySem.W.specialIn K ukCL "__get__" = some none)
    (neCL : PySem.W.findIn K (.ref CL) "__ne__" = some (some (.builtin "object.__ne__")))
    (tyCL : PySem.W.typeIn K (.ref CL) = some mcCL)
    (rdCL : PySem.W.readsIn K CL mcCL = true)
    (gaCL : PySem.W.specialIn K (.ref CL) "__getattribute__" = some (some (.builtin "type.__getattribute__")))
    (fcCL : PySem.W.findCls K (.ref CL) mcCL "KIND" = some (.val uvCL))
    (rvCL : RelV (.str "leg") uvCL)
    (nfstrCL : PySem.W.notFirst K CL (.type "str") = true)
    (ktstrCL : PySem.W.kitOne K (.type "str") (.ref CL) = some false)
    (nfNoneTypeCL : PySem.W.notFirst K CL (.type "NoneType") = true)
    (ktNoneTypeCL : PySem.W.kitOne K (.type "NoneType") (.ref CL) = some false)
    (nftupleCL : PySem.W.notFirst K CL (.type "tuple") = true)
    (kttupleCL : PySem.W.kitOne K (.type "tuple") (.ref CL) = some false)
    (kkCLCL : PySem.W.kitOne K (.ref CL) (.ref CL) = some true)
    (kkCLCD : PySem.W.kitOne K (.ref CL) (.ref CD) = some false)
    (kkCLCS : PySem.W.kitOne K (.ref CL) (.ref CS) = some false)
    (pgCD : PySem.W.plainGet K CD Str.empty = true)
    (hdCD : PySem.W.hasDictIn K CD = true)
    (poCD : PySem.W.plainOver K CD = true)
    (saCD : PySem.W.findIn K (.ref CD) "__setattr__" = some (some (.builtin "object.__setattr__")))
    (nnCD : PySem.W.findIn K (.ref CD) "name" = some none)
    (caCD : PySem.W.findIn K (.ref CD) "__class__" = some (some (.builtin "object.__class__")))
    (obCD : PySem.W.mroIn K CD (.type "object") = some true)
    (mkCD : PySem.W.makesIn K CD = true)
    (kcCD : PySem.W.keepIn K (.ref CD) = true)
    (kiCD : PySem.W.findIn K (.ref CD) "KIND" = some (some ukCD))
    (rkCD : RelV (.str "driver") ukCD)
    (gkCD : PySem.W.specialIn K ukCD "__get__" = some none)
    (neCD : PySem.W.findIn K (.ref CD) "__ne__" = some (some (.builtin "object.__ne__")))
    (tyCD : PySem.W.typeIn K (.ref CD) = some mcCD)
    (rdCD : PySem.W.readsIn K CD mcCD = true)
    (gaCD : PySem.W.specialIn K (.ref CD) "__getattribute__" = some (some (.builtin "type.__getattribute__")))
    (fcCD : PySem.W.findCls K (.ref CD) mcCD "KIND" = some (.val uvCD))
    (rvCD : RelV (.str "driver") uvCD)
    (nfstrCD : PySem.W.notFirst K CD (.type "str") = true)
    (ktstrCD : PySem.W.kitOne K (.type "str") (.ref CD) = some false)
    (nfNoneTypeCD : PySem.W.notFirst K CD (.type "NoneType") = true)
    (ktNoneTypeCD : PySem.W.kitOne K (.type "NoneType") (.ref CD) = some false)
    (nftupleCD : PySem.W.notFirst K CD (.type "tuple") = true)
    (kttupleCD : PySem.W.kitOne K (.type "tuple") (.ref CD) = some false)
    (kkCDCL : PySem.W.kitOne K (.ref CD) (.ref CL) = some true)
    (kkCDCD : PySem.W.kitOne K (.ref CD) (.ref CD) = some true)
    (kkCDCS : PySem.W.kitOne K (.ref CD) (.ref CS) = some false)
    (pgCS : PySem.W.plainGet K CS Str.empty = true)
    (hdCS : PySem.W.hasDictIn K CS = true)
    (poCS : PySem.W.plainOver K CS = true)
    (saCS : PySem.W.findIn K (.ref CS) "__setattr__" = some (some (.builtin "object.__setattr__")))
    (nnCS : PySem.W.findIn K (.ref CS) "name" = some none)
    (caCS : PySem.W.findIn K (.ref CS) "__class__" = some (some (.builtin "object.__class__")))
    (obCS : PySem.W.mroIn K CS (.type "object") = some true)
    (mkCS : PySem.W.makesIn K CS = true)
    (kcCS : PySem.W.keepIn K (.ref CS) = true)
    (kiCS : PySem.W.findIn K (.ref CS) "KIND" = some (some ukCS))
    (rkCS : RelV (.str "listener") ukCS)
    (gkCS : PySem.W.specialIn K ukCS "__get__" = some none)
    (neCS : PySem.W.findIn K (.ref CS) "__ne__" = some (some (.builtin "object.__ne__")))
    (tyCS : PySem.W.typeIn K (.ref CS) = some mcCS)
    (rdCS : PySem.W.readsIn K CS mcCS = true)
    (gaCS : PySem.W.specialIn K (.ref CS) "__getattribute__" = some (some (.builtin "type.__getattribute__")))
    (fcCS : PySem.W.findCls K (.ref CS) mcCS "KIND" = some (.val uvCS))
    (rvCS : RelV (.str "listener") uvCS)
    (nfstrCS : PySem.W.notFirst K CS (.type "str") = true)
    (ktstrCS : PySem.W.kitOne K (.type "str") (.ref CS) = some false)
    (nfNoneTypeCS : PySem.W.notFirst K CS (.type "NoneType") = true)
    (ktNoneTypeCS : PySem.W.kitOne K (.type "NoneType") (.ref CS) = some false)
    (nftupleCS : PySem.W.notFirst K CS (.type "tuple") = true)
    (kttupleCS : PySem.W.kitOne K (.type "tuple") (.ref CS) = some false)
    (kkCSCL : PySem.W.kitOne K (.ref CS) (.ref CL) = some true)
    (kkCSCD : PySem.W.kitOne K (.ref CS) (.ref CD) = some false)
    (kkCSCS : PySem.W.kitOne K (.ref CS) (.ref CS) = some true)
    (cn : PySem.W.specialIn K (.builtin "object.__class__") "__get__" = some (some (.builtin "getset_descriptor.__get__")))
    (ct : PySem.W.takesIn K (.builtin "object.__class__") = some true)
    (sdl : PySem.W.subIn K (.ref CD) (.ref CL) = some true)
    (ssl : PySem.W.subIn K (.ref CS) (.ref CL) = some true)
    (nfCDCL : PySem.W.notFirst K CD (.ref CL) = true)
    (nfCSCL : PySem.W.notFirst K CS (.ref CL) = true)
    (nfCSCD : PySem.W.notFirst K CS (.ref CD) = true)
    (nfCDCS : PySem.W.notFirst K CD (.ref CS) = true)
    (neCDCL : CD ≠ CL)
    (neCSCL : CS ≠ CL)
    (neCDCS : CD ≠ CS) :
    ∀ base : Heap, K.In base → base.Ns mainGlobals mg → AtCall P w K mg base fa (spLaw1 K) := by
  intro base _ _
  have e := hfa.symm.trans (PySem.W.mg_of X G aLw)
  cases e
  have mCI := PySem.W.mg_of X G gCI
  have mCL := PySem.W.mg_of X G gCL
  have mCD := PySem.W.mg_of X G gCD
  have mCS := PySem.W.mg_of X G gCS
  have y_isinstance := PySem.W.mg_none_of X G z_isinstance
  have y_str := PySem.W.mg_none_of X G z_str
  have y_len := PySem.W.mg_none_of X G z_len
  have y_all := PySem.W.mg_none_of X G z_all
  have y_repr := PySem.W.mg_none_of X G z_repr
  have y_list := PySem.W.mg_none_of X G z_list
  have y_int := PySem.W.mg_none_of X G z_int
  have y_abs := PySem.W.mg_none_of X G z_abs
  have y_range := PySem.W.mg_none_of X G z_range
  have y_super := PySem.W.mg_none_of X G z_super
  have FN := fun_mk (x := "is_name") (qual := "is_name") (st := sIsName) lN cN kN
  have mN := PySem.W.mg_of X G aN
  have bN_ := FN.binds (ps := ["value"]) fun _ _ _ _ _ _ us hl => match us, hl with | [_], _ => rfl
  have FLI := fun_mk (x := "__init__") (qual := "Leg.__init__") (st := sLegI) lLI cLI kLI
  have bLI_ := FLI.binds (ps := ["self", "name"]) fun _ _ _ _ _ _ us hl => match us, hl with | [_, _], _ => rfl
  have FPn := fun_mk (x := "_law_pen") (qual := "_law_pen") (st := sPen) lPn cPn kPn
  have mPn := PySem.W.mg_of X G aPn
  have bPn_ := FPn.binds (ps := ["_law_script"]) fun _ _ _ _ _ _ us hl => match us, hl with | [_], _ => rfl
  have FDr := fun_mk (x := "_law_draw") (qual := "_law_draw") (st := sDraw) lDr cDr kDr
  have mDr := PySem.W.mg_of X G aDr
  have bDr_ := FDr.binds (ps := ["_law_pen_here", "_law_many"]) fun _ _ _ _ _ _ us hl => match us, hl with | [_, _], _ => rfl
  have FPk := fun_mk (x := "_law_pick") (qual := "_law_pick") (st := sPick) lPk cPk kPk
  have mPk := PySem.W.mg_of X G aPk
  have bPk_ := FPk.binds (ps := ["_law_pen_here", "_law_some"]) fun _ _ _ _ _ _ us hl => match us, hl with | [_, _], _ => rfl
  have FTg := fun_mk (x := "_law_tags") (qual := "_law_tags") (st := sTags) lTg cTg kTg
  have mTg := PySem.W.mg_of X G aTg
  have bTg_ := FTg.binds (ps := ["_law_pen_here", "_law_many"]) fun _ _ _ _ _ _ us hl => match us, hl with | [_, _], _ => rfl
  have FMd := fun_mk (x := "_law_made") (qual := "_law_made") (st := sMade) lMd cMd kMd
  have mMd := PySem.W.mg_of X G aMd
  have bMd_ := FMd.binds (ps := ["_law_kind", "_law_tag"]) fun _ _ _ _ _ _ us hl => match us, hl with | [_, _], _ => rfl
  have FTo := fun_mk (x := "_law_told_right") (qual := "_law_told_right") (st := sTold) lTo cTo kTo
  have mTo := PySem.W.mg_of X G aTo
  have bTo_ := FTo.binds (ps := ["_law_kind", "_law_tag", "_law_leg"]) fun _ _ _ _ _ _ us hl => match us, hl with | [_, _, _], _ => rfl
  have FLw := fun_mk (x := "law") (qual := "law") (st := sLaw) lLw cLw kLw
  have mLw := PySem.W.mg_of X G aLw
  have FEqL := fun_mk (x := "__eq__") (qual := "Leg.__eq__") (st := (sLeg 3)) lEqL cEqL kEqL
  have bEqL_ := FEqL.binds (ps := ["self", "other"]) fun _ _ _ _ _ _ us hl => match us, hl with | [_, _], _ => rfl
  have FStL := fun_mk (x := "__str__") (qual := "Leg.__str__") (st := (sLeg 4)) lStL cStL kStL
  have bStL_ := FStL.binds (ps := ["self"]) fun _ _ _ _ _ _ us hl => match us, hl with | [_], _ => rfl
  have FReL := fun_mk (x := "__repr__") (qual := "Leg.__repr__") (st := (sLeg 5)) lReL cReL kReL
  have bReL_ := FReL.binds (ps := ["self"]) fun _ _ _ _ _ _ us hl => match us, hl with | [_], _ => rfl
  have FDvL := fun_mk (x := "drives") (qual := "Leg.drives") (st := (sLeg 2)) lDvL cDvL kDvL
  have bDvL_ := FDvL.binds (ps := ["self"]) fun _ _ _ _ _ _ us hl => match us, hl with | [_], _ => rfl
  have FEqD := fun_mk (x := "__eq__") (qual := "Driver.__eq__") (st := (sDrv 3)) lEqD cEqD kEqD
  have bEqD_ := FEqD.binds (ps := ["self", "other"]) fun _ _ _ _ _ _ us hl => match us, hl with | [_, _], _ => rfl
  have FStD := fun_mk (x := "__str__") (qual := "Driver.__str__") (st := (sDrv 4)) lStD cStD kStD
  have bStD_ := FStD.binds (ps := ["self"]) fun _ _ _ _ _ _ us hl => match us, hl with | [_], _ => rfl
  have FReD := fun_mk (x := "__repr__") (qual := "Driver.__repr__") (st := (sDrv 5)) lReD cReD kReD
  have bReD_ := FReD.binds (ps := ["self"]) fun _ _ _ _ _ _ us hl => match us, hl with | [_], _ => rfl
  have FDvD := fun_mk (x := "drives") (qual := "Driver.drives") (st := (sDrv 2)) lDvD cDvD kDvD
  have bDvD_ := FDvD.binds (ps := ["self"]) fun _ _ _ _ _ _ us hl => match us, hl with | [_], _ => rfl
  have FEqS := fun_mk (x := "__eq__") (qual := "Listener.__eq__") (st := (sLis 3)) lEqS cEqS kEqS
  have bEqS_ := FEqS.binds (ps := ["self", "other"]) fun _ _ _ _ _ _ us hl => match us, hl with | [_, _], _ => rfl
  have FStS := fun_mk (x := "__str__") (qual := "Listener.__str__") (st := (sLis 4)) lStS cStS kStS
  have bStS_ := FStS.binds (ps := ["self"]) fun _ _ _ _ _ _ us hl => match us, hl with | [_], _ => rfl
  have FReS := fun_mk (x := "__repr__") (qual := "Listener.__repr__") (st := (sLis 5)) lReS cReS kReS
  have bReS_ := FReS.binds (ps := ["self"]) fun _ _ _ _ _ _ us hl => match us, hl with | [_], _ => rfl
  have FDvS := fun_mk (x := "drives") (qual := "Listener.drives") (st := (sLis 2)) lDvS cDvS kDvS
  have bDvS_ := FDvS.binds (ps := ["self"]) fun _ _ _ _ _ _ us hl => match us, hl with | [_], _ => rfl
  have FIE : FunS P K "__init__" "InvalidFrame.__init__" sInv fIE _ xIE yIE CI := ⟨⟨ocIE, odIE, kVIE, dcIE, pmIE, anIE, ctIE, slIE, rfl, lIE⟩, cIE, ⟨u1IE, v1IE, vsIE, w1IE, flIE, tfIE, mIE, nIE, pIE⟩, ⟨u2IE, v2IE, w2IE, qIE⟩, kIE⟩
  have bIE_ : Binds K (PySem.W.fnX "__init__" "InvalidFrame.__init__" (defArgs sInv) (defBody sInv) (defScope sInv) [("__class__", yIE)] .none kVIE dcIE pmIE anIE (.ref xIE) ctIE) ["self", "reason"] [] := .all fun us hl => match us, hl with | [_, _], _ => rfl
  have FDI : FunS P K "__init__" "Driver.__init__" sDrvI fDI _ xDI yDI CD := ⟨⟨ocDI, odDI, kVDI, dcDI, pmDI, anDI, ctDI, slDI, rfl, lDI⟩, cDI, ⟨u1DI, v1DI, vsDI, w1DI, flDI, tfDI, mDI, nDI, pDI⟩, ⟨u2DI, v2DI, w2DI, qDI⟩, kDI⟩
  have bDI_ : Binds K (PySem.W.fnX "__init__" "Driver.__init__" (defArgs sDrvI) (defBody sDrvI) (defScope sDrvI) [("__class__", yDI)] .none kVDI dcDI pmDI anDI (.ref xDI) ctDI) ["self", "name"] [] := .all fun us hl => match us, hl with | [_, _], _ => rfl
  have FSI : FunS P K "__init__" "Listener.__init__" sLisI fSI _ xSI ySI CS := ⟨⟨ocSI, odSI, kVSI, dcSI, pmSI, anSI, ctSI, slSI, rfl, lSI⟩, cSI, ⟨u1SI, v1SI, vsSI, w1SI, flSI, tfSI, mSI, nSI, pSI⟩, ⟨u2SI, v2SI, w2SI, qSI⟩, kSI⟩
  have bSI_ : Binds K (PySem.W.fnX "__init__" "Listener.__init__" (defArgs sLisI) (defBody sLisI) (defScope sLisI) [("__class__", ySI)] .none kVSI dcSI pmSI anSI (.ref xSI) ctSI) ["self", "name"] [] := .all fun us hl => match us, hl with | [_, _], _ => rfl
  have zLI : KBn K (PySem.W.fnOf "__init__" "Leg.__init__" (defArgs sLegI) (defBody sLegI) (defScope sLegI) .none kVLI dcLI pmLI anLI cdLI ctLI) ["self", "name"] 1 ["name"] (fun us ws => us ++ ws) (fun vs zs => vs ++ zs) := ⟨fun s us ws _ l1 l2 => match us, l1, ws, l2 with | [_], _, [_], _ => .of_eq rfl, fun r1 r2 => r1.append r2⟩
  have zDI : KBn K (PySem.W.fnX "__init__" "Driver.__init__" (defArgs sDrvI) (defBody sDrvI) (defScope sDrvI) [("__class__", yDI)] .none kVDI dcDI pmDI anDI (.ref xDI) ctDI) ["self", "name"] 1 ["name"] (fun us ws => us ++ ws) (fun vs zs => vs ++ zs) := ⟨fun s us ws _ l1 l2 => match us, l1, ws, l2 with | [_], _, [_], _ => .of_eq rfl, fun r1 r2 => r1.append r2⟩
  have zSI : KBn K (PySem.W.fnX "__init__" "Listener.__init__" (defArgs sLisI) (defBody sLisI) (defScope sLisI) [("__class__", ySI)] .none kVSI dcSI pmSI anSI (.ref xSI) ctSI) ["self", "name"] 1 ["name"] (fun us ws => us ++ ws) (fun vs zs => vs ++ zs) := ⟨fun s us ws _ l1 l2 => match us, l1, ws, l2 with | [_], _, [_], _ => .of_eq rfl, fun r1 r2 => r1.append r2⟩
  have NT : NmT K mg := ⟨y_isinstance, y_str, y_len, y_all, ⟨tL, PySem.W.mg_of X G gLet⟩, ⟨tN, PySem.W.mg_of X G gLon⟩, ⟨aR, PySem.W.mg_of X G gRes, fun H => .inr ⟨_, itsR, nR, lRes, rfl, rfl, sRes, vRes⟩⟩⟩
  have suCI_ : SupT P K mg CI := ⟨top_, y_super, ⟨cdCI, clsCI⟩, third⟩
  have suCL_ : SupT P K mg CL := ⟨top_, y_super, ⟨cdCL, clsCL⟩, third⟩
  have suCD_ : SupT P K mg CD := ⟨top_, y_super, ⟨cdCD, clsCD⟩, third⟩
  have suCS_ : SupT P K mg CS := ⟨top_, y_super, ⟨cdCS, clsCS⟩, third⟩
  have OE : OexC K CI := ⟨⟨nm, q, Ns, bs, bm, sn, sub, ab, col, dd, k0, k1, k2, k3, k5, exL, exR⟩, exS, exB, exT, exK⟩
  have ET : ExT P K mg CI "reason" := ⟨suCI_, OE, exU, exV, mrCI, exN⟩
  have LT : LgT P K mg CI fIE fLI fN := ⟨ET, aIE, tIE, mCI, mN⟩
  have clCL : Cls K CL := ⟨pgCL, hdCL, poCL, saCL⟩
  have isCL : IsiC K CL := ⟨clCL, caCL, cn, ct, obCL⟩
  have glCL : FnOk P w K mg base (L2.CX P w) 3 fLI _ ["self", "name"] (spLegI K CI CL) := ok_legI FLI LT NT ⟨clCL, nnCL⟩ FN bN_ FIE bIE_
  have clCD : Cls K CD := ⟨pgCD, hdCD, poCD, saCD⟩
  have isCD : IsiC K CD := ⟨clCD, caCD, cn, ct, obCD⟩
  have glCD : FnOk P w K mg base (L2.CX P w) 3 fLI _ ["self", "name"] (spLegI K CI CD) := ok_legI FLI LT NT ⟨clCD, nnCD⟩ FN bN_ FIE bIE_
  have clCS : Cls K CS := ⟨pgCS, hdCS, poCS, saCS⟩
  have isCS : IsiC K CS := ⟨clCS, caCS, cn, ct, obCS⟩
  have glCS : FnOk P w K mg base (L2.CX P w) 3 fLI _ ["self", "name"] (spLegI K CI CS) := ok_legI FLI LT NT ⟨clCS, nnCS⟩ FN bN_ FIE bIE_
  have gD := ok_drvI FDI ⟨suCD_, suCD, tyLI, fnLI, mrCD⟩ bLI_ glCD
  have gS := ok_lisI FSI ⟨suCS_, suCS, tyLI, fnLI, mrCS⟩ bLI_ glCS
  have MD : MkC P w K mg base CI CD "Driver" := ⟨⟨fDI, _, ⟨mkCD, aDI, iDI, kcCD⟩, gD, bDI_, zDI⟩, mCD⟩
  have MS : MkC P w K mg base CI CS "Listener" := ⟨⟨fSI, _, ⟨mkCS, aSI, iSI, kcCS⟩, gS, bSI_, zSI⟩, mCS⟩
  have ML : MkC P w K mg base CI CL "Leg" := ⟨⟨fLI, _, ⟨mkCL, aLI, iLI, kcCL⟩, glCL.mono (by decide), bLI_, zLI⟩, mCL⟩
  have cnCD : Con K CD "KIND" (.str "driver") ukCD := ⟨kiCD, rkCD, gkCD, by decide +kernel⟩
  have etCD : EqT K mg CD "Driver" := ⟨y_isinstance, mCD, isCD, kkCDCD, nnCD⟩
  have efCD : EqF P w K mg base CD := ⟨⟨fEqD, _, aEqD, iEqD, ok_eqD FEqD etCD, bEqD_⟩, neCD, obCD⟩
  have drCD : FnOk P w K mg base CX0 1 fDvD (PySem.W.fnOf "drives" "Driver.drives" (defArgs (sDrv 2)) (defBody (sDrv 2)) (defScope (sDrv 2)) .none kVDvD dcDvD pmDvD anDvD cdDvD ctDvD) ["self"] (spDr CD (decide (("driver" : Str) = "driver"))) := by
    rw [show decide (("driver" : Str) = "driver") = true from by decide +kernel]
    exact ok_drives FDvD rfl rfl
  have stCD : FnOk P w K mg base CX0 1 fStD (PySem.W.fnOf "__str__" "Driver.__str__" (defArgs (sDrv 4)) (defBody (sDrv 4)) (defScope (sDrv 4)) .none kVStD dcStD pmStD anStD cdStD ctStD) ["self"] (spStr1 CD (("driver" : Str) ++ " ")) := by
    rw [show (("driver" : Str) ++ " ") = Str.empty ++ ("driver " : Str) from by decide +kernel]
    exact ok_str1 FStD rfl rfl (by decide +kernel) clCD nnCD
  have reCD : FnOk P w K mg base CX0 1 fReD (PySem.W.fnOf "__repr__" "Driver.__repr__" (defArgs (sDrv 5)) (defBody (sDrv 5)) (defScope (sDrv 5)) .none kVReD dcReD pmReD anReD cdReD ctReD) ["self"] (spStr CD (faceOf "driver" ++ "(") ")") := by
    rw [show (faceOf "driver" ++ "(") = Str.empty ++ ("Driver(" : Str) from by decide +kernel]
    exact ok_str2 FReD rfl rfl (by decide +kernel) (by decide +kernel) clCD nnCD
  have kdCD : KdC P w K mg base ⟨CD, CS, CL⟩ "driver" CD := ⟨isCD, nnCD, ⟨ukCD, cnCD⟩, ⟨pDvD, fDvD, _, ⟨aDvD, bDvD, dDvD, _, eDvD⟩, drCD, bDvD_⟩, ⟨fStD, _, aStD, iStD, stCD, bStD_⟩, ⟨fReD, _, aReD, iReD, reCD, bReD_⟩, kkCDCL, (by rw [show decide (("driver" : Str) = "driver") = true from by decide +kernel]; exact kkCDCD), (by rw [show decide (("driver" : Str) = "listener") = false from by decide +kernel]; exact kkCDCS)⟩
  have cnCS : Con K CS "KIND" (.str "listener") ukCS := ⟨kiCS, rkCS, gkCS, by decide +kernel⟩
  have etCS : EqT K mg CS "Listener" := ⟨y_isinstance, mCS, isCS, kkCSCS, nnCS⟩
  have efCS : EqF P w K mg base CS := ⟨⟨fEqS, _, aEqS, iEqS, ok_eqI FEqS etCS, bEqS_⟩, neCS, obCS⟩
  have drCS : FnOk P w K mg base CX0 1 fDvS (PySem.W.fnOf "drives" "Listener.drives" (defArgs (sLis 2)) (defBody (sLis 2)) (defScope (sLis 2)) .none kVDvS dcDvS pmDvS anDvS cdDvS ctDvS) ["self"] (spDr CS (decide (("listener" : Str) = "driver"))) := by
    rw [show decide (("listener" : Str) = "driver") = false from by decide +kernel]
    exact ok_drives FDvS rfl rfl
  have stCS : FnOk P w K mg base CX0 1 fStS (PySem.W.fnOf "__str__" "Listener.__str__" (defArgs (sLis 4)) (defBody (sLis 4)) (defScope (sLis 4)) .none kVStS dcStS pmStS anStS cdStS ctStS) ["self"] (spStr1 CS (("listener" : Str) ++ " ")) := by
    rw [show (("listener" : Str) ++ " ") = Str.empty ++ ("listener " : Str) from by decide +kernel]
    exact ok_str1 FStS rfl rfl (by decide +kernel) clCS nnCS
  have reCS : FnOk P w K mg base CX0 1 fReS (PySem.W.fnOf "__repr__" "Listener.__repr__" (defArgs (sLis 5)) (defBody (sLis 5)) (defScope (sLis 5)) .none kVReS dcReS pmReS anReS cdReS ctReS) ["self"] (spStr CS (faceOf "listener" ++ "(") ")") := by
    rw [show (faceOf "listener" ++ "(") = Str.empty ++ ("Listener(" : Str) from by decide +kernel]
    exact ok_str2 FReS rfl rfl (by decide +kernel) (by decide +kernel) clCS nnCS
  have kdCS : KdC P w K mg base ⟨CD, CS, CL⟩ "listener" CS := ⟨isCS, nnCS, ⟨ukCS, cnCS⟩, ⟨pDvS, fDvS, _, ⟨aDvS, bDvS, dDvS, _, eDvS⟩, drCS, bDvS_⟩, ⟨fStS, _, aStS, iStS, stCS, bStS_⟩, ⟨fReS, _, aReS, iReS, reCS, bReS_⟩, kkCSCL, (by rw [show decide (("listener" : Str) = "driver") = false from by decide +kernel]; exact kkCSCD), (by rw [show decide (("listener" : Str) = "listener") = true from by decide +kernel]; exact kkCSCS)⟩
  have cnCL : Con K CL "KIND" (.str "leg") ukCL := ⟨kiCL, rkCL, gkCL, by decide +kernel⟩
  have etCL : EqT K mg CL "Leg" := ⟨y_isinstance, mCL, isCL, kkCLCL, nnCL⟩
  have efCL : EqF P w K mg base CL := ⟨⟨fEqL, _, aEqL, iEqL, ok_eqL FEqL etCL cnCL, bEqL_⟩, neCL, obCL⟩
  have drCL : FnOk P w K mg base CX0 1 fDvL (PySem.W.fnOf "drives" "Leg.drives" (defArgs (sLeg 2)) (defBody (sLeg 2)) (defScope (sLeg 2)) .none kVDvL dcDvL pmDvL anDvL cdDvL ctDvL) ["self"] (spDr CL (decide (("leg" : Str) = "driver"))) := by
    rw [show decide (("leg" : Str) = "driver") = false from by decide +kernel]
    exact ok_drives FDvL rfl rfl
  have stCL : FnOk P w K mg base CX0 1 fStL (PySem.W.fnOf "__str__" "Leg.__str__" (defArgs (sLeg 4)) (defBody (sLeg 4)) (defScope (sLeg 4)) .none kVStL dcStL pmStL anStL cdStL ctStL) ["self"] (spStr1 CL (("leg" : Str) ++ " ")) := by
    rw [show (("leg" : Str) ++ " ") = Str.empty ++ ("leg " : Str) from by decide +kernel]
    exact ok_str1 FStL rfl rfl (by decide +kernel) clCL nnCL
  have reCL : FnOk P w K mg base CX0 1 fReL (PySem.W.fnOf "__repr__" "Leg.__repr__" (defArgs (sLeg 5)) (defBody (sLeg 5)) (defScope (sLeg 5)) .none kVReL dcReL pmReL anReL cdReL ctReL) ["self"] (spStr CL (faceOf "leg" ++ "(") ")") := by
    rw [show (faceOf "leg" ++ "(") = Str.empty ++ ("Leg(" : Str) from by decide +kernel]
    exact ok_str2 FReL rfl rfl (by decide +kernel) (by decide +kernel) clCL nnCL
  have kdCL : KdC P w K mg base ⟨CD, CS, CL⟩ "leg" CL := ⟨isCL, nnCL, ⟨ukCL, cnCL⟩, ⟨pDvL, fDvL, _, ⟨aDvL, bDvL, dDvL, _, eDvL⟩, drCL, bDvL_⟩, ⟨fStL, _, aStL, iStL, stCL, bStL_⟩, ⟨fReL, _, aReL, iReL, reCL, bReL_⟩, kkCLCL, (by rw [show decide (("leg" : Str) = "driver") = false from by decide +kernel]; exact kkCLCD), (by rw [show decide (("leg" : Str) = "listener") = false from by decide +kernel]; exact kkCLCS)⟩
  have KD : ∀ kz C, (Kinds.of ⟨CD, CS, CL⟩ kz C) → KdC P w K mg base ⟨CD, CS, CL⟩ kz C := by
    rintro kz C (⟨rfl, rfl⟩ | ⟨rfl, rfl⟩ | ⟨rfl, rfl⟩)
    · exact kdCD
    · exact kdCS
    · exact kdCL
  have EF : ∀ C, (Kinds.has ⟨CD, CS, CL⟩ C) → EqF P w K mg base C := by
    rintro C (rfl | rfl | rfl)
    · exact efCD
    · exact efCS
    · exact efCL
  have tri : ∀ {R : Addr → Prop}, R CD → R CS → R CL → ∀ C, (Kinds.has ⟨CD, CS, CL⟩ C) → R C := by
    rintro R a b c C (rfl | rfl | rfl)
    · exact a
    · exact b
    · exact c
  have OR : Ord K ⟨CD, CS, CL⟩ := { ndl := neCDCL, nil := neCSCL, ndi := neCDCS, dl := sdl, il := ssl, ld := nfCDCL, li := nfCSCL, di := nfCSCD, id_ := nfCDCS, str := tri nfstrCD nfstrCS nfstrCL, non := tri nfNoneTypeCD nfNoneTypeCS nfNoneTypeCL, tup := tri nftupleCD nftupleCS nftupleCL, kd := kkCLCD, ki := kkCLCS, kdi := kkCDCS, kid := kkCSCD, kstr := tri ktstrCD ktstrCS ktstrCL, knon := tri ktNoneTypeCD ktNoneTypeCS ktNoneTypeCL, ktup := tri kttupleCD kttupleCS kttupleCL }
  have BI : Bi mg := ⟨y_int, y_len, y_abs⟩
  have MT : MadeT P w K mg base ⟨CD, CS, CL⟩ CI := ⟨MD, MS, ML, mCI, exM, ⟨exG, exA, exB, exH⟩, exN⟩
  have TT : ToldT K mg ⟨CD, CS, CL⟩ := ⟨y_repr, y_str, y_isinstance, mCD, mCS, mCL⟩
  refine at_law FLw (fun s u => .of_eq rfl) (CI := CI) (ks := ⟨CD, CS, CL⟩) ?_
  exact { pen := ⟨⟨fPn, _, ok_pen FPn y_list, mPn, kPn, bPn_⟩⟩, pick := ⟨⟨fPk, _, ok_pick FPk BI FDr bDr_ mDr, mPk, kPk, bPk_⟩⟩, tags := ⟨⟨fTg, _, ok_tags FTg BI y_range FDr bDr_ mDr, mTg, kTg, bTg_⟩⟩, made := ⟨⟨fMd, _, ok_made FMd MT, mMd, kMd, bMd_⟩⟩, told := ⟨⟨fTo, _, ok_told FTo TT KD, mTo, kTo, bTo_⟩⟩, mkc := MT, tt := TT, range := y_range, kd := KD, eq := EF, ord := OR, vD := ⟨mcCD, uvCD, ⟨rdCD, gaCD⟩, ⟨fcCD, rvCD⟩⟩, vI := ⟨mcCS, uvCS, ⟨rdCS, gaCS⟩, ⟨fcCS, rvCS⟩⟩, vL := ⟨mcCL, uvCL, ⟨rdCL, gaCL⟩, ⟨fcCL, rvCL⟩⟩ }
end Sj
open PySem PySem.W PyProof.Rows in
set_option maxRecDepth 100000 in
set_option maxHeartbeats 0 in
theorem PySem.Challenge.cw_strayjoins_k02_legs_holds : PySem.Challenge.rw_strayjoins_k02_legs.Holds := by
  w_on; o_law; k_head; (case hw => w_witness2)
  k_fill
  refine Sup.walk_at (l := PySem.Challenge.rw_strayjoins_k02_legs) (sp := Sj.spLaw1) rfl (by decide) rfl (fun w h Y => PySem.W.kIn_of Y) ?F ?W
  case W => exact fun K H a ns hl hS => ⟨a, ns, rfl, hS, hl, fun _ => rfl⟩
  case F =>
    intro w mg f h KX G hmg
    refine' Sj.all_mk KX G hmg ?gCI ?gCL ?gCD ?gCS ?gLet ?gLon ?gRes ?lRes ?sRes ?vRes ?z_isinstance ?z_str ?z_len ?z_all ?z_repr ?z_list ?z_int ?z_abs ?z_range ?z_super ?aN ?lN ?cN ?kN ?aLI ?iLI ?lLI ?cLI ?kLI ?aPn ?lPn ?cPn ?kPn ?aDr ?lDr ?cDr ?kDr ?aPk ?lPk ?cPk ?kPk ?aTg ?lTg ?cTg ?kTg ?aMd ?lMd ?cMd ?kMd ?aTo ?lTo ?cTo ?kTo ?aLw ?lLw ?cLw ?kLw ?aEqL ?iEqL ?lEqL ?cEqL ?kEqL ?aStL ?iStL ?lStL ?cStL ?kStL ?aReL ?iReL ?lReL ?cReL ?kReL ?aDvL ?bDvL ?dDvL ?eDvL ?lDvL ?cDvL ?kDvL ?aEqD ?iEqD ?lEqD ?cEqD ?kEqD ?aStD ?iStD ?lStD ?cStD ?kStD ?aReD ?iReD ?lReD ?cReD ?kReD ?aDvD ?bDvD ?dDvD ?eDvD ?lDvD ?cDvD ?kDvD ?aEqS ?iEqS ?lEqS ?cEqS ?kEqS ?aStS ?iStS ?lStS ?cStS ?kStS ?aReS ?iReS ?lReS ?cReS ?kReS ?aDvS ?bDvS ?dDvS ?eDvS ?lDvS ?cDvS ?kDvS ?aIE ?iIE ?tIE ?lIE ?cIE ?mIE ?nIE ?pIE ?qIE ?kIE ?aDI ?iDI ?tDI ?lDI ?cDI ?mDI ?nDI ?pDI ?qDI ?kDI ?aSI ?iSI ?tSI ?lSI ?cSI ?mSI ?nSI ?pSI ?qSI ?kSI ?top_ ?third ?clsCI ?mrCI ?clsCL ?mrCL ?clsCD ?mrCD ?clsCS ?mrCS ?exL ?exR ?exS ?exB ?exV ?exT ?exK ?exN ?exU ?exM ?exG ?exA ?exH ?fnLI ?tyLI ?suCD ?suCS ?pgCL ?hdCL ?poCL ?saCL ?nnCL ?caCL ?obCL ?mkCL ?kcCL ?kiCL ?rkCL ?gkCL ?neCL ?tyCL ?rdCL ?gaCL ?fcCL ?rvCL ?nfstrCL ?ktstrCL ?nfNoneTypeCL ?ktNoneTypeCL ?nftupleCL ?kttupleCL ?kkCLCL ?kkCLCD ?kkCLCS ?pgCD ?hdCD ?poCD ?saCD ?nnCD ?caCD ?obCD ?mkCD ?kcCD ?kiCD ?rkCD ?gkCD ?neCD ?tyCD ?rdCD ?gaCD ?fcCD ?rvCD ?nfstrCD ?ktstrCD ?nfNoneTypeCD ?ktNoneTypeCD ?nftupleCD ?kttupleCD ?kkCDCL ?kkCDCD ?kkCDCS ?pgCS ?hdCS ?poCS ?saCS ?nnCS ?caCS ?obCS ?mkCS ?kcCS ?kiCS ?rkCS ?gkCS ?neCS ?tyCS ?rdCS ?gaCS ?fcCS ?rvCS ?nfstrCS ?ktstrCS ?nfNoneTypeCS ?ktNoneTypeCS ?nftupleCS ?kttupleCS ?kkCSCL ?kkCSCD ?kkCSCS ?cn ?ct ?sdl ?ssl ?nfCDCL ?nfCSCL ?nfCSCD ?nfCDCS ?neCDCL ?neCSCL ?neCDCS
    case gCI => k_is
    case gCL => k_is
    case gCD => k_is
    case gCS => k_is
    case gLet => k_is
    case gLon => k_is
    case gRes => k_is
    case lRes => k_is
    case sRes => decide
    case vRes => exact .cons ⟨_, rfl⟩ (.cons ⟨_, rfl⟩ (.cons ⟨_, rfl⟩ .nil))
    case z_isinstance => k_is
    case z_str => k_is
    case z_len => k_is
    case z_all => k_is
    case z_repr => k_is
    case z_list => k_is
    case z_int => k_is
    case z_abs => k_is
    case z_range => k_is
    case z_super => k_is
    case aN => k_is
    case lN => k_is
    case cN => k_is
    case kN => k_is
    case aLI => k_is
    case iLI => k_is
    case lLI => k_is
    case cLI => k_is
    case kLI => k_is
    case aPn => k_is
    case lPn => k_is
    case cPn => k_is
    case kPn => k_is
    case aDr => k_is
    case lDr => k_is
    case cDr => k_is
    case kDr => k_is
    case aPk => k_is
    case lPk => k_is
    case cPk => k_is
    case kPk => k_is
    case aTg => k_is
    case lTg => k_is
    case cTg => k_is
    case kTg => k_is
    case aMd => k_is
    case lMd => k_is
    case cMd => k_is
    case kMd => k_is
    case aTo => k_is
    case lTo => k_is
    case cTo => k_is
    case kTo => k_is
    case aLw => k_is
    case lLw => k_is
    case cLw => k_is
    case kLw => k_is
    case aEqL => k_is
    case iEqL => k_is
    case lEqL => k_is
    case cEqL => k_is
    case kEqL => k_is
    case aStL => k_is
    case iStL => k_is
    case lStL => k_is
    case cStL => k_is
    case kStL => k_is
    case aReL => k_is
    case iReL => k_is
    case lReL => k_is
    case cReL => k_is
    case kReL => k_is
    case aDvL => k_is
    case bDvL => k_is
    case dDvL => k_is
    case eDvL => k_is
    case lDvL => k_is
    case cDvL => k_is
    case kDvL => k_is
    case aEqD => k_is
    case iEqD => k_is
    case lEqD => k_is
    case cEqD => k_is
    case kEqD => k_is
    case aStD => k_is
    case iStD => k_is
    case lStD => k_is
    case cStD => k_is
    case kStD => k_is
    case aReD => k_is
    case iReD => k_is
    case lReD => k_is
    case cReD => k_is
    case kReD => k_is
    case aDvD => k_is
    case bDvD => k_is
    case dDvD => k_is
    case eDvD => k_is
    case lDvD => k_is
    case cDvD => k_is
    case kDvD => k_is
    case aEqS => k_is
    case iEqS => k_is
    case lEqS => k_is
    case cEqS => k_is
    case kEqS => k_is
    case aStS => k_is
    case iStS => k_is
    case lStS => k_is
    case cStS => k_is
    case kStS => k_is
    case aReS => k_is
    case iReS => k_is
    case lReS => k_is
    case cReS => k_is
    case kReS => k_is
    case aDvS => k_is
    case bDvS => k_is
    case dDvS => k_is
    case eDvS => k_is
    case lDvS => k_is
    case cDvS => k_is
    case kDvS => k_is
    case aIE => k_is
    case iIE => k_is
    case tIE => k_is
    case lIE => k_is
    case cIE => k_is
    case mIE => k_is
    case nIE => rfl
    case pIE => first | rfl | decide +kernel
    case qIE => k_is
    case kIE => k_is
    case aDI => k_is
    case iDI => k_is
    case tDI => k_is
    case lDI => k_is
    case cDI => k_is
    case mDI => k_is
    case nDI => rfl
    case pDI => first | rfl | decide +kernel
    case qDI => k_is
    case kDI => k_is
    case aSI => k_is
    case iSI => k_is
    case tSI => k_is
    case lSI => k_is
    case cSI => k_is
    case mSI => k_is
    case nSI => rfl
    case pSI => first | rfl | decide +kernel
    case qSI => k_is
    case kSI => k_is
    case top_ => first | rfl | decide +kernel
    case third => k_is
    case clsCI => k_is
    case mrCI => k_is
    case clsCL => k_is
    case mrCL => k_is
    case clsCD => k_is
    case mrCD => k_is
    case clsCS => k_is
    case mrCS => k_is
    case exL => k_is
    case exR => decide +kernel
    case exS => k_is
    case exB => k_is
    case exV => k_is
    case exT => k_is
    case exK => k_is
    case exN => k_is
    case exU => kernel_rfl
    case exM => kernel_rfl
    case exG => k_is
    case exA => k_is
    case exH => k_is
    case fnLI => k_is
    case tyLI => k_is
    case suCD => kernel_rfl
    case suCS => kernel_rfl
    case pgCL => k_is
    case hdCL => k_is
    case poCL => k_is
    case saCL => k_is
    case nnCL => k_is
    case caCL => k_is
    case obCL => k_is
    case mkCL => k_is
    case kcCL => k_is
    case kiCL => k_is
    case rkCL => exact ⟨_, rfl⟩
    case gkCL => k_is
    case neCL => k_is
    case tyCL => k_is
    case rdCL => k_is
    case gaCL => k_is
    case fcCL => k_is
    case rvCL => exact ⟨_, rfl⟩
    case nfstrCL => k_is
    case ktstrCL => kernel_rfl
    case nfNoneTypeCL => k_is
    case ktNoneTypeCL => kernel_rfl
    case nftupleCL => k_is
    case kttupleCL => kernel_rfl
    case kkCLCL => kernel_rfl
    case kkCLCD => kernel_rfl
    case kkCLCS => kernel_rfl
    case pgCD => k_is
    case hdCD => k_is
    case poCD => k_is
    case saCD => k_is
    case nnCD => k_is
    case caCD => k_is
    case obCD => k_is
    case mkCD => k_is
    case kcCD => k_is
    case kiCD => k_is
    case rkCD => exact ⟨_, rfl⟩
    case gkCD => k_is
    case neCD => k_is
    case tyCD => k_is
    case rdCD => k_is
    case gaCD => k_is
    case fcCD => k_is
    case rvCD => exact ⟨_, rfl⟩
    case nfstrCD => k_is
    case ktstrCD => kernel_rfl
    case nfNoneTypeCD => k_is
    case ktNoneTypeCD => kernel_rfl
    case nftupleCD => k_is
    case kttupleCD => kernel_rfl
    case kkCDCL => kernel_rfl
    case kkCDCD => kernel_rfl
    case kkCDCS => kernel_rfl
    case pgCS => k_is
    case hdCS => k_is
    case poCS => k_is
    case saCS => k_is
    case nnCS => k_is
    case caCS => k_is
    case obCS => k_is
    case mkCS => k_is
    case kcCS => k_is
    case kiCS => k_is
    case rkCS => exact ⟨_, rfl⟩
    case gkCS => k_is
    case neCS => k_is
    case tyCS => k_is
    case rdCS => k_is
    case gaCS => k_is
    case fcCS => k_is
    case rvCS => exact ⟨_, rfl⟩
    case nfstrCS => k_is
    case ktstrCS => kernel_rfl
    case nfNoneTypeCS => k_is
    case ktNoneTypeCS => kernel_rfl
    case nftupleCS => k_is
    case kttupleCS => kernel_rfl
    case kkCSCL => kernel_rfl
    case kkCSCD => kernel_rfl
    case kkCSCS => kernel_rfl
    case cn => k_is
    case ct => k_is
    case sdl => k_is
    case ssl => k_is
    case nfCDCL => k_is
    case nfCSCL => k_is
    case nfCSCD => k_is
    case nfCDCS => k_is
    case neCDCL => decide
    case neCSCL => decide
    case neCDCS => decide
