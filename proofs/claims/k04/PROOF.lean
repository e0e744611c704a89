import PyProof.Rows.All
import Wide.All
import OpenK.AllK
import Wide.FinOn
import HandS.ForMost
import HandS.Codes
import KE.KSuper
import HandS.Nested
import KE.KExcSuper
import HandS.Exc
import HandS.ExcInit
import HandS.FStr
import HandS.WordsExc
import HandS.ExcOwn
import HandS.TryOnly
import HandS.IsInst
import HandS.MakeKw
import HandS.MakeKwOnly
import HandS.Property
import HandS.ClsMeth
import HandS.RaiseMore
import HandS.Walk
import PyProof.ReprRoads
import KE.KCallOwn
import HandS.SetBool
import HandS.SetKeys
import HandS.DictComp
import HandS.Star
import HandS.MethStar
import HandS.CallLocal
import HandS.WordsList
import HandS.More
import HandS.ExcValue
import HandS.ExcField
import HandS.ExcIs
import KE.KExcIs
import HandS.Lambda
import HandS.Zip
import HandS.EndTab
import HandS.BoundList
import HandS.EndOwn
import PySem.Challenge.RW_strayjoins_k04_frames_refused
set_option Elab.async false
set_option linter.all false
set_option maxRecDepth 100000
set_option maxHeartbeats 8000000
namespace Sj
open PySem L2
open C8 (pss_cut tCut)
def top (i : Nat) : Stmt := PySem.Challenge.pw_strayjoins_k04_frames_refused.main.body.getD i (.Pass ⟨0, 0, 0, 0⟩)
abbrev sPen : Stmt := top 21
abbrev sDraw : Stmt := top 22
abbrev sPick : Stmt := top 23

/-! ### the pen: its cells, the next place, what is left of a great one -/
def penO (l : Addr) (i g : Int) : HO := .lst [.ref l, .int i, .int g]
def Pen (H : Hp) (p l : Addr) (cs : List Int) (n : Nat) : Prop :=
  ∃ i g : Int, H p = some (penO l i g) ∧ H l = some (.lst (cs.map V.int)) ∧ cs.length ≤ 63 ∧ 0 ≤ i ∧ i ≤ n
/-- all that stood but at p stands as it was -/
def But (H H' : Hp) (p : Addr) : Prop := ∀ b o, b ≠ p → H b = some o → H' b = some o
theorem But.upd (H : Hp) (p : Addr) (o : HO) : But H (upd H p o) p := fun b _ h e => by rw [upd_ne h]; exact e
theorem But.trans {H H1 H2 : Hp} {p : Addr} (a : But H H1 p) (b : But H1 H2 p) : But H H2 p := fun c o h e => b c o h (a c o h e)
theorem But.put {H H1 : Hp} {p : Addr} (a : But H H1 p) (o : HO) : But H (L2.upd H1 p o) p := a.trans (.upd _ _ _)
theorem But.new {H H1 : Hp} {p q : Addr} (a : But H H1 p) (hq : H1 q = none) (o : HO) : But H (L2.upd H1 q o) p := fun b _ h e => by
  have e1 := a b _ h e
  rw [upd_ne (ne_of_none e1 hq)]
  exact e1
def spDraw : Sp := fun vs H Q _ => ∃ (p l : Addr) (cs : List Int) (n : Nat) (m : Int), vs = [.ref p, .int m] ∧ Pen H p l cs n ∧ 0 < m ∧ m < 1073741824 ∧ n < 1000000 ∧
  ∀ (d i g : Int) (H' : Hp), 0 ≤ d → d < m → 0 ≤ i → i ≤ n + 1 → H' p = some (penO l i g) → But H H' p → Q (.int d) H'
structure Bi (mg : Str → Option Value) : Prop where
  int : mg "int" = none
  len : mg "len" = none
  abs : mg "abs" = none
theorem dp_ints {K : PySem.W.Frag} {H : Hp} : ∀ cs : List Int, DpAll K H (cs.map V.int) (cs.map PyData.int)
  | [] => .nil
  | c :: cs => .cons (.int c) (dp_ints cs)
theorem shaped_ints (cs : List Int) : SeqAt.shaped (.list (cs.map PyData.int)) = true := by
  unfold SeqAt.shaped
  rw [Bool.and_eq_true]
  refine ⟨?_, decide_eq_true ?_⟩
  · show PyData.canLayAll0 (cs.map PyData.int) = true
    induction cs with
    | nil => rfl
    | cons c cs ih => exact Bool.and_eq_true_iff.mpr ⟨rfl, ih⟩
  · have e : PyData.depthAll (cs.map PyData.int) ≤ 1 := by
      induction cs with
      | nil => exact Nat.zero_le _
      | cons c cs ih => exact Nat.max_le.mpr ⟨(show (0 : Nat) ≤ 1 by decide), ih⟩
    show PyData.depthAll (cs.map PyData.int) + 1 ≤ 64
    omega
theorem small1 {b c i m : Int} {n : Nat} {x : Int} (i0 : 0 ≤ i) (i1 : i ≤ n) (n1 : n < 1000000) (hm : 0 < m ∧ m < 4294967296 := by decide) (hb : 0 ≤ b ∧ b < 100000 := by decide) (hc : 0 ≤ c ∧ c < 100000 := by decide) :
    (x % m + b * i + c).natAbs < 2 ^ 64 := by
  have h1 := Int.emod_nonneg x (show m ≠ 0 by omega)
  have h2 := Int.emod_lt_of_pos x hm.1
  have h3 : 0 ≤ b * i := Int.mul_nonneg hb.1 i0
  have h4 : b * i ≤ 100000 * 1000000 := Int.mul_le_mul (by omega) (by omega) i0 (by decide)
  have h5 : (2 : Nat) ^ 64 = 18446744073709551616 := by decide
  omega
theorem small3 {b i : Int} (i0 : 0 ≤ i) (hb : 0 ≤ b ∧ b < 100000 := by decide) : -(2 ^ 64) < b * i := by
  have h3 : 0 ≤ b * i := Int.mul_nonneg hb.1 i0
  have h5 : (2 : Int) ^ 64 = 18446744073709551616 := by decide
  omega
theorem small4 {b i : Int} {n : Nat} (i1 : i ≤ n) (n1 : n < 1000000) (hb : 0 ≤ b ∧ b < 100000 := by decide) : b * i < 2 ^ 64 := by
  have h4 : b * i ≤ b * 1000000 := Int.mul_le_mul_of_nonneg_left (by omega) hb.1
  have h5 : (2 : Int) ^ 64 = 18446744073709551616 := by decide
  omega
theorem small2 {a b c e i y : Int} {n : Nat} (i0 : 0 ≤ i) (i1 : i ≤ n) (n1 : n < 1000000) (y0 : 0 ≤ y) (y1 : y < 2147483648) (ha : 0 ≤ a ∧ a < 10 := by decide) (hb : 0 ≤ b ∧ b < 100000 := by decide)
    (hc : 0 ≤ c ∧ c < 100000 := by decide) (he : 0 ≤ e ∧ e < 100000 := by decide) : (y * (a * i + b) + c * i * i + e).natAbs < 2 ^ 64 := by
  have h3 : 0 ≤ a * i := Int.mul_nonneg ha.1 i0
  have h4 : a * i ≤ 10 * 1000000 := Int.mul_le_mul (by omega) (by omega) i0 (by decide)
  have h6 : 0 ≤ y * (a * i + b) := Int.mul_nonneg y0 (by omega)
  have h7 : y * (a * i + b) ≤ 2147483648 * 20000000 := Int.mul_le_mul (by omega) (by omega) (by omega) (by decide)
  have h8 : 0 ≤ c * i := Int.mul_nonneg hc.1 i0
  have h9 : c * i ≤ 100000 * 1000000 := Int.mul_le_mul (by omega) (by omega) i0 (by decide)
  have h10 : 0 ≤ c * i * i := Int.mul_nonneg h8 i0
  have h11 : c * i * i ≤ (100000 * 1000000) * 1000000 := Int.mul_le_mul h9 (by omega) i0 (by decide)
  have h5 : (2 : Nat) ^ 64 = 18446744073709551616 := by decide
  omega
theorem cut_ints (ns : List Int) (a b : Option Int) : ∃ cs : List Int, cutV (ns.map V.int) a b = cs.map V.int ∧ cs.length ≤ ns.length := by
  unfold cutV
  rw [← List.map_drop, ← List.map_take]
  exact ⟨_, rfl, by rw [List.length_take, List.length_drop]; omega⟩
theorem cell_at {cs : List Int} {i : Int} (h0 : 0 ≤ i) (hn : cs ≠ []) : ∃ v : Int, atI (cs.map V.int) (i % ((cs.map V.int).length : Nat)) = some (.int v) := by
  have hl : 0 < cs.length := List.length_pos_iff.mpr hn
  have e : (cs.map V.int).length = cs.length := List.length_map _
  have hb := Int.emod_lt_of_pos i (show (0 : Int) < (cs.length : Int) by omega)
  have hp := Int.emod_nonneg i (show (cs.length : Int) ≠ 0 by omega)
  obtain ⟨j, hj⟩ : ∃ j : Nat, i % (cs.length : Int) = (j : Int) := ⟨(i % (cs.length : Int)).toNat, by omega⟩
  have hjl : j < cs.length := by omega
  refine ⟨cs[j], ?_⟩
  rw [e, hj]
  exact atI_nat (by simp [hjl])

section
variable {P : Program} {w : World} {K : PySem.W.Frag} {mg : Str → Option Value} {base : Heap}
theorem scDraw : FnScope ["_law_pen_here", "_law_many", "_law_digit", "_law_at", "_law_cell", "_law_great", "_law_mixed"] ["_law_pen_here", "_law_many"] (defScope sDraw) :=
  ⟨rfl, rfl, rfl, by decide +kernel, rfl, by decide +kernel, by decide +kernel⟩
theorem ok_draw {f : Addr} {fd : FuncData} (F : Fun K "_law_draw" "_law_draw" sDraw f fd) (B : Bi mg) : FnOk P w K mg base CX0 1 f fd ["_law_pen_here", "_law_many"] spDraw := by
  refine F.ok scDraw (fun vs H Q E h => ?_) (fun cdv A outer s H vs Q E hr h => ?_)
  · obtain ⟨p, l, cs, n, m, rfl, _⟩ := h
    rfl
  · obtain ⟨p, l, cs, n, m, rfl, ⟨i, g, hp, hl, hz, i0, i1⟩, m0, m1, n1, k⟩ := h
    have npl : p ≠ l := fun q => by
      subst q
      rw [hp] at hl
      have e := List.map_eq_cons_iff.mp (HO.lst.inj (Option.some.inj hl)).symm
      obtain ⟨_, _, _, h1, _⟩ := e
      cases h1
    refine ⟨_, pss_cut
        (ps_if (pt_cmpR op_gt (pe_ix ix_list (pv 0) pe_int (fun _ _ => rfl)) pe_int (nomark _))
          (pss_cons (ps_set (i := 2) scDraw.nd rfl (Or.inl rfl) (pe_op op_mod (pe_callTy call_int1 (by rfl) B.int (by decide +kernel) (pa_cons (pe_ix ix_list (pv 0) pe_int (fun _ _ => rfl)) pa_nil)) (pv 1)))
          (pss_cons (ps_asg (pe_op op_fdiv (pe_callTy call_int1 (by rfl) B.int (by decide +kernel) (pa_cons (pe_ix ix_list (pv 0) pe_int (fun _ _ => rfl)) pa_nil)) (pv 1)) (pg_sub (pv 0) pe_int set_list))
          (pss_one (ps_ret (pv 2)))))
          pss_nil)
      (pss_cons (ps_set (i := 3) scDraw.nd rfl (Or.inl rfl) (pe_ix ix_list (pv 0) pe_int (fun _ _ => rfl)))
      (pss_cons (ps_asg (pe_op op_add (pv 3) pe_int) (pg_sub (pv 0) pe_int set_list))
      (pss_cons (ps_set (i := 4) scDraw.nd rfl (Or.inl rfl) (pe_op op_add (pe_op op_mul pe_int (pv 3)) pe_int))
      (pss_cut (ps_if (pt_cmpR (op_neD hr.units) (pe_ix ix_list (pv 0) pe_int (fun _ _ => rfl)) (pe_lst pa_nil) (nomark _))
          (pss_one (ps_set (i := 4) scDraw.nd rfl (Or.inl rfl) (pe_ix ix_list (pe_ix ix_list (pv 0) pe_int (fun _ _ => rfl))
            (pe_op op_mod (pe_callTy call_int1 (by rfl) B.int (by decide +kernel) (pa_cons (pv 3) pa_nil)) (pe_callB call_len_seq (by rfl) B.len PySem.boot_len (pa_cons (pe_ix ix_list (pv 0) pe_int (fun _ _ => rfl)) pa_nil))) (fun _ _ => rfl))))
          pss_nil)
      (pss_cut (ps_if (PW.pt (pw_and (pt_cmpR op_lt (pv 3) (pe_callB call_len_seq (by rfl) B.len PySem.boot_len (pa_cons (pe_ix ix_list (pv 0) pe_int (fun _ _ => rfl)) pa_nil)) (nomark _))
            (pw_and1 (pt_cmpR op_ge (pe_callB call_abs (by rfl) B.abs (by decide +kernel) (pa_cons (pv 4) pa_nil)) (pe_op op_pow pe_int pe_int) (nomark _)))))
          (pss_cons (ps_set (i := 5) scDraw.nd rfl (Or.inl rfl) (pe_op op_add (pe_op op_mul pe_int (pe_callB call_abs (by rfl) B.abs (by decide +kernel) (pa_cons (pv 4) pa_nil)))
              (pe_callTy call_int1 (by rfl) B.int (by decide +kernel) (pa_cons (pe_cmpR op_lt (pv 4) pe_int (nomark _)) pa_nil))))
          (pss_cons (ps_asg (pe_op op_fdiv (pe_callTy call_int1 (by rfl) B.int (by decide +kernel) (pa_cons (pv 5) pa_nil)) (pv 1)) (pg_sub (pv 0) pe_int set_list))
          (pss_one (ps_ret (pe_op op_mod (pe_callTy call_int1 (by rfl) B.int (by decide +kernel) (pa_cons (pv 5) pa_nil)) (pv 1))))))
          pss_nil)
      (pss_cut (ps_set (i := 6) scDraw.nd rfl (Or.inl rfl) (pe_op op_mod (pe_op op_pow (pe_callTy call_int1 (by rfl) B.int (by decide +kernel) (pa_cons
          (pe_op op_add (pe_op op_add (pe_op op_mod (pe_callTy call_int1 (by rfl) B.int (by decide +kernel) (pa_cons (pv 4) pa_nil)) pe_int) (pe_op op_mul pe_int (pv 3))) pe_int) pa_nil)) pe_int) pe_int))
      (pss_cut (ps_set (i := 6) scDraw.nd rfl (Or.inl rfl) (pe_op op_mod (pe_op op_pow (pe_callTy call_int1 (by rfl) B.int (by decide +kernel) (pa_cons
          (pe_op op_add (pe_op op_add (pe_op op_mul (pv 6) (pe_op op_add (pe_op op_mul pe_int (pv 3)) pe_int)) (pe_op op_mul (pe_op op_mul pe_int (pv 3)) (pv 3))) pe_int) pa_nil)) pe_int) pe_int))
      (pss_one (ps_ret (pe_op op_mod (pe_callTy call_int1 (by rfl) B.int (by decide +kernel) (pa_cons (pe_op op_fdiv (pv 6) pe_int) pa_nil)) (pv 1))))))))))), ?_⟩
    refine ⟨fun σ' H' => σ' = start ["_law_pen_here", "_law_many", "_law_digit", "_law_at", "_law_cell", "_law_great", "_law_mixed"] [.ref p, .int m] ∧ H' = H,
      ⟨_, rfl, p, _, _, .int g, rfl, rfl, SqL.of hp, rfl, _, _, rfl, rfl, _, rfl, ite2 (fun _ => ?_) (fun _ => ⟨rfl, rfl⟩)⟩, ?_⟩
    · refine ⟨_, rfl, p, _, _, .int g, rfl, rfl, SqL.of hp, rfl, .inl ⟨_, rfl, _, rfl, _, _, rfl, rfl, m0, ?_⟩⟩
      refine ⟨_, rfl, p, _, _, .int g, rfl, rfl, SqL.of hp, rfl, .inl ⟨_, rfl, _, rfl, _, _, rfl, rfl, ⟨m0, m1⟩, ?_⟩⟩
      refine ⟨_, rfl, p, _, _, 2, rfl, rfl, hp, rfl, ?_⟩
      refine ⟨_, rfl, ?_⟩
      exact k _ _ _ _ (Int.emod_nonneg _ (by omega)) (Int.emod_lt_of_pos _ m0) i0 (by omega) upd_same (.upd _ _ _)
    · rintro σ' H' ⟨rfl, rfl⟩
      refine ⟨_, rfl, p, _, _, .int i, rfl, rfl, SqL.of hp, rfl, ?_⟩
      refine ⟨_, rfl, _, _, rfl, rfl, _, rfl, p, _, _, 1, rfl, rfl, hp, rfl, ?_⟩
      have b1 : But H' (upd H' p (penO l (i + 1) g)) p := .upd _ _ _
      have hp1 : upd H' p (penO l (i + 1) g) p = some (penO l (i + 1) g) := upd_same
      have hl1 : upd H' p (penO l (i + 1) g) l = some (.lst (cs.map V.int)) := b1 _ _ npl.symm hl
      refine ⟨_, rfl, _, _, rfl, rfl, .inl ⟨by decide, by decide⟩, _, _, rfl, rfl, ?_⟩
      refine ⟨fun σ2 H2 => ∃ c : Int, σ2 = [some (.ref p), some (.int m), none, some (.int i), some (.int c), none, none] ∧ H2 p = some (penO l (i + 1) g) ∧ H2 l = some (.lst (cs.map V.int)) ∧ But H' H2 p, ?_, ?_⟩
      · refine ⟨_, rfl, p, _, _, .ref l, rfl, rfl, SqL.of hp1, rfl, Nat.zero_le _, fun q hq => ?_⟩
        have npq : p ≠ q := ne_of_none hp1 hq
        have nlq : l ≠ q := ne_of_none hl1 hq
        have hp2 : upd (upd H' p (penO l (i + 1) g)) q (.lst []) p = some (penO l (i + 1) g) := by rw [upd_ne npq]; exact hp1
        have hl2 : upd (upd H' p (penO l (i + 1) g)) q (.lst []) l = some (.lst (cs.map V.int)) := by rw [upd_ne nlq]; exact hl1
        have b2 := b1.new hq (.lst [])
        refine ⟨.list (cs.map PyData.int), .list [], .lst (SqL.of hl2) (dp_ints cs), .lst (SqL.of upd_same) .nil, shaped_ints cs, rfl, _, rfl, ?_⟩
        cases cs with
        | nil => exact ⟨_, rfl, hp2, hl2, b2⟩
        | cons c cs =>
          refine iteT ?_
          obtain ⟨v, hv⟩ := cell_at (cs := c :: cs) i0 (by simp)
          refine ⟨_, rfl, p, _, _, .ref l, rfl, rfl, SqL.of hp2, rfl, _, rfl, .inl ⟨_, rfl, _, rfl, p, _, _, .ref l, rfl, rfl, SqL.of hp2, rfl, l, _, rfl, .inl (SqL.of hl2), _, _, rfl, rfl, ?_, ?_⟩⟩
          · show (0 : Int) < (((c :: cs).map V.int).length : Nat)
            simp
          · exact ⟨l, _, _, .int v, rfl, rfl, SqL.of hl2, hv, v, rfl, hp2, hl2, b2⟩
      · rintro σ2 H2 ⟨c, rfl, hp2, hl2, b2⟩
        have len63 : (cs.map V.int).length = cs.length := List.length_map _
        refine ⟨fun σ3 H3 => σ3 = [some (.ref p), some (.int m), none, some (.int i), some (.int c), none, none] ∧ H3 = H2, ?_, ?_⟩
        · refine ⟨_, rfl, _, rfl, p, _, _, .ref l, rfl, rfl, SqL.of hp2, rfl, l, _, rfl, .inl (SqL.of hl2), _, _, rfl, rfl, _, rfl, ite2 (fun _ => ?_) (fun _ => ⟨rfl, rfl⟩)⟩
          refine ⟨_, rfl, _, rfl, _, _, rfl, rfl, ⟨by decide, by decide, by decide⟩, _, _, rfl, rfl, _, rfl, ite2 (fun _ => ?_) (fun _ => ⟨rfl, rfl⟩)⟩
          refine ⟨_, rfl, _, rfl, _, _, rfl, rfl, .inl ⟨by decide, by decide⟩, _, rfl, _, _, rfl, rfl, .inr ⟨_, rfl, _, _, rfl, rfl, ?_⟩⟩
          refine ⟨_, rfl, .inl ⟨_, rfl, _, rfl, _, _, rfl, rfl, ⟨m0, m1⟩, _, rfl, p, _, _, 2, rfl, rfl, hp2, rfl, ?_⟩⟩
          refine ⟨_, rfl, .inl ⟨_, rfl, _, rfl, _, _, rfl, rfl, m0, ?_⟩⟩
          exact k _ _ _ _ (Int.emod_nonneg _ (by omega)) (Int.emod_lt_of_pos _ m0) (by omega) (by omega) upd_same (b2.put _)
        · rintro σ3 H3 ⟨rfl, rfl⟩
          refine ⟨fun σ4 H4 => ∃ y : Int, 0 ≤ y ∧ y < 2147483648 ∧ σ4 = [some (.ref p), some (.int m), none, some (.int i), some (.int c), none, some (.int y)] ∧ H4 = H3, ?_, ?_⟩
          · refine ⟨_, rfl, .inl ⟨_, rfl, _, _, rfl, rfl, (by show (0 : Int) < 2147483563; decide), _, rfl, _, _, rfl, rfl, .inl ⟨by decide, by decide⟩, _, _, rfl, rfl, _, _, rfl, rfl, .inl ⟨_, rfl, _, _, rfl, rfl,
              ⟨by decide, by decide, ?_⟩, _, _, rfl, rfl, (by show (0 : Int) < 2147483579; decide), _, Int.emod_nonneg _ (by decide), Int.lt_trans (Int.emod_lt_of_pos _ (by decide)) (by decide), rfl, rfl⟩⟩⟩
            exact small1 i0 i1 n1
          · rintro σ4 H4 ⟨y, y0, y1, rfl, rfl⟩
            refine ⟨fun σ5 H5 => ∃ y : Int, 0 ≤ y ∧ y < 2147483648 ∧ σ5 = [some (.ref p), some (.int m), none, some (.int i), some (.int c), none, some (.int y)] ∧ H5 = H4, ?_, ?_⟩
            · refine ⟨_, rfl, _, rfl, _, _, rfl, rfl, .inl ⟨by decide, by decide⟩, _, _, rfl, rfl, _, _, rfl, rfl, .inl ⟨?_, ?_⟩, _, rfl, _, _, rfl, rfl, .inl ⟨by decide, by decide⟩, _, rfl, _, _, rfl, rfl, .inl ⟨?_, ?_⟩,
                _, _, rfl, rfl, _, _, rfl, rfl, .inl ⟨_, rfl, _, _, rfl, rfl, ⟨by decide, by decide, ?_⟩, _, _, rfl, rfl, (by show (0 : Int) < 2147483629; decide), _, Int.emod_nonneg _ (by decide), Int.lt_trans (Int.emod_lt_of_pos _ (by decide)) (by decide), rfl, rfl⟩⟩
              · exact Int.lt_of_lt_of_le (by decide) y0
              · exact Int.lt_trans y1 (by decide)
              · exact small3 i0
              · exact small4 i1 n1
              · exact small2 i0 i1 n1 y0 y1
            · rintro σ5 H5 ⟨y, y0, y1, rfl, rfl⟩
              refine ⟨_, rfl, _, _, rfl, rfl, ⟨by decide, by decide⟩, .inl ⟨_, rfl, _, rfl, _, _, rfl, rfl, m0, ?_⟩⟩
              exact k _ _ _ _ (Int.emod_nonneg _ (by omega)) (Int.emod_lt_of_pos _ m0) (by omega) (by omega) hp2 b2
theorem scPick : FnScope ["_law_pen_here", "_law_some"] ["_law_pen_here", "_law_some"] (defScope sPick) := ⟨rfl, rfl, rfl, by decide +kernel, rfl, by decide +kernel, by decide +kernel⟩
def spPick : Sp := fun vs H Q _ => ∃ (p l q : Addr) (cs : List Int) (n : Nat) (xs : List V), vs = [.ref p, .ref q] ∧ Pen H p l cs n ∧ H q = some (.lst xs) ∧ q ≠ p ∧ 0 < xs.length ∧ xs.length < 1000 ∧ n < 1000000 ∧
  ∀ (j : Nat) (x : V) (H' : Hp), xs[j]? = some x → Pen H' p l cs (n + 1) → But H H' p → Q x H'
theorem Pen.next {H H' : Hp} {p l : Addr} {cs : List Int} {n : Nat} {i g : Int} (h : Pen H p l cs n) (i0 : 0 ≤ i) (i1 : i ≤ n + 1) (hp : H' p = some (penO l i g)) (b : But H H' p) : Pen H' p l cs (n + 1) := by
  obtain ⟨i', g', h1, h2, h3, h4, h5⟩ := h
  refine ⟨i, g, hp, b _ _ ?_ h2, h3, i0, by omega⟩
  intro e
  subst e
  rw [h1] at h2
  have e := List.map_eq_cons_iff.mp (HO.lst.inj (Option.some.inj h2)).symm
  obtain ⟨_, _, _, q, _⟩ := e
  cases q
theorem ok_pick {f fD : Addr} {fd fdD : FuncData} (F : Fun K "_law_pick" "_law_pick" sPick f fd) (B : Bi mg) (FD : Fun K "_law_draw" "_law_draw" sDraw fD fdD) (bD : Binds K fdD ["_law_pen_here", "_law_many"] []) (mD : mg "_law_draw" = some (.ref fD)) :
    FnOk P w K mg base CX0 2 f fd ["_law_pen_here", "_law_some"] spPick := by
  have GD : FnOk P w K mg base CX0 1 fD fdD ["_law_pen_here", "_law_many"] spDraw := ok_draw FD B
  refine F.ok scPick (fun vs H Q E h => ?_) (fun cdv A outer s H vs Q E hr h => ?_)
  · obtain ⟨p, l, q, cs, n, xs, rfl, _⟩ := h
    rfl
  · obtain ⟨p, l, q, cs, n, xs, rfl, hP, hq, nqp, x0, x1, n1, k⟩ := h
    refine ⟨_, pss_one (ps_ret (pe_ix ix_list (pv 1) (pe_call GD hr rfl mD FD.kp bD .nil pass0 (pa_cons (pv 0) (pa_cons (pe_callB call_len_seq (by rfl) B.len PySem.boot_len (pa_cons (pv 1) pa_nil)) pa_nil))) (fun _ _ => rfl))), ?_⟩
    refine ⟨_, rfl, _, rfl, _, rfl, q, _, rfl, .inl (SqL.of hq), p, l, cs, n, _, rfl, hP, by omega, by omega, n1, fun d i g H' d0 d1 i0 i1 hp b => ?_⟩
    obtain ⟨j, rfl⟩ : ∃ j : Nat, d = j := ⟨d.toNat, by omega⟩
    have hj : j < xs.length := by omega
    exact ⟨q, xs, _, xs[j], rfl, rfl, SqL.of (b _ _ nqp hq), atI_nat (by simp [hj]), k j _ _ (by simp [hj]) (hP.next i0 i1 hp b) b⟩
theorem scPen : FnScope ["_law_script"] ["_law_script"] (defScope sPen) := ⟨rfl, rfl, rfl, by decide +kernel, rfl, by decide +kernel, by decide +kernel⟩
def spPen (K : PySem.W.Frag) : Sp := fun vs H Q _ => ∃ (a : Addr) (ns : List Int), vs = [.ref a] ∧ SqL K H a (ns.map V.int) ∧ ns.length ≤ 63 ∧ ∀ (p l : Addr) (cs : List Int) (H' : Hp), Pen H' p l cs 0 → Same H H' → Q (.ref p) H'
theorem ok_pen {f : Addr} {fd : FuncData} (F : Fun K "_law_pen" "_law_pen" sPen f fd) (mL : mg "list" = none) : FnOk P w K mg base CX0 1 f fd ["_law_script"] (spPen K) := by
  refine F.ok scPen (fun vs H Q E h => ?_) (fun cdv A outer s H vs Q E hr h => ?_)
  · obtain ⟨a, ns, rfl, _⟩ := h
    rfl
  · obtain ⟨a, ns, rfl, hS, hz, k⟩ := h
    refine ⟨_, pss_one (ps_ret (pe_lst (pa_cons (pe_callTy call_list_of (by rfl) mL (by decide +kernel) (pa_cons (pe_slice sl_list (pv 0) po_none (po_some pe_int)) pa_nil)) (pa_cons pe_int (pa_cons pe_int pa_nil))))), ?_⟩
    refine ⟨_, rfl, _, rfl, a, _, rfl, hS, fun q hq => ?_⟩
    refine ⟨q, _, rfl, .inl (SqL.of upd_same), fun l hl => ⟨(by show 3 ≤ sizeLine; decide), fun p hp => ?_⟩⟩
    have nql : q ≠ l := ne_of_none upd_same hl
    have nlp : l ≠ p := ne_of_none upd_same hp
    have hHl : H l = none := by rw [upd_ne nql.symm] at hl; exact hl
    have hHp : H p = none := by
      have h1 : p ≠ l := nlp.symm
      rw [upd_ne h1] at hp
      have h2 : p ≠ q := fun e => by rw [e, upd_same] at hp; cases hp
      rw [upd_ne h2] at hp
      exact hp
    refine k p l _ _ ⟨0, 0, upd_same, Eq.trans (upd_ne nlp) (Eq.trans upd_same (congrArg (fun z => some (HO.lst z)) (cut_ints ns none (some 63)).choose_spec.1)), Nat.le_trans (cut_ints ns none (some 63)).choose_spec.2 hz, Int.le_refl _, Int.le_refl _⟩ fun b o e => ?_
    rw [upd_ne (ne_of_none e hHp), upd_ne (ne_of_none e hHl), upd_ne (ne_of_none e hq)]
    exact e
end
end Sj
namespace Sup
open PySem PySem.Spec PyProof.Rows L2
open NdefX (NF NScope ncx envF startF CellsAt inv_startN)

/-! ### a def of a class body that says super(): it closes over the class -/
structure FunS (P : Program) (K : PySem.W.Frag) (x qual : Str) (st : Stmt) (f : Addr) (fd : FuncData) (c cc D : Addr) : Prop where
  ex : ∃ (oc : Value) (od : Option Addr) (kV doc pm : Value) (an : Option Addr) (ct : Value) (osl : Array (Option Value)),
    fd = PySem.W.fnX x qual (defArgs st) (defBody st) (defScope st) [("__class__", cc)] .none kV doc pm an (.ref c) ct ∧ K.lookup f = some ⟨oc, od, .func fd, osl⟩
  cd : PySem.W.codeIn K (.ref c) qual = true
  file : ∃ (ccl : Value) (cdd : Option Addr) (vs : Array Value) (ccs : Array (Option Value)) (fl : Str) (tf : Tok), K.lookup c = some ⟨ccl, cdd, .fields vs, ccs⟩ ∧ vs[2]? = some (.str fl tf) ∧ ((P.main.file : Str) == fl) = true
  cell : ∃ (cl : Value) (cld : Option Addr) (csl : Array (Option Value)), K.lookup cc = some ⟨cl, cld, .cell (some (.ref D)), csl⟩
  kp : PySem.W.keepIn K (.ref f) = true
def nf (x qual : Str) (st : Stmt) (c cc : Addr) : NF := ⟨x, qual, defArgs st, defBody st, defScope st, [("__class__", cc)], c⟩

section
variable {P : Program} {w : World} {K : PySem.W.Frag} {mg : Str → Option Value} {base : Heap} {CX : CXT} {x qual : Str} {st : Stmt} {f c cc D : Addr} {fd : FuncData} {N ps : List Str} {k : Nat} {sp : Sp}
theorem fn_super (F : FunS P K x qual st f fd c cc D) (S : NScope N ps ["__class__"] (defScope st)) (len : ∀ vs H Q E, sp vs H Q E → vs.length = ps.length)
    (hbody : ∀ (A : Around) (outer : List Env) (s : Shared) (H : Hp) (vs : List V) (Q : VK) (E : XK), Room k (A.deeper (envF (nf x qual st c cc) f s.heap.objs.size)) → sp vs H Q E → ∀ s1,
      Inv (ncx CX P w K mg base N (nf x qual st c cc) f A outer s H E) [] (startF N vs [some (.ref D)]) H s1 →
      PySem.wpAt (model P w) (A.deeper (envF (nf x qual st c cc) f s.heap.objs.size)) (.func (defBody st) (envF (nf x qual st c cc) f s.heap.objs.size)) (execs (defBody st) (envF (nf x qual st c cc) f s.heap.objs.size))
        (SP (ncx CX P w K mg base N (nf x qual st c cc) f A outer s H E) [] { nx := fun _ H' => Q .non H', rt := Q }) (ncx CX P w K mg base N (nf x qual st c cc) f A outer s H E).xe s1) :
    FnOk P w K mg base CX (k + 1) f fd ps sp := by
  obtain ⟨oc, od, kV, doc, pm, an, ct, osl, rfl, lk⟩ := F.ex
  obtain ⟨cl, cld, csl, lc⟩ := F.cell
  refine ⟨len, fun A outer s H args us vs Q E hr e0 hb r hsp => ?_⟩
  have hl := len _ _ _ _ hsp
  have KX : K.In s.heap := e0.mod.kin.keeps fun b o e => (e0.bs b o e).1
  have lim : s.heap.NoLimit := e0.mod.nolimit.keeps fun b o e => (e0.bs b o e).1
  have hcc : s.heap.get? cc = some ⟨cl, cld, .cell (some (.ref D)), csl⟩ := KX _ _ lc
  have C : CellsAt (nf x qual st c cc).cl ["__class__"] [some (V.ref D)] s.heap H := by
    refine ⟨rfl, fun y b e => ?_, fun a b q h1 h2 => ?_, fun i y hy => ?_⟩
    · have e : (if y == "__class__" then some cc else none) = some b := by
        have q : List.lookup y [(("__class__" : Str), cc)] = some b := e
        rw [List.lookup_cons] at q
        cases z : y == ("__class__" : Str) with
        | true => rw [z] at q; rw [if_pos rfl]; exact q
        | false => rw [z] at q; cases q
      split at e
      · cases e
        exact ⟨(e0.bs _ _ (e0.mod.kin _ _ lc)).2, _, _, hcc, rfl⟩
      · cases e
    · have key : ∀ {y : Str} {b : Addr}, List.lookup y [(("__class__" : Str), cc)] = some b → y = "__class__" := fun {y b} q => by
        rw [List.lookup_cons] at q
        cases z : y == ("__class__" : Str) with
        | true => exact eq_of_beq z
        | false => rw [z] at q; cases q
      exact (key h1).trans (key h2).symm
    · match i, hy with
      | 0, hy =>
        have e : (("__class__" : Str)) = y := Option.some.inj hy
        subst e
        refine ⟨cc, by show List.lookup _ [(("__class__" : Str), cc)] = some cc; rw [List.lookup_cons, beq_self_eq_true], fun v hv => ?_⟩
        have e : V.ref D = v := Option.some.inj (Option.some.inj hv)
        subst e
        exact ⟨_, rfl, _, hcc, rfl⟩
  refine ks_codeAny_call_defAt (fd := PySem.W.fnX x qual (defArgs st) (defBody st) (defScope st) [("__class__", cc)] .none kV doc pm an (.ref c) ct) (body := defBody st) (binds := ps.zip us) hr.depth (KX _ _ lk) rfl lim (PySem.W.codeRec_of KX F.cd) rfl hb
    S.nocell (fun ⟨n, _⟩ hy => S.par n (List.of_mem_zip hy).1) (fun h₁ hns kp => ?_) S.co S.gen S.kind
  have I : Inv (ncx CX P w K mg base N (nf x qual st c cc) f A outer s H E) [] (startF N vs [some (.ref D)]) H { s with heap := h₁, toks := s.toks + (ps.zip us).length } := inv_startN S hr.hd e0 hl r C hns kp
  refine ks_wpAt_mono (hbody A outer s H vs Q E (hr.deeper _) hsp _ I) (fun fl s' hs => ?_) fun e s' hs => hs
  have fin : ∀ {σ' : L2.St} {H' : Hp} {v : V} {u : Value}, Inv (ncx CX P w K mg base N (nf x qual st c cc) f A outer s H E) [] σ' H' s' → L2.RelV v u → Q v H' → CE outer P w H s Q u s' :=
    fun {σ' H' v u} J rv q => ⟨v, H', J.os, J.bare, J.base, J.hok, rv, q⟩
  cases fl with
  | ret u =>
    obtain ⟨v, σ', H', J, rv, q⟩ := hs
    exact fin J rv q
  | next =>
    obtain ⟨σ', H', J, q⟩ := hs
    exact fin (v := V.non) (u := Value.none) J rfl q
  | brk =>
    obtain ⟨_, _, _, q⟩ := hs
    exact False.elim q
  | cont =>
    obtain ⟨_, _, _, q⟩ := hs
    exact False.elim q
end

/-! ### super().m(e, ..) as the first statement, m a def of a class above -/
/-- facts of the running def, by the context -/
structure AtS (X : Cx) (body : List Stmt) (f c cc D : Addr) (me : Str) : Prop where
  hk : X.env.scope.kind = .function
  hks : X.env.kindOf "super" = some .globalImplicit
  hkc : X.env.kindOf "__class__" = some .free
  hfu : X.env.func = some f
  hco : X.env.code = .ref c
  cl : X.env.cells.lookup ("__class__" : Str) = some cc
  hkl : X.env.kindOf me = some .local
  fn : ∃ (oc : Value) (od : Option Addr) (fd : FuncData) (osl : Array (Option Value)) (ar : Arg), X.K.lookup f = some ⟨oc, od, .func fd, osl⟩ ∧ (fd.params.posonlyargs ++ fd.params.args).head? = some ar ∧ ar.arg = me
  file : ∃ (ccl : Value) (cdd : Option Addr) (vs : Array Value) (ccs : Array (Option Value)) (fl : Str) (tf : Tok), X.K.lookup c = some ⟨ccl, cdd, .fields vs, ccs⟩ ∧ vs[2]? = some (.str fl tf) ∧ ((X.prog.main.file : Str) == fl) = true
  cell : ∃ (l : Value) (ld : Option Addr) (csl : Array (Option Value)), X.K.lookup cc = some ⟨l, ld, .cell (some (.ref D)), csl⟩
/-- facts of the text -/
structure SupT (prog : Program) (K : PySem.W.Frag) (mg : Str → Option Value) (D : Addr) : Prop where
  top : (prog.main.scope.names.lookup ("super" : Str)).isSome = false
  mg : mg "super" = none
  cls : ∃ cdD, PySem.W.clsIn K D = some cdD
  third : PySem.W.nsIn K cStatics "thirdparty.any" = some none

section
variable {X : Cx} {body : List Stmt} {f c cc D : Addr} {me : Str} {pins : List (Addr × Obj)} {s : Shared} {σ : L2.St} {H : Hp}
/-- super() itself: a new object, kept aside -/
theorem super_base {attr : Str} {whole : Sem Value} {p0 p1 : Pos} {x C : Addr} {ox : Obj} {Q : Value → Shared → Prop} (a : AtS X body f c cc D me) (t : SupT X.prog X.K X.mg D) (I : Inv X pins σ H s)
    (hN : X.N[0]? = some me) (hx : σ[0]? = some (some (.ref x))) (ho : s.heap.get? x = some ox) (hc : ox.cls = .ref C) (hnc : ∀ c, ox.data ≠ .cls c)
    (hsub : PySem.W.mroIn X.K C (.ref D) = some true) (hat : (attr == ("__class__" : Str)) = false)
    (h : ∀ so h', so = s.heap.objs.size → h'.get? so = some (PySem.W.ks_superObj D x C) → (∀ b o, s.heap.get? b = some o → h'.get? b = some o) → Inv X pins σ H { s with heap := h' } → Q (.ref so) { s with heap := h' }) :
    PySem.wpAt (model X.prog X.w) X.A (.func body X.env) (attributeBase (.Call (.Name "super" p0) [] [] p1) attr X.env whole) Q X.xe s := by
  obtain ⟨oc, od, fd, osl, ar, lf, hp, hself⟩ := a.fn
  obtain ⟨ccl, cdd, vs, ccs, fl, tf, lc, hvs, hfile⟩ := a.file
  obtain ⟨l, ld, csl, lcc⟩ := a.cell
  obtain ⟨cdD, hD⟩ := t.cls
  have KX := I.kIn
  obtain ⟨oD, hD1, hD2⟩ : ∃ oD, s.heap.get? D = some oD ∧ oD.data = .cls cdD := by
    unfold PySem.W.clsIn at hD
    split at hD
    · rename_i c d cd' sl ho
      cases hD
      exact ⟨_, KX _ _ ho, rfl⟩
    · cases hD
  obtain ⟨m, hns, hl⟩ := I.loc
  obtain ⟨u, ru, lk⟩ := hl 0 me _ hN hx (.inl a.hkl)
  obtain rfl : u = Value.ref x := ru
  have hm : m me = some (Value.ref x) := by
    rcases lk with ⟨_, e⟩ | ⟨e, _⟩
    · exact e
    · rw [a.hkl] at e
      rcases e with e | e <;> cases e
  refine ks_wpAt_super_base a.hks a.hkc hat a.hfu (KX _ _ lf) rfl hp a.hco (KX _ _ lc) rfl hvs hfile t.top ?_
  obtain ⟨mb, b1, b2⟩ := I.mod.blt
  refine PySem.W.ks_loadName_global a.hk a.hks (Calls.loadGlobal_builtin (by rw [I.ok.glob]; exact I.mod.glob.keeps I.bk) t.mg (by rw [I.ok.blt]; exact b1.keeps I.bk) ((b2 _ (by decide)).trans (by decide +kernel : bootBuiltins "super" = some (.type "super"))) ⟨rfl, ?_⟩)
  refine wpAny_loadName_free a.hk a.hkc a.cl ⟨_, KX _ _ lcc, rfl⟩ ?_
  rw [hself]
  refine wpAny_loadName_local a.hk a.hkl hns hm ?_
  refine ks_wpAny_isType_cls hD1 hD2 ⟨rfl, ?_⟩
  obtain ⟨hh, g, d, tk, os⟩ := s
  exact ks_wpAny_call_super hD1 hD2 ho hc hnc (PySem.W.looks_mroIn KX hsub) fun h' e k => h _ _ rfl e k (I.kept (t' := tk) k)

/-- super().m: the def of the class above, bound; kept aside -/
theorem super_meth {name : Str} {pl : Sem Bool} {x C so f2 : Addr} {ox : Obj} {Q : Value × List Value → Shared → Prop} (I : Inv X pins σ H s) (hso : s.heap.get? so = some (PySem.W.ks_superObj D x C))
    (ho : s.heap.get? x = some ox) (hnc : ∀ c, ox.data ≠ .cls c) (third : PySem.W.nsIn X.K cStatics "thirdparty.any" = some none)
    (hm : PySem.W.ks_superIn X.K C D name = some (some (.ref f2))) (ht : PySem.W.typeIn X.K (.ref f2) = some (.type "function")) (hn : (name == ("__class__" : Str)) = false)
    (h : ∀ q s', q = s.heap.objs.size → s'.heap.get? q = some (PySem.W.methodObj (.ref f2) (.ref x)) → (∀ b o, s.heap.get? b = some o → s'.heap.get? b = some o) → Inv X pins σ H s' → Q (.ref q, []) s') :
    wpAny (model X.prog X.w) X.A (getMethod (.ref so) name pl) Q X.xe s := by
  have KX := I.kIn
  obtain ⟨hh, g, d, tk, os⟩ := s
  cases hc : PySem.W.clsIn X.K C with
  | none => unfold PySem.W.ks_superIn at hm; rw [hc] at hm; cases hm
  | some cd =>
    unfold PySem.W.ks_superIn at hm
    rw [hc] at hm
    have hxC : x ≠ C := by
      rintro rfl
      unfold PySem.W.clsIn at hc
      split at hc
      · rename_i c d cd' sl hoc
        have e := KX _ _ hoc
        rw [ho] at e
        cases e
        exact hnc _ rfl
      · cases hc
    obtain ⟨of, hof, hofc⟩ : ∃ of, hh.get? f2 = some of ∧ of.cls = .type "function" := by
      have ht' : (X.K.lookup f2).map (·.cls) = some (.type "function") := ht
      cases z : X.K.lookup f2 with
      | none => rw [z] at ht'; cases ht'
      | some of => rw [z] at ht'; exact ⟨of, KX _ _ z, Option.some.inj ht'⟩
    refine ks_wpAny_getMethod_super hso (PySem.W.looks_opaque KX third) (l₀ := cd.mro) ?_ rfl KX hm hof hofc hxC hn ?_
    · exact fun A Q E s k q => wpAny_bind ((PySem.W.looks_clsIn KX hc) A _ E s k (wpAny_pure q))
    · have kp : ∀ b o, hh.get? b = some o → (hh.push (PySem.W.methodObj (.ref f2) (.ref x))).get? b = some o := fun b o e => Heap.get?_push_of_some _ e
      exact h _ _ rfl (Heap.get?_push_at rfl rfl) kp (I.kept (t' := tk + 1) kp)

/-- an instance that is tracked: what super() asks of it -/
theorem ins_obj {a C dx : Addr} {fs : List (Str × V)} (I : Inv X pins σ H s) (e : H a = some (.ins C dx fs)) : ∃ ox : Obj, s.heap.get? a = some ox ∧ ox.cls = .ref C ∧ ∀ c, ox.data ≠ .cls c := by
  obtain ⟨d, z, ne, ob, _⟩ := (show ObjOk X.prog X.w H s.heap a (.ins C dx fs) from I.hok a _ e)
  exact ⟨_, ob, rfl, fun c h => by cases h⟩

/-- super().m(e, ..), then the rest -/
theorem super_own {CX : CXT} {k : Nat} {f2 x C : Addr} {fd2 : FuncData} {ps2 : List Str} {sp2 : Sp} {dvs : List V} {ds : List Value} {E : XK} {attr : Str} {e : Expr} {es : List Expr} {t : TA} {rest : List Stmt} {u : TS} {D' : Ends} {p0 p1 p2 p3 p4 : Pos}
    (a : AtS X body f c cc D me) (T : SupT X.prog X.K X.mg D) (F : FnOk X.prog X.w X.K X.mg X.base CX k f2 fd2 ps2 sp2) (hr : Room k X.A) (hb : Binds X.K fd2 ps2 ds) (hd : Vals dvs ds) (hx : Passes CX X E)
    (hN : X.N[0]? = some me) (hm : PySem.W.ks_superIn X.K C D attr = some (some (.ref f2))) (ht : PySem.W.typeIn X.K (.ref f2) = some (.type "function")) (hfn : PySem.W.fnIn X.K f2 = true)
    (hsub : PySem.W.mroIn X.K C (.ref D) = some true) (hat : (attr == ("__class__" : Str)) = false) (ha : PA X (e :: es) t) (hrest : PSs X rest u)
    (I : Inv X pins σ H s) (hσ : σ[0]? = some (some (.ref x))) (hins : ∃ ox : Obj, s.heap.get? x = some ox ∧ ox.cls = .ref C ∧ ∀ c, ox.data ≠ .cls c)
    (hq : t σ H fun vs H1 => sp2 (.ref x :: (vs ++ dvs)) H1 (fun _ H2 => u D' σ H2) E)
    (hi : interactive X.env = false) (hs : swapsWith (.Call (.Attribute (.Call (.Name "super" p0) [] [] p1) attr p2) (e :: es) [] p3) none p4.line X.env = pure false)
    (he : eval (.Call (.Attribute (.Call (.Name "super" p0) [] [] p1) attr p2) (e :: es) [] p3) X.env = (do
      let ov ← attributeBase (.Call (.Name "super" p0) [] [] p1) attr X.env (eval (.Call (.Name "super" p0) [] [] p1) X.env)
      standAt p2.atName
      let (f, first) ← holding [ov] (getMethod ov attr (pure false))
      callWith p3 f first (backTo p3 (starEach (e :: es) X.env)) []))
    (hst : starEach (e :: es) X.env = (false, eval e X.env) :: starEach es X.env) (hpl : (backTo p3 (starEach es X.env)).any (·.1) = false) :
    PySem.wpAt (model X.prog X.w) X.A (.func body X.env) (execs (.Expr (.Call (.Attribute (.Call (.Name "super" p0) [] [] p1) attr p2) (e :: es) [] p3) p4 :: rest) X.env) (SP X pins D') X.xe s := by
  obtain ⟨ox, ho, hc, hnc⟩ := hins
  refine ks_wpAt_execs_cons (ks_wpAt_Expr_any (ks_wpAt_MethodCall (pl := pure false) (super_base a T I hN hσ ho hc hnc hsub hat fun so h' eso hso kp I1 => ?_) he) hi hs)
  refine super_meth (x := x) (C := C) (D := D) I1 hso (kp _ _ ho) hnc T.third hm ht hat fun q s2 eq hq2 kp2 I2 => ?_
  have hqn : H q = none := by rw [eq]; exact I1.hok.fresh (Nat.le_refl _)
  have hq0 : X.s_0.heap.objs.size ≤ q := by rw [eq]; exact I1.sz
  have hqL : q ≠ X.env.locals := by rw [eq]; exact (Nat.ne_of_lt I1.lt).symm
  have hqf : q ∉ X.fs := by rw [eq]; exact I1.nofs (Nat.le_refl _)
  have J : Inv X (pins ++ [(q, PySem.W.methodObj (.ref f2) (.ref x))]) σ H s2 := I2.pins_of fun p hp => by
    rcases List.mem_append.mp hp with hp | hp
    · exact I2.pin p (List.mem_append_right _ hp)
    · obtain rfl := List.mem_singleton.mp hp
      exact ⟨hq2, hqn, hqL, hqf, fun v hv => by cases hv⟩
  refine PySem.W.callWith_M (h₀ := X.base) (L := X.env.locals) (news := [(q, PySem.W.methodObj (.ref f2) (.ref x))]) I.ok.mod.kin ?_ (List.mem_singleton.mpr rfl) hfn ?_ hst hpl
  · intro p hp
    obtain rfl := List.mem_singleton.mp hp
    exact ⟨hq2, hqL, Heap.get?_none_of_le (Nat.le_trans I.ok.bsz hq0)⟩
  refine thn (ha.run p3 _ s2 σ H _ J hq) fun us s3 ⟨vs, H3, I3, r, q3⟩ => ?_
  have hq3 : s3.heap.get? q = some (PySem.W.methodObj (.ref f2) (.ref x)) := (I3.pin _ (List.mem_append_right _ (List.mem_append_right _ (List.mem_singleton.mpr rfl)))).1
  refine ⟨⟨hq3, I3.kIn⟩, ?_⟩
  refine wpAny_call (PySem.W.method_call hq3 ?_)
  have r2 : Vals (V.ref x :: (vs ++ dvs)) (Value.ref x :: (us ++ ds)) := .cons rfl (r.append hd)
  have hl : (Value.ref x :: (us ++ ds)).length = ps2.length := by rw [← r2.length]; exact F.len _ _ _ _ q3
  have I4 : Inv X pins σ H3 s3 := I3.pins_of fun p hp => I3.pin p (List.mem_append_right _ (List.mem_append_left _ hp))
  refine codeAny_mono (F.run X.A X.stack s3 H3 ⟨.ref x :: us, []⟩ (.ref x :: (us ++ ds)) (.ref x :: (vs ++ dvs)) _ E hr I3.env0 (hb s3 (.ref x :: us) I3.kIn hl) r2 q3) fun r s' hq' => ?_
  cases r with
  | error e => exact hx pins σ H3 s3 e s' I4 hq'
  | ok fl =>
    cases fl with
    | ret v =>
      obtain ⟨v', H', I5, _, q5⟩ := I4.after hq'
      exact wpAt_of_wpAny (hrest.run pins s' σ H' D' I5 q5)
    | next => exact False.elim hq'
    | brk => exact False.elim hq'
    | cont => exact False.elim hq'
end
end Sup
namespace Sup
open PySem PySem.Spec PyProof.Rows L2
open NdefX (NF NScope ncx envF startF CellsAt inv_startN)
section
variable {X : Cx} {body : List Stmt} {f c cc D : Addr} {me : Str} {pins : List (Addr × Obj)} {s : Shared} {σ : L2.St} {H : Hp}
/-- an exception that is being made: what super() asks of it -/
theorem exo_obj {a C : Addr} {d : Option Addr} (I : Inv X pins σ H s) (e : H a = some (exo a C d)) : ∃ ox : Obj, s.heap.get? a = some ox ∧ ox.cls = .ref C ∧ ∀ c, ox.data ≠ .cls c := by
  obtain ⟨t1, ho⟩ := exo_at I.hok e
  exact ⟨_, ho, rfl, fun c h => by cases h⟩
/-- super().__init__, ValueError's, bound; kept aside -/
theorem super_methX {pl : Sem Bool} {x C so : Addr} {Q : Value × List Value → Shared → Prop} (I : Inv X pins σ H s) (hso : s.heap.get? so = some (PySem.W.ks_superObj D x C))
    (hx : H x = some (exo x C none)) (third : PySem.W.nsIn X.K cStatics "thirdparty.any" = some none)
    (hm : PySem.W.ks_superIn X.K C D "__init__" = some (some (.builtin "ValueError.__init__"))) (hB : PySem.W.subIn X.K (.ref C) (.type "ValueError") = some true)
    (h : ∀ q s', q = s.heap.objs.size → s'.heap.get? q = some (PySem.W.kxs_mw "ValueError.__init__" x) → Inv X pins σ H s' → Q (.ref q, []) s') :
    wpAny (model X.prog X.w) X.A (getMethod (.ref so) "__init__" pl) Q X.xe s := by
  have KX := I.kIn
  obtain ⟨t1, ho⟩ := exo_at I.hok hx
  have hI : PySem.W.Looks (model X.prog X.w) s.heap (isInstance (.ref x) (.type "ValueError")) true :=
    (PySem.W.InstAt.type (ox := { cls := .ref C, dict := none, data := .fields #[.ref t1, .none, .none, .none, .bool false, .none] }) (od := none) ⟨ho, rfl, rfl, trivial⟩).andThen (PySem.W.looks_subIn KX hB)
  obtain ⟨hh, g, d, tk, os⟩ := s
  cases hc : PySem.W.clsIn X.K C with
  | none => unfold PySem.W.ks_superIn at hm; rw [hc] at hm; cases hm
  | some cd =>
    unfold PySem.W.ks_superIn at hm
    rw [hc] at hm
    have hxC : x ≠ C := by
      rintro rfl
      unfold PySem.W.clsIn at hc
      split at hc
      · rename_i c d cd' sl hoc
        have e := KX _ _ hoc
        rw [ho] at e
        cases e
      · cases hc
    refine PySem.W.kxs_getMethod PySem.W.kxs_ValueError hso (PySem.W.looks_opaque KX third) (l₀ := cd.mro) ?_ rfl KX hm hI hxC (by decide) ?_
    · exact fun A Q E s k q => wpAny_bind ((PySem.W.looks_clsIn KX hc) A _ E s k (wpAny_pure q))
    · have kp : ∀ b o, hh.get? b = some o → (hh.push (PySem.W.kxs_mw "ValueError.__init__" x)).get? b = some o := fun b o e => Heap.get?_push_of_some _ e
      exact h _ _ rfl (Heap.get?_push_at rfl rfl) (I.kept (t' := tk + 1) kp)
/-- it is called: nothing of it is told -/
theorem call_mw {u a C : Addr} {us : List Value} {Q : Value → Shared → Prop} (T : OexC X.K C) (I : Inv X pins σ H s) (hu : s.heap.get? u = some (PySem.W.kxs_mw "ValueError.__init__" a)) (e : H a = some (exo a C none)) (hl : us.length ≤ sizeLine)
    (h : ∀ s', Inv X pins σ H s' → Q .none s') : wpAny (model X.prog X.w) X.A (call (.ref u) us) Q X.xe s := by
  obtain ⟨nm, q, N, bs, bm, sn, sub, ab, col, dd, k0, k1, k2, k3, k5, hC, hbm⟩ := T.cls
  obtain ⟨t1, ho⟩ := exo_at I.hok e
  have hCs := I.kIn _ _ hC
  obtain ⟨hh, g, d, tk, os⟩ := s
  refine wpAny_call (codeAny_of_tree ?_)
  show wpAny _ X.A.in1 (callAny (.ref u) ⟨us, []⟩) _ _ _
  simp only [callAny]
  refine wpAny_bind (wpAny_load hu ?_)
  simp only [PySem.W.kxs_mw, show (Value.type "method-wrapper" == Value.type "method" || Value.type "method-wrapper" == Value.type "builtin_function_or_method" || Value.type "method-wrapper" == Value.type "method-wrapper") = true by decide, if_true]
  refine PySem.W.KFB.if_so (by decide) ?_
  refine wpAny_bind (PySem.W.check_bound_init F.excBase_ValueError.toExcCallFacts hCs ho rfl ?_)
  refine wpAny_bind (wpAny_pure (wpAny_pure ?_))
  refine ⟨plainId_quiet F.excBase_ValueError.init.plain _, codeAny_builtin F.excBase_ValueError.initEntry ?_⟩
  refine PySem.W.exc_init_tree (cls := .ref C) (t0 := t1) (dv := none) (c2 := .none) (c3 := .none) (b4 := .bool false) ho hl fun h' k e' t' => ?_
  have J := I.write (t' := tk) (x := a) (e := a) (o := exo a C none) (by rw [e]; exact True.intro) (.inl rfl) k ⟨_, e'⟩ (exo_ok e')
  have eu : upd H a (exo a C none) = H := by
    funext b
    by_cases hb : b = a
    · rw [hb, upd_same, e]
    · rw [upd_ne hb]
  rw [eu] at J
  exact h _ J
end
end Sup
namespace Sup
open PySem PySem.Spec PyProof.Rows L2
open NdefX (NF NScope ncx envF startF CellsAt inv_startN)
section
variable {X : Cx} {body : List Stmt} {f c cc D : Addr} {me : Str} {pins : List (Addr × Obj)} {s : Shared} {σ : L2.St} {H : Hp}
/-- super().__init__(e, ..) of an exception, then the rest -/
theorem super_exc {x C : Addr} {e : Expr} {es : List Expr} {t : TA} {rest : List Stmt} {u : TS} {D' : Ends} {p0 p1 p2 p3 p4 : Pos}
    (a : AtS X body f c cc D me) (T : SupT X.prog X.K X.mg D) (TC : OexC X.K C)
    (hN : X.N[0]? = some me) (hm : PySem.W.ks_superIn X.K C D "__init__" = some (some (.builtin "ValueError.__init__"))) (hB : PySem.W.subIn X.K (.ref C) (.type "ValueError") = some true)
    (hsub : PySem.W.mroIn X.K C (.ref D) = some true) (ha : PA X (e :: es) t) (hrest : PSs X rest u)
    (I : Inv X pins σ H s) (hσ : σ[0]? = some (some (.ref x))) (hx : H x = some (exo x C none))
    (hq : t σ H fun vs H1 => vs.length ≤ 1000 ∧ H1 x = some (exo x C none) ∧ u D' σ H1)
    (hi : interactive X.env = false) (hs : swapsWith (.Call (.Attribute (.Call (.Name "super" p0) [] [] p1) "__init__" p2) (e :: es) [] p3) none p4.line X.env = pure false)
    (he : eval (.Call (.Attribute (.Call (.Name "super" p0) [] [] p1) "__init__" p2) (e :: es) [] p3) X.env = (do
      let ov ← attributeBase (.Call (.Name "super" p0) [] [] p1) "__init__" X.env (eval (.Call (.Name "super" p0) [] [] p1) X.env)
      standAt p2.atName
      let (f, first) ← holding [ov] (getMethod ov "__init__" (pure false))
      callWith p3 f first (backTo p3 (starEach (e :: es) X.env)) []))
    (hst : starEach (e :: es) X.env = (false, eval e X.env) :: starEach es X.env) (hpl : (backTo p3 (starEach es X.env)).any (·.1) = false) :
    PySem.wpAt (model X.prog X.w) X.A (.func body X.env) (execs (.Expr (.Call (.Attribute (.Call (.Name "super" p0) [] [] p1) "__init__" p2) (e :: es) [] p3) p4 :: rest) X.env) (SP X pins D') X.xe s := by
  obtain ⟨ox, ho, hc, hnc⟩ := exo_obj I hx
  refine ks_wpAt_execs_cons (ks_wpAt_Expr_any (ks_wpAt_MethodCall (pl := pure false) (super_base a T I hN hσ ho hc hnc hsub (by decide) fun so h' eso hso kp I1 => ?_) he) hi hs)
  refine super_methX (x := x) (C := C) (D := D) I1 hso hx T.third hm hB fun q s2 eq hq2 I2 => ?_
  have hqn : H q = none := by rw [eq]; exact I1.hok.fresh (Nat.le_refl _)
  have hq0 : X.s_0.heap.objs.size ≤ q := by rw [eq]; exact I1.sz
  have hqL : q ≠ X.env.locals := by rw [eq]; exact (Nat.ne_of_lt I1.lt).symm
  have hqf : q ∉ X.fs := by rw [eq]; exact I1.nofs (Nat.le_refl _)
  have J : Inv X (pins ++ [(q, PySem.W.kxs_mw "ValueError.__init__" x)]) σ H s2 := I2.pins_of fun p hp => by
    rcases List.mem_append.mp hp with hp | hp
    · exact I2.pin p (List.mem_append_right _ hp)
    · obtain rfl := List.mem_singleton.mp hp
      exact ⟨hq2, hqn, hqL, hqf, fun v hv => by cases hv⟩
  refine PySem.W.kxs_callWith1 (h₀ := X.base) (L := X.env.locals) (news := [(q, PySem.W.kxs_mw "ValueError.__init__" x)]) (i := "ValueError.__init__") (x := x) ?_ (List.mem_singleton.mpr rfl) ?_ hst hpl
  · intro p hp
    obtain rfl := List.mem_singleton.mp hp
    exact ⟨hq2, hqL, Heap.get?_none_of_le (Nat.le_trans I.ok.bsz hq0)⟩
  refine thn (ha.run p3 _ s2 σ H _ J hq) fun us s3 ⟨vs, H3, I3, r, hl, hx3, q3⟩ => ?_
  have hq3 : s3.heap.get? q = some (PySem.W.kxs_mw "ValueError.__init__" x) := (I3.pin _ (List.mem_append_right _ (List.mem_append_right _ (List.mem_singleton.mpr rfl)))).1
  have I4 : Inv X pins σ H3 s3 := I3.pins_of fun p hp => I3.pin p (List.mem_append_right _ (List.mem_append_left _ hp))
  refine ⟨hq3, ?_⟩
  exact call_mw TC I4 hq3 hx3 (by rw [← r.length]; exact Nat.le_trans hl (by decide)) fun s' I5 => wpAt_of_wpAny (hrest.run pins s' σ H3 D' I5 q3)
end
theorem atS_of {P : Program} {w : World} {K : PySem.W.Frag} {mg : Str → Option Value} {base : Heap} {CX : CXT} {x qual : Str} {st : Stmt} {f c cc D : Addr} {fd : FuncData} {N : List Str} {A : Around} {outer : List Env} {s : Shared} {H : Hp} {E : XK} {me : Str} {body : List Stmt}
    (F : FunS P K x qual st f fd c cc D) (hk : (defScope st).kind = .function) (hs : (defScope st).names.lookup ("super" : Str) = some .globalImplicit) (hc : (defScope st).names.lookup ("__class__" : Str) = some .free)
    (hm : (defScope st).names.lookup me = some .local) (ha : ∃ ar, ((defArgs st).posonlyargs ++ (defArgs st).args).head? = some ar ∧ ar.arg = me) : AtS (ncx CX P w K mg base N (nf x qual st c cc) f A outer s H E) body f c cc D me := by
  obtain ⟨oc, od, kV, doc, pm, an, ct, osl, rfl, lk⟩ := F.ex
  obtain ⟨ar, h1, h2⟩ := ha
  refine ⟨hk, hs, hc, rfl, rfl, ?_, hm, ⟨oc, od, _, osl, ar, lk, h1, h2⟩, F.file, F.cell⟩
  show List.lookup _ [(("__class__" : Str), cc)] = some cc
  rw [List.lookup_cons, beq_self_eq_true]
end Sup
namespace Sj
open PySem L2 Sup
open NdefX (NF NScope ncx envF startF nscope_by)
abbrev sInv : Stmt := inClass (top 3) 0
abbrev sIsName : Stmt := top 12
abbrev sLegI : Stmt := inClass (top 14) 1
abbrev sDrvI : Stmt := inClass (top 15) 1
abbrev sLisI : Stmt := inClass (top 16) 1
theorem strLen (a b : Str) : (a ++ b).length = a.length + b.length := by
  exact strLen_append a b
section
variable {P : Program} {w : World} {K : PySem.W.Frag} {mg : Str → Option Value} {base : Heap}
theorem scInv : NScope ["self", "reason", "__class__"] ["self", "reason"] ["__class__"] (defScope sInv) := nscope_by (by decide +kernel)
/-- InvalidFrame(reason), reason a text -/
def spInv (K : PySem.W.Frag) (C : Addr) : Sp := fun vs H Q _ => ∃ (a : Addr) (z : Str), vs = [.ref a, .str z] ∧ (reprText z).length ≤ 1000 ∧ H a = some (exo a C none) ∧
  ∀ (dx : Addr), H dx = none → dx ≠ a → Q .non (upd (upd H dx (exd dx [("reason", .str z)])) a (exo a C (some dx)))
structure ExT (P : Program) (K : PySem.W.Frag) (mg : Str → Option Value) (C : Addr) (fld : Str) : Prop where
  sup : SupT P K mg C
  oex : OexC K C
  hm : PySem.W.ks_superIn K C C "__init__" = some (some (.builtin "ValueError.__init__"))
  hB : PySem.W.subIn K (.ref C) (.type "ValueError") = some true
  hs : PySem.W.mroIn K C (.ref C) = some true
  no : PySem.W.findIn K (.ref C) fld = some none
theorem ok_inv {f c cc C : Addr} {fd : FuncData} (F : FunS P K "__init__" "InvalidFrame.__init__" sInv f fd c cc C) (T : ExT P K mg C "reason") : FnOk P w K mg base CX0 1 f fd ["self", "reason"] (spInv K C) := by
  refine fn_super F scInv (fun vs H Q E h => ?_) (fun A outer s H vs Q E hr h s1 I => ?_)
  · obtain ⟨a, z, rfl, _⟩ := h
    rfl
  · obtain ⟨a, z, rfl, hz, ha, k⟩ := h
    refine super_exc (me := "self") (x := a) (C := C) (atS_of F rfl rfl rfl rfl ⟨_, rfl, rfl⟩) T.sup T.oex rfl T.hm T.hB T.hs
      (pa_cons (pe_joined (.cons pe_str (.cons (pe_fmtR (pv 1)) .nil))) pa_nil) (pss_one (ps_ost (pv 0) (pv 1))) I rfl ha ?_ rfl rfl rfl rfl rfl
    refine ⟨_, rfl, by decide +kernel, _, rfl, .inl ⟨z, rfl, Nat.le_trans hz (by decide), _, rfl, ?_, by show 1 ≤ 1000; decide, ha, ?_⟩⟩
    · have e1 : ((Str.empty ++ ("invalid frame: " : Str)) ++ reprText z).length ≤ 15 + (reprText z).length := by
        rw [strLen]
        exact Nat.add_le_add_right (by decide +kernel) _
      exact Nat.le_trans e1 (Nat.le_trans (Nat.add_le_add_left hz 15) (by decide))
    · exact ⟨_, rfl, _, rfl, a, C, rfl, T.oex, T.no, .inl ⟨ha, fun dx hd hne => k dx hd hne⟩⟩
end
end Sj
namespace Sj
open PySem L2 Sup
open NdefX (NF NScope ncx envF startF nscope_by)
open C8 (pss_cut tCut)
def lettersS : Str := "abcdefghijklmnopqrstuvwxyz"
def reservedV : List V := [.str "ground", .str "power", .str "nothing"]
/-- whether a text is a name -/
def isName (z : Str) : Bool := decide ((1 : Int) ≤ z.length) && decide ((z.length : Int) ≤ 8) && !inV (.str z) reservedV && z.cps.toList.all fun c => decide (c ∈ lettersS.cps.toList)
structure NmT (K : PySem.W.Frag) (mg : Str → Option Value) : Prop where
  isi : mg "isinstance" = none
  str : mg "str" = none
  len : mg "len" = none
  all : mg "all" = none
  letters : ∃ t, mg "LETTERS" = some (.str lettersS t)
  longest : ∃ t, mg "LONGEST" = some (.int 8 t)
  reserved : ∃ a, mg "RESERVED" = some (.ref a) ∧ ∀ H, SqT K H a reservedV
def spIsName (K : PySem.W.Frag) : Sp := fun vs H Q _ => ∃ x : V, vs = [x] ∧
  ((∃ z : Str, x = .str z ∧ z.length ≤ 1000 ∧ ∀ H', Same H H' → Q (.bl (isName z)) H') ∨
   ∃ t : String, TyX K H x (.type t) ∧ kitB t "str" = some false ∧ Q (.bl false) H)
section
variable {P : Program} {w : World} {K : PySem.W.Frag} {mg : Str → Option Value} {base : Heap}
theorem scIsName : FnScope ["value", "sign"] ["value"] (defScope sIsName) := ⟨rfl, rfl, rfl, by decide +kernel, rfl, by decide +kernel, by decide +kernel⟩
theorem ok_isname {f : Addr} {fd : FuncData} (F : Fun K "is_name" "is_name" sIsName f fd) (T : NmT K mg) : FnOk P w K mg base CX0 1 f fd ["value"] (spIsName K) := by
  obtain ⟨tL, gL⟩ := T.letters
  obtain ⟨tN, gN⟩ := T.longest
  obtain ⟨aR, gR, hR⟩ := T.reserved
  refine F.ok scIsName (fun vs H Q E h => ?_) (fun cdv A outer s H vs Q E hr h => ?_)
  · obtain ⟨x, rfl, _⟩ := h
    rfl
  · obtain ⟨x, rfl, h⟩ := h
    refine ⟨_, pss_cons
      (ps_if (PW.pt (pw_or (pt_not (pt_val (pe_callB call_isi (by rfl) T.isi (by decide +kernel) (pa_cons (pv 0) (pa_cons (pe_bltn (by rfl) T.str (by decide +kernel) (v := .ty "str") rfl) pa_nil)))))
          (pw_or1 (pt_not (pt_chain op_le op_le pe_int (pe_callB call_len_str (by rfl) T.len PySem.boot_len (pa_cons (pv 0) pa_nil)) (pe_glob rfl gN (v := .int 8) ⟨_, rfl⟩))))))
        (pss_one (ps_ret pe_bl)) pss_nil)
      (pss_one (ps_ret (pe_and (pe_cmpR op_notIn_seq (pv 0) (pe_glob rfl gR (v := .ref aR) rfl) (by rfl))
        (pe_one (pe_callB (cr_all rfl) (by rfl) T.all (by decide +kernel) (pa_cons
          (pe_lc (own := [("sign", 1)]) (g := gName 1) (tt := tYes) rfl scIsName.nd (pi_str (pv 0)) (blkOk_by (N := ["value", "sign"]) (sc := defScope sIsName) (by decide +kernel))
            (fun _ _ _ _ _ => pg_name (i := 1) scIsName.nd rfl (Or.inl rfl)) (fun _ _ _ _ _ => pts_nil) (fun _ _ _ _ _ => pe_cmpR op_in_sign (pv 1) (pe_glob rfl gL (v := .str lettersS) ⟨_, rfl⟩) (by rfl))) pa_nil)))))), ?_⟩
    rcases h with ⟨z, rfl, hz, k⟩ | ⟨t, ht, hk, k⟩
    · have hzl : z.length ≤ sizeLine := small1000 hz |> Nat.le_of_lt
      refine ⟨_, rfl, _, _, .type "str", .type "str", true, rfl, .ty _, .base (.str _), kit_ty (by decide +kernel), _, rfl, iteF ?_⟩
      refine ⟨_, rfl, _, rfl, hzl, _, _, rfl, rfl, _, rfl, ?_⟩
      have e0 : isName z = (decide ((1 : Int) ≤ z.length) && decide ((z.length : Int) ≤ 8) && !inV (.str z) reservedV && z.cps.toList.all fun c => decide (c ∈ lettersS.cps.toList)) := rfl
      by_cases h1 : (1 : Int) ≤ z.length
      · rw [decide_eq_true h1]
        refine iteT ⟨_, _, rfl, rfl, _, rfl, ?_⟩
        by_cases h2 : (z.length : Int) ≤ 8
        · rw [decide_eq_true h2]
          refine iteF ⟨_, rfl, aR, _, rfl, .inr (hR _), rfl, rfl, _, rfl, ?_⟩
          rw [decide_eq_true h1, decide_eq_true h2] at e0
          cases h3 : inV (.str z) reservedV with
          | true =>
            rw [h3] at e0
            refine iteF ?_
            rw [show isName z = false from e0] at k
            exact k _ (Same.refl _)
          | false =>
            rw [h3] at e0
            refine iteT ?_
            refine ⟨_, rfl, z, rfl, fun D hD => lc_it walk_str (fun i H' => Same H H' ∧ H' D = some (.lst (((z.cps.toList.take i).map fun c => decide (c ∈ lettersS.cps.toList)).map V.bl))) ⟨?_, ?_⟩ (fun _ _ _ _ => True.intro) ?_ ?_⟩
            · exact fun b o e => by rw [upd_ne (ne_of_none e hD)]; exact e
            · rw [upd_same]; rfl
            · rintro i x H1 H2 hi ⟨s1, d1⟩ ⟨rfl, c, hc, rfl⟩
              refine ⟨rfl, ?_⟩
              unfold tYes
              dsimp only
              rw [if_pos rfl]
              refine ⟨_, rfl, c, lettersS, rfl, rfl, _, d1, ?_, ?_, ?_⟩
              · rw [List.length_map, List.length_map, List.length_take]
                exact Nat.lt_of_le_of_lt (Nat.min_le_right _ _) (Nat.lt_of_le_of_lt (show z.cps.toList.length ≤ 1000 from hz) (by decide))
              · exact fun b o e => by rw [upd_ne (ne_of_none e hD)]; exact s1 _ _ e
              · rw [upd_same]
                have hc' : z.cps.toList[i]? = some c := by rw [Array.getElem?_toList]; exact hc
                rw [List.take_add_one, hc', List.map_append, List.map_append]
                rfl
            · rintro H1 ⟨s1, d1⟩
              refine ⟨D, (z.cps.toList.take z.cps.size).map (fun c => decide (c ∈ lettersS.cps.toList)), rfl, SqL.of d1, ?_⟩
              have e2 : (z.cps.toList.take z.cps.size) = z.cps.toList := List.take_of_length_le (by rw [Array.length_toList]; exact Nat.le_refl _)
              have e1 : List.all ((z.cps.toList.take z.cps.size).map (fun c => decide (c ∈ lettersS.cps.toList))) id = z.cps.toList.all fun c => decide (c ∈ lettersS.cps.toList) := by
                rw [e2, List.all_map]; rfl
              have e3 : isName z = List.all ((z.cps.toList.take z.cps.size).map (fun c => decide (c ∈ lettersS.cps.toList))) id := by
                rw [e0, e1]; simp
              show Q (.bl (List.all _ id)) H1
              rw [← e3]
              exact k _ s1
        · rw [decide_eq_false h2]
          rw [decide_eq_false h2, Bool.and_false] at e0
          rw [show isName z = false from by rw [e0]; rfl] at k
          exact iteT (k _ (Same.refl _))
      · rw [decide_eq_false h1] at e0 ⊢
        rw [show isName z = false from e0] at k
        exact iteF ⟨_, rfl, iteT (k _ (Same.refl _))⟩
    · refine ⟨_, rfl, _, _, .type t, .type "str", false, rfl, .ty _, ht, kit_ty hk, _, rfl, iteT ?_⟩
      exact iteT k
end
end Sj
namespace Sj
open PySem L2 Sup
open NdefX (NF NScope ncx envF startF nscope_by)
open C8 (pss_cut tCut)
/-- a leg's attributes -/
def legF (z : Str) : List (Str × V) := putF "name" (.str z) []
theorem legF_name (z : Str) : (legF z).lookup ("name" : Str) = some (.str z) := by
  unfold legF
  rw [lookup_putF, if_pos rfl]
theorem legF_no (z : Str) {m : Str} (h : ¬ m = "name") : (legF z).lookup m = none := by
  unfold legF
  rw [lookup_putF, if_neg h]
  rfl
def errH (H H' : Hp) (d : Addr) (fld : Str) (v : V) : Prop := H d = none ∧ H' d = some (.xd [(fld, v)]) ∧ Same H H'
/-- X.__init__(self, name) of a leg's class: the wish of an error -/
def spLegI (K : PySem.W.Frag) (CI C : Addr) : Sp := fun vs H Q E => ∃ (p dx : Addr) (x : V), vs = [.ref p, x] ∧ H p = some (.ins C dx []) ∧
  ((∃ z : Str, x = .str z ∧ z.length ≤ 1000 ∧ (isName z = true → ∀ H', H' p = some (.ins C dx (legF z)) → But H H' p → Q .non H') ∧
      (isName z = false → ∀ d H', errH H H' d "reason" (.str "name") → E (.ref CI) (some d) H')) ∨
   ∃ t : String, TyX K H x (.type t) ∧ kitB t "str" = some false ∧ ∀ d H', errH H H' d "reason" (.str "name") → E (.ref CI) (some d) H')
structure LgT (P : Program) (K : PySem.W.Frag) (mg : Str → Option Value) (CI fI f n : Addr) : Prop where
  ex : ExT P K mg CI "reason"
  iC : PySem.W.findIn K (.ref CI) "__init__" = some (some (.ref fI))
  tI : PySem.W.typeIn K (.ref fI) = some (.type "function")
  mI : mg "InvalidFrame" = some (.ref CI)
  mN : mg "is_name" = some (.ref n)
structure LegC (K : PySem.W.Frag) (C : Addr) : Prop where
  cl : Cls K C
  nN : NoAttr K C "name"
section
variable {P : Program} {w : World} {K : PySem.W.Frag} {mg : Str → Option Value} {base : Heap}
theorem scLegI : FnScope ["self", "name"] ["self", "name"] (defScope sLegI) := ⟨rfl, rfl, rfl, by decide +kernel, rfl, by decide +kernel, by decide +kernel⟩
theorem ok_legI {f fI fN CI C c cc : Addr} {fd fdI fdN : FuncData} (F : Fun K "__init__" "Leg.__init__" sLegI f fd) (T : LgT P K mg CI fI f fN) (NT : NmT K mg) (LC : LegC K C)
    (FN : Fun K "is_name" "is_name" sIsName fN fdN) (bN : Binds K fdN ["value"] []) (FI : FunS P K "__init__" "InvalidFrame.__init__" sInv fI fdI c cc CI) (bI : Binds K fdI ["self", "reason"] []) :
    FnOk P w K mg base (L2.CX P w) 3 f fd ["self", "name"] (spLegI K CI C) := by
  have GN : FnOk P w K mg base CX0 1 fN fdN ["value"] (spIsName K) := ok_isname FN NT
  have GI : FnOk P w K mg base CX0 1 fI fdI ["self", "reason"] (spInv K CI) := ok_inv FI T.ex
  refine F.okX scLegI (fun vs H Q E h => ?_) (fun cdv A outer s H vs Q E hr h => ?_)
  · obtain ⟨p, dx, x, rfl, _⟩ := h
    rfl
  · obtain ⟨p, dx, x, rfl, hp, h⟩ := h
    have hr1 : Room 1 _ := hr.mono (by decide)
    refine ⟨_, pss_cons (ps_if (pt_not (pt_val (pe_call GN hr1 rfl T.mN FN.kp bN .nil pass0 (pa_cons (pv 1) pa_nil))))
        (pss_one (ps_raise rfl (takes_of rfl rfl rfl rfl) (pmk_oex T.ex.oex T.iC T.tI GI hr bI .nil pass0 rfl T.mI (pa_cons pe_str pa_nil)))) pss_nil)
      (pss_one (ps_fld (pv 0) (pv 1) rfl)), ?_⟩
    have fin : ∀ H1, Same H H1 → (∀ d H', errH H H' d "reason" (.str "name") → E (.ref CI) (some d) H') →
        tMkO CI (spInv K CI) [] (tCons (tC (.str "name")) tNil) (start ["self", "name"] [.ref p, x]) H1 fun cls d H' => E cls d H' := fun H1 s1 k => by
      refine ⟨by show 1 ≤ 1000; decide, fun a ha => ⟨a, "name", rfl, by decide +kernel, upd_same, fun d hd hda => ⟨rfl, d, [("reason", .str "name")], upd_same, ?_, ?_, ?_⟩⟩⟩
      · rw [upd_ne hda, upd_same]
      · rw [upd_ne hda] at hd
        exact hd
      · refine k d _ ⟨?_, upd_same, fun b o e => ?_⟩
        · rw [upd_ne hda] at hd
          exact s1.free hd
        · rw [upd_ne hda] at hd
          have e1 := s1 _ _ e
          have nbd : b ≠ d := ne_of_none e1 hd
          have nba : b ≠ a := ne_of_none e1 ha
          rw [upd_ne nbd, del_ne nba, upd_ne nba, upd_ne nbd, upd_ne nba]
          exact e1
    rcases h with ⟨z, rfl, hz, k1, k2⟩ | ⟨t, ht, hk, k2⟩
    · refine ⟨_, rfl, _, rfl, .inl ⟨z, rfl, hz, fun H1 s1 => ⟨_, rfl, ?_⟩⟩⟩
      cases hn : isName z with
      | true =>
        refine iteF ⟨_, rfl, _, rfl, p, C, dx, _, rfl, s1 _ _ hp, LC.cl, LC.nN, by show 0 < 1000; decide, ?_⟩
        exact k1 hn _ upd_same fun b o hb e => by rw [upd_ne hb]; exact s1 _ _ e
      | false => exact iteT (fin H1 s1 (k2 hn))
    · refine ⟨_, rfl, _, rfl, .inr ⟨t, ht, hk, ⟨_, rfl, ?_⟩⟩⟩
      exact iteT (fin H (Same.refl _) k2)
end
end Sj
namespace Sj
open PySem L2 Sup
open NdefX (NF NScope ncx envF startF nscope_by)
open C8 (pss_cut tCut)
structure SubT (P : Program) (K : PySem.W.Frag) (mg : Str → Option Value) (C f : Addr) : Prop where
  sup : SupT P K mg C
  hm : PySem.W.ks_superIn K C C "__init__" = some (some (.ref f))
  tf : PySem.W.typeIn K (.ref f) = some (.type "function")
  ff : PySem.W.fnIn K f = true
  hs : PySem.W.mroIn K C (.ref C) = some true
section
variable {P : Program} {w : World} {K : PySem.W.Frag} {mg : Str → Option Value} {base : Heap}
theorem scDrvI : NScope ["self", "name", "__class__"] ["self", "name"] ["__class__"] (defScope sDrvI) := nscope_by (by decide +kernel)
theorem scLisI : NScope ["self", "name", "__class__"] ["self", "name"] ["__class__"] (defScope sLisI) := nscope_by (by decide +kernel)
theorem ok_drvI {fL f CI C c cc : Addr} {fd fdL : FuncData} (F : FunS P K "__init__" "Driver.__init__" sDrvI f fd c cc C) (T : SubT P K mg C fL) (bL : Binds K fdL ["self", "name"] [])
    (GL : FnOk P w K mg base (L2.CX P w) 3 fL fdL ["self", "name"] (spLegI K CI C)) : FnOk P w K mg base (L2.CX P w) 4 f fd ["self", "name"] (spLegI K CI C) := by
  refine fn_super F scDrvI (fun vs H Q E h => ?_) (fun A outer s H vs Q E hr h s1 I => ?_)
  · obtain ⟨p, dx, x, rfl, _⟩ := h
    rfl
  · obtain ⟨p, dx, x, rfl, hp, h⟩ := h
    refine super_own (me := "self") (x := p) (C := C) (E := E) (atS_of F rfl rfl rfl rfl ⟨_, rfl, rfl⟩) T.sup GL hr bL .nil (passes_call (takes_of rfl rfl rfl rfl) fun _ _ _ _ h => h) rfl T.hm T.tf T.ff T.hs (by decide)
      (pa_cons (pv 1) pa_nil) pss_nil I rfl (ins_obj I hp) ?_ rfl rfl rfl rfl rfl
    exact ⟨_, rfl, p, dx, x, rfl, hp, h⟩
theorem ok_lisI {fL f CI C c cc : Addr} {fd fdL : FuncData} (F : FunS P K "__init__" "Listener.__init__" sLisI f fd c cc C) (T : SubT P K mg C fL) (bL : Binds K fdL ["self", "name"] [])
    (GL : FnOk P w K mg base (L2.CX P w) 3 fL fdL ["self", "name"] (spLegI K CI C)) : FnOk P w K mg base (L2.CX P w) 4 f fd ["self", "name"] (spLegI K CI C) := by
  refine fn_super F scLisI (fun vs H Q E h => ?_) (fun A outer s H vs Q E hr h s1 I => ?_)
  · obtain ⟨p, dx, x, rfl, _⟩ := h
    rfl
  · obtain ⟨p, dx, x, rfl, hp, h⟩ := h
    refine super_own (me := "self") (x := p) (C := C) (E := E) (atS_of F rfl rfl rfl rfl ⟨_, rfl, rfl⟩) T.sup GL hr bL .nil (passes_call (takes_of rfl rfl rfl rfl) fun _ _ _ _ h => h) rfl T.hm T.tf T.ff T.hs (by decide)
      (pa_cons (pv 1) pa_nil) pss_nil I rfl (ins_obj I hp) ?_ rfl rfl rfl rfl rfl
    exact ⟨_, rfl, p, dx, x, rfl, hp, h⟩
end
end Sj
namespace Sup
open PySem PySem.Spec PyProof.Rows L2
/-! ### x == y, x != y where x or y is an instance with an __eq__ of its own -/
section
variable {M : Model} {prog : Program} {w : World} {A : Around} {E : Value → Shared → Prop} {s : Shared} {K : PySem.W.Frag} {x C g : Addr} {ox : Obj} {od : Option Obj} {b : Value}
/-- the answer, as it is or turned -/
def ansOf (op : CmpOp) (k : Bool) : Bool := match op with
  | .NotEq => !k
  | _ => k
/-- g gives a truth value that R takes -/
def GivesB (prog : Program) (w : World) (A : Around) (E : Value → Shared → Prop) (g x : Addr) (b : Value) (R : Bool → Shared → Prop) (s : Shared) : Prop :=
  wpAny (model prog w) A (call (.ref g) [.ref x, b]) (fun v s' => ∃ k, v = .bool k ∧ R k s') E s
theorem objNe_own (X : K.In s.heap) (I : PySem.W.InstAt s.heap x ox C od) (hs : PySem.W.findIn K (.ref C) "__eq__" = some (some (.ref g))) (hf : PySem.W.isFn K (.ref g) = true) (hu : A.units < cLine) {Q : Fin → Shared → Prop}
    (h : GivesB prog w A E g x b (fun k s' => Q (.done (.ret (.bool (!k)))) s') s) : wpAny (model prog w) A (Builtin.«object.__ne__» ⟨[.ref x, b], []⟩) Q E s := by
  unfold Builtin.«object.__ne__»
  repeat (first
    | with_reducible refine wpAny_cRoomFor hu ?_
    | (refine wpAny_bind (m := callSpecialIfBound? (.ref x) (Str.ofString "__eq__") [b])
        (PySem.W.ifBound_K X I hs hf (wpAny_mono h (fun r s' hr => by
          obtain ⟨k, rfl, hq⟩ := hr
          repeat (first | exact hq | exact wpAny_pure hq | exact wpAny_truthy_bool hq | (refine wpAny_bind (m := truthy (.bool _)) (wpAny_truthy_bool ?_)) | wp_step)) fun _ _ e => e)))
    | wp_step)
theorem ifBound_objNe {args : List Value} {Q : Option Value → Shared → Prop} (X : K.In s.heap) (I : PySem.W.InstAt s.heap x ox C od) (hs : PySem.W.findIn K (.ref C) "__ne__" = some (some (.builtin "object.__ne__")))
    (h : wpAny M A (call (.builtin "object.__ne__") (.ref x :: args)) (fun v => Q (some v)) E s) : wpAny M A (callSpecialIfBound? (.ref x) "__ne__" args) Q E s := by
  simp only [callSpecialIfBound?, bindSpecialIfBound?]
  refine wpAny_holding (wpAny_bind (wpAny_bind (wpAny_bind (I.type.here ((PySem.W.looks_findIn X hs).here ?_)))))
  refine wpAny_bind (wpAny_askSetting (wpAny_ite ?_))
  have fin : wpAny M A (call (.builtin "object.__ne__") ([.ref x] ++ args) >>= fun v => pure (some v)) Q E s := wpAny_bind (wpAny_mono h (fun v s' h' => wpAny_pure h') fun _ _ h' => h')
  split
  · exact wpAny_bind (wpAny_of_eq (F.cmp_object.ne.bind _) (wpAny_pure (by exact fin)))
  · exact wpAny_tryCatch (wpAny_bind (wpAny_of_eq (F.cmp_object.ne.bind _) (wpAny_pure (by exact fin))))
/-- the instance's own answer -/
theorem try_own {op : CmpOp} (hop : op = .Eq ∨ op = .NotEq) (X : K.In s.heap) (I : PySem.W.InstAt s.heap x ox C od) (hs : PySem.W.findIn K (.ref C) "__eq__" = some (some (.ref g))) (hf : PySem.W.isFn K (.ref g) = true)
    (hn : PySem.W.findIn K (.ref C) "__ne__" = some (some (.builtin "object.__ne__"))) (hm : PySem.W.mroIn K C (.type "object") = some true) (hu : A.in1.units < cLine) {R : Bool → Shared → Prop}
    (h : ∀ A', A' = A ∨ A' = A.in1 → GivesB prog w A' E g x b R s) :
    wpAny (model prog w) A (tryCompare (.ref x) (cmpInfo op).2.1 b) (fun r s' => ∃ k, r = some (.bool (ansOf op k)) ∧ R k s') E s := by
  rcases hop with rfl | rfl
  · unfold tryCompare
    refine wpAny_bind (PySem.W.ifBound_K X I hs hf (wpAny_mono (h A (.inl rfl)) (fun v s' hv => ?_) fun _ _ e => e))
    obtain ⟨k, rfl, hq⟩ := hv
    exact wpAny_pure ⟨k, rfl, hq⟩
  · unfold tryCompare
    refine wpAny_bind (ifBound_objNe X I hn (wpAny_call (codeAny_call_builtin F.cmp_object.ne.plain F.cmpEntry_ne (PySem.W.check_slot F.cmpKind_ne F.cmpSplit_ne (I.type.andThen (PySem.W.looks_mroIn X hm)) (F.cmpArgs_ne _ _)
      (objNe_own X I hs hf hu (wpAny_mono (h A.in1 (.inr rfl)) (fun v s' hv => ?_) fun _ _ e => e))))))
    obtain ⟨k, rfl, hq⟩ := hv
    exact ⟨k, rfl, wpAny_pure ⟨k, rfl, hq⟩⟩
theorem rc_own_left {op : CmpOp} (hop : op = .Eq ∨ op = .NotEq) {tb : Value} {Q : Value → Shared → Prop} (hu : A.units < cLine) (X : K.In s.heap) (I : PySem.W.InstAt s.heap x ox C od) (hb : PySem.W.Looks (model prog w) s.heap (typeOf b) tb) (hn : PySem.W.notFirst K C tb = true)
    {R : Bool → Shared → Prop} (one : wpAny (model prog w) A (tryCompare (.ref x) (cmpInfo op).2.1 b) (fun r s' => ∃ k, r = some (.bool (ansOf op k)) ∧ R k s') E s) (h : ∀ k s', R k s' → Q (.bool (ansOf op k)) s') :
    wpAny (model prog w) A (richCompare op (.ref x) b) Q E s := by
  unfold richCompare
  simp only [oneThing_ref]
  refine wpAny_holding (wpAny_bind (wpAny_cRoomFor hu ?_))
  refine wpAny_bind (I.type.here (wpAny_bind (hb.here ?_)))
  split
  · rename_i q
    have e : PySem.W.subIn K tb (.ref C) = some false := by
      rcases Bool.or_eq_true_iff.mp hn with e | e
      · rw [beq_iff_eq.mp e] at q; simp at q
      · exact beq_iff_eq.mp e
    refine wpAny_bind ((PySem.W.looks_subIn X e).here ?_)
    simp only [Bool.false_eq_true, if_false]
    refine wpAny_bind (wpAny_mono one (fun r s' z => ?_) fun _ _ e => e)
    obtain ⟨k, rfl, hq⟩ := z
    exact wpAny_pure (h _ _ hq)
  · refine wpAny_bind (wpAny_pure ?_)
    simp only [Bool.false_eq_true, if_false]
    refine wpAny_bind (wpAny_mono one (fun r s' z => ?_) fun _ _ e => e)
    obtain ⟨k, rfl, hq⟩ := z
    exact wpAny_pure (h _ _ hq)
/-- the right one's class is below the left one's: it is asked first -/
theorem rc_own_right {op : CmpOp} (hop : op = .Eq ∨ op = .NotEq) {a' D : Addr} {oy : Obj} {od' : Option Obj} {Q : Value → Shared → Prop} (hu : A.units < cLine) (X : K.In s.heap) (I : PySem.W.InstAt s.heap x ox C od) (J : PySem.W.InstAt s.heap a' oy D od')
    (hne : D ≠ C) (hsub : PySem.W.subIn K (.ref D) (.ref C) = some true)
    {R : Bool → Shared → Prop} (one : wpAny (model prog w) A (tryCompare (.ref a') (cmpInfo op).2.1 (.ref x)) (fun r s' => ∃ k, r = some (.bool (ansOf op k)) ∧ R k s') E s) (h : ∀ k s', R k s' → Q (.bool (ansOf op k)) s') :
    wpAny (model prog w) A (richCompare op (.ref x) (.ref a')) Q E s := by
  have hr : (cmpInfo op).2.2 = (cmpInfo op).2.1 := by rcases hop with rfl | rfl <;> rfl
  unfold richCompare
  simp only [oneThing_ref]
  refine wpAny_holding (wpAny_bind (wpAny_cRoomFor hu ?_))
  refine wpAny_bind (I.type.here (wpAny_bind (J.type.here ?_)))
  split
  · refine wpAny_bind ((PySem.W.looks_subIn X hsub).here ?_)
    simp only [if_true]
    rw [hr]
    refine wpAny_bind (wpAny_mono one (fun r s' z => ?_) fun _ _ e => e)
    obtain ⟨k, rfl, hq⟩ := z
    exact wpAny_bind (wpAny_rule (wpAny_pure (h _ _ hq)))
  · rename_i q
    exact absurd (show (Value.ref C != Value.ref D) = true by simp [Ne.symm hne]) q
end
/-- what == asks of the class at C -/
structure EqC (X : Cx) (C : Addr) (sp : Sp) : Prop where
  ex : ∃ (g : Addr) (fd : FuncData) (k : Nat), PySem.W.findIn X.K (.ref C) "__eq__" = some (some (.ref g)) ∧ PySem.W.isFn X.K (.ref g) = true ∧ FnOk X.prog X.w X.K X.mg X.base CX0 k g fd ["self", "other"] sp ∧ Room (k + 1) X.A ∧ Binds X.K fd ["self", "other"] []
  ne : PySem.W.findIn X.K (.ref C) "__ne__" = some (some (.builtin "object.__ne__"))
  ob : PySem.W.mroIn X.K C (.type "object") = some true
def rOwnE (K : PySem.W.Frag) (op : CmpOp) (S : Addr → Prop) (spE : Addr → Sp) : R2 := fun x y H Q => ∃ a C dx fs, x = .ref a ∧ H a = some (.ins C dx fs) ∧ S C ∧
  ((∃ t, TyX K H y t ∧ PySem.W.notFirst K C t = true ∧ spE C [x, y] H (fun z H' => ∃ k, z = .bl k ∧ Q (.bl (ansOf op k)) H') E0) ∨
   ∃ b D dy gs, y = .ref b ∧ H b = some (.ins D dy gs) ∧ S D ∧ D ≠ C ∧ PySem.W.subIn K (.ref D) (.ref C) = some true ∧ spE D [y, x] H (fun z H' => ∃ k, z = .bl k ∧ Q (.bl (ansOf op k)) H') E0)
section
variable {X : Cx} {pins : List (Addr × Obj)} {σ : L2.St} {H : Hp} {s : Shared}
theorem gives_own {A : Around} {g a : Addr} {fd : FuncData} {k : Nat} {sp : Sp} {y : V} {b : Value} {Q' : Bool → Hp → Prop} {E' : Value → Shared → Prop} (F : FnOk X.prog X.w X.K X.mg X.base CX0 k g fd ["self", "other"] sp) (hr : Room k A) (hb : Binds X.K fd ["self", "other"] []) (e0 : Env0 X.prog X.w X.K X.mg X.base A X.stack s H)
    (I : Inv X pins σ H s) (ry : RelV y b) (h : sp [.ref a, y] H (fun z H' => ∃ k, z = .bl k ∧ Q' k H') E0) :
    GivesB X.prog X.w A E' g a b (fun k s' => ∃ H', Inv X pins σ H' s' ∧ Q' k H') s := by
  refine wpAny_call (codeAny_mono (F.run A X.stack s H ⟨[.ref a, b], []⟩ [.ref a, b] [.ref a, y] _ E0 hr e0 (by simpa using hb s [.ref a, b] I.kIn rfl) (.cons rfl (.cons ry .nil)) h) fun r s' hq => ?_)
  cases r with
  | error e => exact False.elim hq
  | ok fl =>
    cases fl with
    | ret u =>
      obtain ⟨v, H', I', rv, k, ev, q⟩ := I.after hq
      subst ev
      exact ⟨k, rv, H', I', q⟩
    | next => exact False.elim hq
    | brk => exact False.elim hq
    | cont => exact False.elim hq
theorem op_ownE {op : CmpOp} (hop : op = .Eq ∨ op = .NotEq) {S : Addr → Prop} {spE : Addr → Sp} (T : ∀ C, S C → EqC X C (spE C)) : OpR X (compareOp op) (rOwnE X.K op S spE) := by
  intro pins s σ H x y v u Q I rx ry h
  obtain ⟨a, C, dx, fs, rfl, ha, hS, h⟩ := h
  obtain rfl : v = Value.ref a := rx
  obtain ⟨mA, O, _⟩ := ins_get I.hok ha
  obtain ⟨od, J, _⟩ := O.look
  have hcmp : compareOp op (.ref a) u = richCompare op (.ref a) u := by rcases hop with rfl | rfl <;> rfl
  rw [hcmp]
  have KX := I.kIn
  rcases h with ⟨t, ht, hn, q⟩ | ⟨b, D, dy, gs, rfl, hb, hSD, hne, hsub, q⟩
  · obtain ⟨⟨g, fd, k, h1, h2, GF, hr, hbd⟩, h3, h4⟩ := T C hS
    obtain ⟨P, KP, hP, _⟩ := kit_of I ry ht
    refine rc_own_left hop hr.units0 KX J (KP.ty _ _ KX hP) hn (R := fun k s' => ∃ H', Inv X pins σ H' s' ∧ Q (.bl (ansOf op k)) H') (try_own hop KX J h1 h2 h3 h4 (Room.in1 hr).units0 fun A' hA => ?_) fun k s' ⟨H', I', qq⟩ => ⟨.bl (ansOf op k), H', I', rfl, qq⟩
    rcases hA with rfl | rfl
    · exact gives_own GF (hr.mono (Nat.le_succ _)) hbd I.env0 I ry q
    · exact gives_own GF (Room.in1 hr) hbd I.env0.in1 I ry q
  · obtain rfl : u = Value.ref b := ry
    obtain ⟨⟨g, fd, k, h1, h2, GF, hr, hbd⟩, h3, h4⟩ := T D hSD
    obtain ⟨mB, O', _⟩ := ins_get I.hok hb
    obtain ⟨od', J', _⟩ := O'.look
    refine rc_own_right hop hr.units0 KX J J' hne hsub (R := fun k s' => ∃ H', Inv X pins σ H' s' ∧ Q (.bl (ansOf op k)) H') (try_own hop KX J' h1 h2 h3 h4 (Room.in1 hr).units0 fun A' hA => ?_) fun k s' ⟨H', I', qq⟩ => ⟨.bl (ansOf op k), H', I', rfl, qq⟩
    rcases hA with rfl | rfl
    · exact gives_own GF (hr.mono (Nat.le_succ _)) hbd I.env0 I (y := .ref a) rfl q
    · exact gives_own GF (Room.in1 hr) hbd I.env0.in1 I (y := .ref a) rfl q
end
end Sup
namespace Sup
open PySem PySem.Spec PyProof.Rows L2
section
variable {X : Cx}
/-- repr(True) -/
def boolText (b : Bool) : Str := if b then "True" else "False"
theorem call_repr_bool : CallR X (.builtin "repr") (fun xs H Q => ∃ b, xs = [.bl b] ∧ Q (.str (boolText b)) H) := by
  intro pins s σ H xs us Q I r h
  obtain ⟨b, rfl, q⟩ := h
  obtain ⟨u, rfl, ru⟩ := r.one
  obtain rfl : u = Value.bool b := ru
  exact PySem.P.repr_of_bool ⟨.str (boolText b), H, I.tok _, ⟨_, rfl⟩, q⟩
/-- repr of data, where nothing is shown around -/
theorem call_reprD (hg : X.A.guards = some []) (hu : X.A.units + 70 < cLine) : CallR X (.builtin "repr") (fun xs H Q => ∃ x d, xs = [x] ∧ Dp X.K H x d ∧ (∃ a, x = .ref a) ∧ PyData.showable d = true ∧ d.hasDict = false ∧ d.depth ≤ 64 ∧ d.shown.length ≤ sizeLine ∧ Q (.str d.shown) H) := by
  intro pins s σ H xs us Q I r h
  obtain ⟨x, d, rfl, hd, ⟨a, rfl⟩, hs, hno, hdp, hsz, q⟩ := h
  obtain ⟨u, rfl, ru⟩ := r.one
  obtain ⟨as, rd⟩ := Dp.reads I d (.ref a) u hd ru
  obtain rfl : u = Value.ref a := ru
  exact PySem.repr_of_reads' rd hs (PyData.noDict_hsm hno) hg (by omega) (fun _ _ e => e) (fun h' u tk hk => ⟨.str d.shown, H, I.kept (t' := tk) hk, ⟨_, rfl⟩, q⟩) hsz
/-- a class's own __str__ or __repr__ -/
structure StrC (X : Cx) (C : Addr) (name : Str) (sp : Sp) : Prop where
  ex : ∃ (g : Addr) (fd : FuncData) (k : Nat), PySem.W.findIn X.K (.ref C) name = some (some (.ref g)) ∧ PySem.W.isFn X.K (.ref g) = true ∧ FnOk X.prog X.w X.K X.mg X.base CX0 k g fd ["self"] sp ∧ Room (k + 3) X.A ∧ Binds X.K fd ["self"] []
def rStrOwn (S : Addr → Prop) (spS : Addr → Sp) : List V → Hp → VK → Prop := fun xs H Q => ∃ a C dx fs, xs = [.ref a] ∧ H a = some (.ins C dx fs) ∧ S C ∧ spS C [.ref a] H (fun z H' => ∃ y, z = .str y ∧ Q (.str y) H') E0
theorem gives_str {pins : List (Addr × Obj)} {σ : L2.St} {H : Hp} {s : Shared} {A : Around} {g a : Addr} {fd : FuncData} {k : Nat} {sp : Sp} {Q' : VK} {E' : Value → Shared → Prop} (F : FnOk X.prog X.w X.K X.mg X.base CX0 k g fd ["self"] sp) (hr : Room k A) (hb : Binds X.K fd ["self"] [])
    (e0 : Env0 X.prog X.w X.K X.mg X.base A X.stack s H) (I : Inv X pins σ H s) (h : sp [.ref a] H (fun z H' => ∃ y, z = .str y ∧ Q' (.str y) H') E0) :
    wpAny (model X.prog X.w) A (call (.ref g) [.ref a]) (PySem.W.StrBack (EP X pins σ Q')) E' s := by
  refine wpAny_call (codeAny_mono (F.run A X.stack s H ⟨[.ref a], []⟩ [.ref a] [.ref a] _ E0 hr e0 (by simpa using hb s [.ref a] I.kIn rfl) (.cons rfl .nil) h) fun r s' hq => ?_)
  cases r with
  | error e => exact False.elim hq
  | ok fl =>
    cases fl with
    | ret u =>
      obtain ⟨v, H', I', rv, y, ev, q⟩ := I.after hq
      subst ev
      obtain ⟨t, rfl⟩ := rv
      exact ⟨.str y, H', I', ⟨t, rfl⟩, q⟩
    | next => exact False.elim hq
    | brk => exact False.elim hq
    | cont => exact False.elim hq
theorem call_strOwn {S : Addr → Prop} {spS : Addr → Sp} (T : ∀ C, S C → StrC X C "__str__" (spS C)) : CallR X (.type "str") (rStrOwn S spS) := by
  intro pins s σ H xs us Q I r h
  obtain ⟨a, C, dx, fs, rfl, ha, hS, q⟩ := h
  obtain ⟨u, rfl, ru⟩ := r.one
  obtain rfl : u = Value.ref a := ru
  obtain ⟨g, fd, k, h1, h2, GF, hr, hb⟩ := T C hS
  obtain ⟨mA, O, _⟩ := ins_get I.hok ha
  obtain ⟨od, J, _⟩ := O.look
  have hr2 : Room k X.A.in1.in1 := ((show Room (k + 2) X.A from hr.mono (by omega)).in1).in1
  exact PySem.W.kso_call hr2.units0 I.kIn J h1 h2 (gives_str GF hr2 hb I.env0.in1.in1 I q)
theorem call_reprOwn {S : Addr → Prop} {spS : Addr → Sp} (T : ∀ C, S C → StrC X C "__repr__" (spS C)) : CallR X (.builtin "repr") (rStrOwn S spS) := by
  intro pins s σ H xs us Q I r h
  obtain ⟨a, C, dx, fs, rfl, ha, hS, q⟩ := h
  obtain ⟨u, rfl, ru⟩ := r.one
  obtain rfl : u = Value.ref a := ru
  obtain ⟨g, fd, k, h1, h2, GF, hr, hb⟩ := T C hS
  obtain ⟨mA, O, _⟩ := ins_get I.hok ha
  obtain ⟨od, J, _⟩ := O.look
  obtain ⟨m, hF⟩ := I.fr
  have hr2 : Room k X.A.in1 := (show Room (k + 1) X.A from hr.mono (by omega)).in1
  exact PySem.W.repr_K hr2.units0 hF I.ok.mod.kin J h1 h2 (gives_str GF hr2 hb I.env0.in1 I q)
end
end Sup
namespace Sj
open PySem L2 Sup
open NdefX (NF NScope ncx envF startF nscope_by)
open C8 (pss_cut tCut)
abbrev sLeg (i : Nat) : Stmt := inClass (top 14) i
abbrev sDrv (i : Nat) : Stmt := inClass (top 15) i
abbrev sLis (i : Nat) : Stmt := inClass (top 16) i
/-- a leg of the class at C with the name z stands at a -/
def LegAt (H : Hp) (a C : Addr) (z : Str) : Prop := ∃ dx, H a = some (.ins C dx (legF z))
theorem LegAt.same {H H' : Hp} {a C : Addr} {z : Str} (h : LegAt H a C z) (s : Same H H') : LegAt H' a C z := h.imp fun _ e => s _ _ e
def spDr (C : Addr) (b : Bool) : Sp := fun vs H Q _ => ∃ a z, vs = [.ref a] ∧ LegAt H a C z ∧ Q (.bl b) H
/-- the facts of a class that isinstance asks -/
structure IsiC (K : PySem.W.Frag) (C : Addr) : Prop where
  cl : Cls K C
  ca : PySem.W.findIn K (.ref C) "__class__" = some (some (.builtin "object.__class__"))
  cn : PySem.W.specialIn K (.builtin "object.__class__") "__get__" = some (some (.builtin "getset_descriptor.__get__"))
  ct : PySem.W.takesIn K (.builtin "object.__class__") = some true
  cm : PySem.W.mroIn K C (.type "object") = some true
theorem LegAt.ty {K : PySem.W.Frag} {H : Hp} {a C : Addr} {z : Str} (h : LegAt H a C z) (c : IsiC K C) : TyX K H (.ref a) (.ref C) := by
  obtain ⟨dx, e⟩ := h
  exact .base (.ins e c.cl c.ca c.cn c.ct c.cm)
/-- C's __eq__: a leg of the class at C itself, or a value that is no C -/
def spEq (K : PySem.W.Frag) (C : Addr) : Sp := fun vs H Q _ => ∃ a z y, vs = [.ref a, y] ∧ LegAt H a C z ∧
  ((∃ b z', y = .ref b ∧ LegAt H b C z' ∧ Q (.bl (decide (z = z'))) H) ∨ ∃ t, TyX K H y t ∧ PySem.W.kitOne K t (.ref C) = some false ∧ Q (.bl false) H)
def spStr (C : Addr) (pre post : Str) : Sp := fun vs H Q _ => ∃ a z, vs = [.ref a] ∧ LegAt H a C z ∧ z.length ≤ 1000 ∧ Q (.str (pre ++ z ++ post)) H
def spStr1 (C : Addr) (pre : Str) : Sp := fun vs H Q _ => ∃ a z, vs = [.ref a] ∧ LegAt H a C z ∧ z.length ≤ 1000 ∧ Q (.str (pre ++ z)) H
structure EqT (K : PySem.W.Frag) (mg : Str → Option Value) (C : Addr) (nm : Str) : Prop where
  isi : mg "isinstance" = none
  mC : mg nm = some (.ref C)
  ic : IsiC K C
  self : PySem.W.kitOne K (.ref C) (.ref C) = some true
  nN : NoAttr K C "name"
section
variable {P : Program} {w : World} {K : PySem.W.Frag} {mg : Str → Option Value} {base : Heap}
theorem scS1 {st : Stmt} (h : defScope st = defScope (sLeg 2)) : FnScope ["self"] ["self"] (defScope st) := by
  rw [h]
  exact ⟨rfl, rfl, rfl, by decide +kernel, rfl, by decide +kernel, by decide +kernel⟩
theorem ok_drives {f C : Addr} {fd : FuncData} {st : Stmt} {q : Str} {b : Bool} {p1 p2 : Pos} {i1 : Nat} (F : Fun K "drives" q st f fd) (hs : defScope st = defScope (sLeg 2)) (hb : defBody st = [.Return (some (.Constant (.bool b) i1 p1)) p2]) :
    FnOk P w K mg base CX0 1 f fd ["self"] (spDr C b) := by
  refine F.ok (scS1 hs) (fun vs H Q E h => ?_) (fun cdv A outer s H vs Q E hr h => ?_)
  · obtain ⟨a, z, rfl, _⟩ := h
    rfl
  · obtain ⟨a, z, rfl, _, k⟩ := h
    rw [hb]
    exact ⟨_, pss_one (ps_ret pe_bl), k⟩
theorem scEqL : FnScope ["self", "other"] ["self", "other"] (defScope (sLeg 3)) := ⟨rfl, rfl, rfl, by decide +kernel, rfl, by decide +kernel, by decide +kernel⟩
theorem scEqD : FnScope ["self", "other"] ["self", "other"] (defScope (sDrv 3)) := ⟨rfl, rfl, rfl, by decide +kernel, rfl, by decide +kernel, by decide +kernel⟩
theorem scEqI : FnScope ["self", "other"] ["self", "other"] (defScope (sLis 3)) := ⟨rfl, rfl, rfl, by decide +kernel, rfl, by decide +kernel, by decide +kernel⟩
theorem str_eq (z z' : Str) : decide (V.str z = V.str z') = decide (z = z') := by
  by_cases h : z = z'
  · rw [decide_eq_true h, h]; exact decide_eq_true rfl
  · rw [decide_eq_false h]; exact decide_eq_false fun e => h (V.str.inj e)
theorem ok_eqD {f C : Addr} {fd : FuncData} (F : Fun K "__eq__" "Driver.__eq__" (sDrv 3) f fd) (T : EqT K mg C "Driver") : FnOk P w K mg base CX0 1 f fd ["self", "other"] (spEq K C) := by
  refine F.ok scEqD (fun vs H Q E h => ?_) (fun cdv A outer s H vs Q E hr h => ?_)
  · obtain ⟨a, z, y, rfl, _⟩ := h
    rfl
  · obtain ⟨a, z, y, rfl, ha, h⟩ := h
    refine ⟨_, pss_one (ps_ret (pe_and (pe_callB call_isi (by rfl) T.isi (by decide +kernel) (pa_cons (pv 1) (pa_cons (pe_glob rfl T.mC (v := .ref C) rfl) pa_nil)))
      (pe_one (pe_cmpR op_eq (pe_fld (pv 0) rfl) (pe_fld (pv 1) rfl) (nomark _))))), ?_⟩
    rcases h with ⟨b, z', rfl, hb, k⟩ | ⟨t, ht, hk, k⟩
    · obtain ⟨dx, ea⟩ := id ha
      obtain ⟨dy, eb⟩ := id hb
      refine ⟨_, rfl, _, _, .ref C, .ref C, true, rfl, .own _, hb.ty T.ic, T.self, _, rfl, iteT ?_⟩
      refine ⟨_, rfl, a, C, dx, _, _, rfl, ea, T.ic.cl, T.nN, legF_name _, _, rfl, b, C, dy, _, _, rfl, eb, T.ic.cl, T.nN, legF_name _, rfl, ?_⟩
      show Q (.bl (decide (V.str z = V.str z'))) H
      rw [str_eq]
      exact k
    · exact ⟨_, rfl, _, _, t, .ref C, false, rfl, .own _, ht, hk, _, rfl, iteF k⟩
theorem ok_eqI {f C : Addr} {fd : FuncData} (F : Fun K "__eq__" "Listener.__eq__" (sLis 3) f fd) (T : EqT K mg C "Listener") : FnOk P w K mg base CX0 1 f fd ["self", "other"] (spEq K C) := by
  refine F.ok scEqI (fun vs H Q E h => ?_) (fun cdv A outer s H vs Q E hr h => ?_)
  · obtain ⟨a, z, y, rfl, _⟩ := h
    rfl
  · obtain ⟨a, z, y, rfl, ha, h⟩ := h
    refine ⟨_, pss_one (ps_ret (pe_and (pe_callB call_isi (by rfl) T.isi (by decide +kernel) (pa_cons (pv 1) (pa_cons (pe_glob rfl T.mC (v := .ref C) rfl) pa_nil)))
      (pe_one (pe_cmpR op_eq (pe_fld (pv 0) rfl) (pe_fld (pv 1) rfl) (nomark _))))), ?_⟩
    rcases h with ⟨b, z', rfl, hb, k⟩ | ⟨t, ht, hk, k⟩
    · obtain ⟨dx, ea⟩ := id ha
      obtain ⟨dy, eb⟩ := id hb
      refine ⟨_, rfl, _, _, .ref C, .ref C, true, rfl, .own _, hb.ty T.ic, T.self, _, rfl, iteT ?_⟩
      refine ⟨_, rfl, a, C, dx, _, _, rfl, ea, T.ic.cl, T.nN, legF_name _, _, rfl, b, C, dy, _, _, rfl, eb, T.ic.cl, T.nN, legF_name _, rfl, ?_⟩
      show Q (.bl (decide (V.str z = V.str z'))) H
      rw [str_eq]
      exact k
    · exact ⟨_, rfl, _, _, t, .ref C, false, rfl, .own _, ht, hk, _, rfl, iteF k⟩
theorem ok_eqL {f C : Addr} {fd : FuncData} {uK : Value} (F : Fun K "__eq__" "Leg.__eq__" (sLeg 3) f fd) (T : EqT K mg C "Leg") (hK : Con K C "KIND" (.str "leg") uK) : FnOk P w K mg base CX0 1 f fd ["self", "other"] (spEq K C) := by
  refine F.ok scEqL (fun vs H Q E h => ?_) (fun cdv A outer s H vs Q E hr h => ?_)
  · obtain ⟨a, z, y, rfl, _⟩ := h
    rfl
  · obtain ⟨a, z, y, rfl, ha, h⟩ := h
    refine ⟨_, pss_one (ps_ret (pe_and (pe_callB call_isi (by rfl) T.isi (by decide +kernel) (pa_cons (pv 1) (pa_cons (pe_glob rfl T.mC (v := .ref C) rfl) pa_nil)))
      (pe_and (pe_cmpR op_eq (pe_con (pv 0) rfl) (pe_con (pv 1) rfl) (nomark _)) (pe_one (pe_cmpR op_eq (pe_fld (pv 0) rfl) (pe_fld (pv 1) rfl) (nomark _)))))), ?_⟩
    rcases h with ⟨b, z', rfl, hb, k⟩ | ⟨t, ht, hk, k⟩
    · obtain ⟨dx, ea⟩ := id ha
      obtain ⟨dy, eb⟩ := id hb
      have nk : (legF z).lookup ("KIND" : Str) = none := legF_no _ (by decide +kernel)
      have nk' : (legF z').lookup ("KIND" : Str) = none := legF_no _ (by decide +kernel)
      refine ⟨_, rfl, _, _, .ref C, .ref C, true, rfl, .own _, hb.ty T.ic, T.self, _, rfl, iteT ?_⟩
      refine ⟨_, rfl, a, C, dx, _, _, _, rfl, ea, T.ic.cl, hK, nk, _, rfl, b, C, dy, _, _, _, rfl, eb, T.ic.cl, hK, nk', rfl, _, rfl, ?_⟩
      rw [show decide (V.str "leg" = V.str "leg") = true from decide_eq_true rfl]
      refine iteT ⟨_, rfl, a, C, dx, _, _, rfl, ea, T.ic.cl, T.nN, legF_name _, _, rfl, b, C, dy, _, _, rfl, eb, T.ic.cl, T.nN, legF_name _, rfl, ?_⟩
      show Q (.bl (decide (V.str z = V.str z'))) H
      rw [str_eq]
      exact k
    · exact ⟨_, rfl, _, _, t, .ref C, false, rfl, .own _, ht, hk, _, rfl, iteF k⟩
end
end Sj
namespace Sj
open PySem L2 Sup
open NdefX (NF NScope ncx envF startF nscope_by)
open C8 (pss_cut tCut)
abbrev sTags : Stmt := top 24
def poolA : List Str := ["a", "frame", "b", "rest", "self", "c", "zzzzzzzz", "word", "d"]
def poolB : List Str := ["e", "reads", "leg", "x", "grounds", "q", "cls"]
def poolS : List Str := poolA ++ poolB
def spTags : Sp := fun vs H Q _ => ∃ (p l : Addr) (cs : List Int) (n m : Nat), vs = [.ref p, .int m] ∧ Pen H p l cs n ∧ m ≤ 16 ∧ n < 100000 ∧
  ∀ (H' : Hp) (q : Addr) (xs rest : List Str), H q = none → H' q = some (.lst (xs.map V.str)) → xs.length = m → (xs ++ rest).Perm poolS → Pen H' p l cs (n + m) → But H H' p → Q (.ref q) H'
section
variable {P : Program} {w : World} {K : PySem.W.Frag} {mg : Str → Option Value} {base : Heap}
theorem scTags : FnScope ["_law_pen_here", "_law_many", "_law_pool", "_law_turn"] ["_law_pen_here", "_law_many"] (defScope sTags) := ⟨rfl, rfl, rfl, by decide +kernel, rfl, by decide +kernel, by decide +kernel⟩
theorem map_erase {α β : Type} (f : α → β) : ∀ (xs : List α) (k : Nat), (xs.map f).eraseIdx k = (xs.eraseIdx k).map f
  | [], _ => by simp
  | x :: xs, 0 => rfl
  | x :: xs, k + 1 => by
    show f x :: (xs.map f).eraseIdx k = f x :: (xs.eraseIdx k).map f
    rw [map_erase f xs k]
theorem perm_erase {α : Type} : ∀ (xs : List α) (k : Nat) (h : k < xs.length), ([xs[k]] ++ xs.eraseIdx k).Perm xs
  | x :: xs, 0, _ => List.Perm.refl _
  | x :: xs, k + 1, h => by
    have hk : k < xs.length := Nat.lt_of_succ_lt_succ h
    have q := perm_erase xs k hk
    exact (List.Perm.swap x xs[k] (xs.eraseIdx k)).trans (List.Perm.cons x q)
theorem Pen.same {H H' : Hp} {p l : Addr} {cs : List Int} {n : Nat} (h : Pen H p l cs n) (s : Same H H') : Pen H' p l cs n := by
  obtain ⟨i, g, h1, h2, h3⟩ := h
  exact ⟨i, g, s _ _ h1, s _ _ h2, h3⟩
/-- the reading of _law_pool.pop(_law_draw(_law_pen_here, len(_law_pool))) -/
def rLenQ (K : PySem.W.Frag) : List V → Hp → VK → Prop := fun xs H Q => ∃ p ys, xs = [.ref p] ∧ (SqL K H p ys ∨ SqT K H p ys) ∧ Q (.int ys.length) H
def rPopQ : V → List V → Hp → VK → Prop := fun x ys H Q => ∃ l xs i k y, x = .ref l ∧ ys = [.int i] ∧ H l = some (.lst xs) ∧ -(2 ^ 63) ≤ i ∧ i < 2 ^ 63 ∧ seqIndex? i xs.length = some k ∧ xs[k]? = some y ∧ Q y (upd H l (.lst (xs.eraseIdx k)))
def tePop (K : PySem.W.Frag) : TE := tBM K "list" rPopQ (tVar 2) (tCons (tCall spDraw [] E0 (tCons (tVar 0) (tCons (tCB (rLenQ K) (tCons (tVar 2) tNil)) tNil))) tNil)
theorem ok_tags {f fD : Addr} {fd fdD : FuncData} (F : Fun K "_law_tags" "_law_tags" sTags f fd) (B : Bi mg) (mR : mg "range" = none) (FD : Fun K "_law_draw" "_law_draw" sDraw fD fdD) (bD : Binds K fdD ["_law_pen_here", "_law_many"] []) (mD : mg "_law_draw" = some (.ref fD)) :
    FnOk P w K mg base CX0 2 f fd ["_law_pen_here", "_law_many"] spTags := by
  have GD : FnOk P w K mg base CX0 1 fD fdD ["_law_pen_here", "_law_many"] spDraw := ok_draw FD B
  refine F.ok scTags (fun vs H Q E h => ?_) (fun cdv A outer s H vs Q E hr h => ?_)
  · obtain ⟨p, l, cs, n, m, rfl, _⟩ := h
    rfl
  · obtain ⟨p, l, cs, n, m, rfl, hP, hm, hn, k⟩ := h
    refine ⟨_, pss_cons (ps_set (i := 2) scTags.nd rfl (Or.inr rfl) (pe_lst (pa_cons pe_str (pa_cons pe_str (pa_cons pe_str (pa_cons pe_str (pa_cons pe_str (pa_cons pe_str (pa_cons pe_str (pa_cons pe_str (pa_cons pe_str pa_nil)))))))))))
      (pss_cons (ps_set (i := 2) scTags.nd rfl (Or.inr rfl) (pe_op op_cat (pv 2) (pe_lst (pa_cons pe_str (pa_cons pe_str (pa_cons pe_str (pa_cons pe_str (pa_cons pe_str (pa_cons pe_str (pa_cons pe_str pa_nil))))))))))
      (pss_one (ps_ret (pe_lc (te := tePop K) (own := [("_law_turn", 3)]) (g := gName 3) (tt := tYes) rfl scTags.nd (pi_range1 rfl mR (pa_cons (pv 1) pa_nil))
        (blkOk_by (N := ["_law_pen_here", "_law_many", "_law_pool", "_law_turn"]) (sc := defScope sTags) (by decide +kernel)) (fun _ _ _ _ _ => pg_name (i := 3) scTags.nd rfl (Or.inl rfl)) (fun _ _ _ _ _ => pts_nil)
        (fun s0 H0 C0 cl0 fp0 => by
          refine pe_bm PySem.F.plainAttrs_list PySem.F.slot_list_pop PySem.F.type_list_pop mt_popAt ?o ?a
          case o => exact pv 2
          case a =>
            refine pa_cons ?b pa_nil
            refine pe_call GD hr ?g mD FD.kp bD .nil pass0 ?c
            case g => rfl
            case c => exact pa_cons (pv 0) (pa_cons (pe_callB call_len_seq (by rfl) B.len PySem.boot_len (pa_cons (pv 2) pa_nil)) pa_nil)))))), ?_⟩
    refine ⟨(by show 9 ≤ sizeLine; decide), fun q1 h1 => ?_⟩
    refine ⟨_, rfl, (by show 7 ≤ sizeLine; decide), fun q2 h2 => ?_⟩
    have n12 : q1 ≠ q2 := ne_of_none upd_same h2
    refine ⟨q1, q2, _, _, rfl, rfl, (by rw [upd_ne n12]; exact upd_same), upd_same, (by show 9 + 7 ≤ sizeLine; decide), fun q3 h3 => ?_⟩
    have hHq1 : H q1 = none := h1
    have hHq2 : H q2 = none := by rw [upd_ne n12.symm] at h2; exact h2
    have n23 : q2 ≠ q3 := ne_of_none upd_same h3
    have n13 : q1 ≠ q3 := ne_of_none (by rw [upd_ne n12]; exact upd_same) h3
    have hHq3 : H q3 = none := by rw [upd_ne n23.symm, upd_ne n13.symm] at h3; exact h3
    have s3 : Same H (upd (upd (upd H q1 (.lst (poolA.map V.str))) q2 (.lst (poolB.map V.str))) q3 (.lst (poolS.map V.str))) := fun b o e => by
      rw [upd_ne (ne_of_none e hHq3), upd_ne (ne_of_none e hHq2), upd_ne (ne_of_none e hHq1)]
      exact e
    have key : ∀ D, upd (upd (upd H q1 (.lst (poolA.map V.str))) q2 (.lst (poolB.map V.str))) q3 (.lst (poolS.map V.str)) D = none → upd (upd (upd H q1 (.lst (poolA.map V.str))) q2 (.lst (poolB.map V.str))) q3 (.lst (poolS.map V.str)) D = none := fun _ z => z
    obtain ⟨i0', g0', hp0, hl0, hz0, hi0, hi1⟩ := id hP
    refine ⟨_, rfl, m, rfl, by omega, by omega, fun D hD0 => have hD := key D hD0; lc_range (n := m) (fun i H' => ∃ xs rest : List Str, xs.length = i ∧ (xs ++ rest).Perm poolS ∧ H' q3 = some (.lst (rest.map V.str)) ∧ H' D = some (.lst (xs.map V.str)) ∧ Pen H' p l cs (n + i) ∧ But H H' p) ?_ ?_ ?_⟩
    · have n3D : q3 ≠ D := ne_of_none upd_same hD
      have s4 : Same H (upd (upd (upd (upd H q1 (.lst (poolA.map V.str))) q2 (.lst (poolB.map V.str))) q3 (.lst (poolS.map V.str))) D (.lst [])) := fun b o e => by
        rw [upd_ne (ne_of_none (s3 _ _ e) hD)]
        exact s3 _ _ e
      exact ⟨[], poolS, rfl, List.Perm.refl _, Eq.trans (upd_ne n3D) upd_same, upd_same, hP.same s4, fun b o _ e => s4 _ _ e⟩
    · rintro i H' hi ⟨xs, rest, hx, hperm, hq, hD', hP', hB⟩
      have hlen : xs.length + rest.length = 16 := by
        have q := hperm.length_eq
        rw [List.length_append] at q
        exact q
      have n3p : q3 ≠ p := fun e => by rw [e, hp0] at hHq3; cases hHq3
      have nDp : D ≠ p := fun e => by rw [e, s3 _ _ hp0] at hD; cases hD
      have nD3 : D ≠ q3 := fun e => by rw [e, upd_same] at hD; cases hD
      refine ⟨rfl, ?_⟩
      unfold tYes
      dsimp only
      rw [if_pos rfl]
      refine ⟨_, rfl, .inl ⟨rfl, _, SqL.of hq⟩, _, rfl, _, rfl, q3, _, rfl, .inl (SqL.of hq), p, l, cs, n + i, _, rfl, hP', ?_, ?_, by omega, fun d iz g H2 d0 d1 i0 i1 hp2 b2 => ?_⟩
      · rw [List.length_map]; omega
      · rw [List.length_map]; omega
      · rw [List.length_map] at d1
        have hq2 : H2 q3 = some (.lst (rest.map V.str)) := b2 _ _ n3p hq
        have hD2 : H2 D = some (.lst (xs.map V.str)) := b2 _ _ nDp hD'
        have hk : d.toNat < rest.length := by omega
        refine ⟨q3, rest.map V.str, d, d.toNat, .str rest[d.toNat], rfl, rfl, hq2, by omega, by omega, seqIndex_of d0 (by rw [List.length_map]; omega), by simp [hk], xs.map V.str, ?_, ?_, ?_⟩
        · exact Eq.trans (upd_ne nD3) hD2
        · rw [List.length_map]; exact Nat.lt_of_le_of_lt (show xs.length ≤ 16 by omega) (by decide)
        · refine ⟨xs ++ [rest[d.toNat]], rest.eraseIdx d.toNat, by rw [List.length_append, hx]; rfl, ?_, ?_, ?_, ?_, ?_⟩
          · refine List.Perm.trans ?_ hperm
            rw [List.append_assoc]
            exact List.Perm.append_left _ (perm_erase rest _ hk)
          · rw [upd_ne nD3.symm, upd_same]
            congr 2
            exact (map_erase V.str rest d.toNat)
          · rw [upd_same, List.map_append]
            rfl
          · have hl' : ∃ i g, H' p = some (penO l i g) ∧ H' l = some (.lst (cs.map V.int)) := by
              obtain ⟨a, b, c, d, _⟩ := hP'
              exact ⟨a, b, c, d⟩
            obtain ⟨ia, ga, hpa, hla⟩ := hl'
            have n3l : q3 ≠ l := fun e => by rw [e, hl0] at hHq3; cases hHq3
            have nDl : D ≠ l := fun e => by rw [e, s3 _ _ hl0] at hD; cases hD
            have npl : l ≠ p := fun e => by
              subst e
              rw [hp0] at hl0
              have z := List.map_eq_cons_iff.mp (HO.lst.inj (Option.some.inj hl0)).symm
              obtain ⟨_, _, _, w1, _⟩ := z
              cases w1
            refine ⟨iz, g, ?_, ?_, hz0, i0, by omega⟩
            · rw [upd_ne nDp.symm, upd_ne n3p.symm]; exact hp2
            · rw [upd_ne nDl.symm, upd_ne n3l.symm]; exact b2 _ _ npl hla
          · intro b o hb e
            have e1 := hB b o hb e
            have nb3 : b ≠ q3 := ne_of_none e hHq3
            have nbD : b ≠ D := fun z => by rw [z] at e; rw [s3 _ _ e] at hD; cases hD
            rw [upd_ne nbD, upd_ne nb3]
            exact b2 _ _ hb e1
    · rintro H' ⟨xs, rest, hx, hperm, hq, hD', hP', hB⟩
      have hHD : H D = none := by
        cases e : H D with
        | none => rfl
        | some o => rw [s3 _ _ e] at hD; cases hD
      exact k H' D xs rest hHD hD' hx hperm hP' hB
end
end Sj
/-! {e for x in xs if ..}, e an int or a text (SetK), and len of such a set -/
namespace SetT
open PySem PySem.Spec PyProof.Rows L2
/-- the empty set at D -/
abbrev zeroK (P : Program) (w : World) (D : Addr) : HO := SetK P w D (fun _ => false) 0
/-- y is added to the set at D, then Nx -/
def rAdd (P : Program) (w : World) (D : Addr) (y : V) (H : Hp) (Nx : Hp → Prop) : Prop := ∃ (c : Key) (S : Key → Bool) (n : Nat), y = kV c ∧ H D = some (SetK P w D S n) ∧ n + 1 < scanBound ∧ Nx (upd H D (SetK P w D (fun j => S j || decide (j = c)) (if S c = true then n else n + 1)))
/-- one turn's reading -/
def turnT (P : Program) (w : World) (D : Addr) (g : TG) (tt : TT) (te : TE) (vs : List Nat) (σ : L2.St) (Nx : Hp → Prop) (x : V) (H : Hp) : Prop :=
  g x (wipe σ vs) H fun σ2 H2 => wipe σ2 vs = wipe σ vs ∧ tt σ2 H2 fun b H3 => if b = true then te σ2 H3 fun y H4 => rAdd P w D y H4 Nx else Nx H3
/-- all turns: W i m: ahead of turn i, m falls -/
def loopT (P : Program) (w : World) (D : Addr) (J : It) (g : TG) (tt : TT) (te : TE) (vs : List Nat) (σ : L2.St) (W : Nat → Nat → Hp → Prop) (Qd : Hp → Prop) : Prop :=
  ∀ i m H, W i m H → (J.stop i H ∧ Qd H) ∨ (J.go i H ∧ ∃ Nx : Hp → Prop, (∀ H', Nx H' → ∃ m', m' < m ∧ W (i + 1) m' H') ∧ ∀ x H', J.yld i H x H' → turnT P w D g tt te vs σ Nx x H')
def tSet (P : Program) (w : World) (wi : TI) (g : TG) (tt : TT) (te : TE) (vs : List Nat) : TE := fun σ H Q => wi σ H fun J H1 => ∀ D, H1 D = none → ∃ W : Nat → Nat → Hp → Prop, (∃ m, W 0 m (upd H1 D (zeroK P w D))) ∧ loopT P w D J g tt te vs σ W (Q (.ref D))
section
variable {X : Cx}
theorem zero_new {P : Program} {w : World} {h : Heap} : (h.push { cls := .type "set", dict := none, data := .set #[] 0 (.fresh 0 0 (!w.params.followText "set-order")) }).SetOf (mixKind P w) h.objs.size (fun _ => false) 0 :=
  ⟨_, #[], 0, _, Heap.get?_push_size _ rfl, ⟨rfl, rfl, rfl⟩, rfl, (fun e he => by simp at he), (fun k => by simp), (by decide), (by rfl), rfl⟩
/-- the loop in the block's context Y -/
theorem loop_run {Y : Cx} {elt tg iter : Expr} {ifs : List Expr} {scope : Scope} {pos : Pos} {it D : Addr} {J : It} {g : TG} {tt : TT} {te : TE} {vs : List Nat} {fp : List Addr} {tn : Nat → Heap → Prop} {σ : L2.St} {W : Nat → Nat → Hp → Prop} {Qd : Hp → Prop} {R : Result → Shared → Prop}
    (hc : Y.calm = true) (T : Turn Y.prog Y.w Y.K tg J fp it tn) (hg : PG Y tg g) (ht : PTs Y ifs tt) (he : PE Y elt te) (hl : loopT Y.prog Y.w D J g tt te vs σ W Qd)
    (xe : ∀ e s', Y.xe e s' → notedBy (model Y.prog Y.w) Y.A Y.env (fun e s' => R (.error e) s') e s')
    (stat : ∀ (σ' : L2.St) (H' : Hp) (s' : Shared), Inv Y [] σ' H' s' → (∀ b ∈ fp, H' b = none) → ∀ b ∈ fp, FpOk Y [] H' b)
    (fin : ∀ i s' H', Inv Y [] (wipe σ vs) H' s' → tn i s'.heap → (∀ b ∈ fp, H' b = none) → J.stop i H' → Qd H' → ∀ s6, Inv Y [] (wipe σ vs) H' s6 → R (.ok .next) s6)
    {i m : Nat} {H : Hp} {s : Shared} (I : Inv Y [] (wipe σ vs) H s) (st : tn i s.heap) (nf : ∀ b ∈ fp, H b = none) (hw : W i m H) :
    codeAny (model Y.prog Y.w) Y.A (.compLoop (.SetComp elt [⟨tg, iter, ifs, 0⟩] scope pos) 0 (.ref it) (.ref D) Y.env) R s := by
  refine PpSet.compLoopS_any (fun n s' => ∃ i H', Inv Y [] (wipe σ vs) H' s' ∧ tn i s'.heap ∧ (∀ b ∈ fp, H' b = none) ∧ W i n H') ?_ m ⟨i, H, I, st, nf, hw⟩
  rintro n s5 ⟨i, H5, I5, st5, n5, w5⟩
  rcases hl i n H5 w5 with ⟨stop, qq⟩ | ⟨go, Nx, hNx, step⟩
  · refine thnF (T.done Y rfl rfl rfl hc i [] s5 _ H5 (fun _ _ => False) I5 (stat _ _ _ I5 n5) st5 stop) fun r s6 ⟨hr, I6⟩ => ?_
    subst hr
    exact fin i s5 H5 I5 st5 n5 stop qq s6 I6
  · refine thnF (T.item Y rfl rfl rfl hc i [] s5 _ H5 (fun _ _ => False) I5 (stat _ _ _ I5 n5) st5 go) fun r s6 ⟨u, hr, h6⟩ => ?_
    subst hr
    refine thnF h6 fun _ s7 ⟨x, H7, I7, r7, y7, st7, n7⟩ => ?_
    have I7' := I7.pinned (stat _ _ _ I7 n7) (T.obj _ _ st7)
    refine wpAny_mono (hg.run _ s7 _ H7 x u _ I7' r7 (step x H7 y7)) (fun _ s8 ⟨σ8, H8, I8, hw8, q8⟩ => ?_) xe
    -- what stands when a turn is through
    have back : ∀ {s' : Shared} {H' : Hp}, Inv Y ([] ++ pinsAt fp s7.heap) σ8 H' s' → Nx H' → ∃ m, m < n ∧ ∃ i H', Inv Y [] (wipe σ vs) H' s' ∧ tn i s'.heap ∧ (∀ b ∈ fp, H' b = none) ∧ W i m H' := fun {s' H'} I' nx => by
      obtain ⟨m', hm, w'⟩ := hNx H' nx
      have held : ∀ b ∈ fp, ∀ o, s7.heap.get? b = some o → s'.heap.get? b = some o ∧ H' b = none := fun b hb o e => by
        have z := I'.pin (b, o) (List.mem_append_right _ (List.mem_append_right _ (mem_pinsAt hb e)))
        exact ⟨z.1, z.2.1⟩
      refine ⟨m', hm, i + 1, H', ?_, T.keep _ _ _ st7 fun b hb o e => (held b hb o e).1, fun b hb => ?_, w'⟩
      · refine (I'.unpinned (pins := [])).weak (by rw [← hw8, wipe_length]) fun j v e => ?_
        rw [← hw8] at e
        exact (wipe_some e).1
      · obtain ⟨o, e, _⟩ := T.obj _ _ st7 b hb
        exact (held b hb o e).2
    refine wpAny_mono (ht.run _ s8 σ8 H8 _ I8 q8) (fun b s9 ⟨H9, I9, q9⟩ => ?_) xe
    cases b with
    | false =>
      simp only [Bool.false_eq_true, if_false] at q9 ⊢
      exact back I9 q9
    | true =>
      simp only [if_true] at q9 ⊢
      refine wpAny_mono (he.run _ s9 σ8 H9 _ I9 q9) (fun z s10 ⟨yv, H10, I10, r10, c, S, n0, ey, hD, hz, nx⟩ => ?_) xe
      refine wpAny_mono (mt_saddK _ s10 σ8 H10 (.ref D) [yv] (.ref D) [z] (fun _ H' => Nx H') I10 rfl (.cons r10 .nil) ⟨D, c, S, n0, rfl, by rw [ey], hD, hz, nx⟩) (fun _ s11 ⟨_, H11, I11, _, q11⟩ => back I11 q11) xe
/-- the block's start, the set at D laid -/
theorem start_run {elt tg iter : Expr} {ifs : List Expr} {scope : Scope} {own : List (PySem.Str × Nat)} {pos : Pos} {J : It} {g : TG} {tt : TT} {te : TE} {pins : List (Addr × Obj)} {σ : L2.St} {s3 : Shared} {H3 : Hp} {it D : Addr} {fp : List Addr} {tn : Nat → Heap → Prop} {W : Nat → Nat → Hp → Prop} {m0 : Nat} {Q : VK}
    (hc : X.calm = true) (hN : X.N.Nodup) (ok : BlkOk X.N X.env.scope scope own) (I3 : Inv X pins σ H3 s3) (f3 : ∀ b ∈ fp, FpOk X pins H3 b ∧ b < s3.heap.objs.size) (T : Turn X.prog X.w X.K tg J fp it tn) (st3 : tn 0 s3.heap)
    (hg : ∀ (s : Shared) (H : Hp) (C : Addr) (cl : List (PySem.Str × Addr)) (fp : List Addr), PG (X.blk s H scope (compEnvC scope cl C X.env) fp) tg g) (ht : ∀ (s : Shared) (H : Hp) (C : Addr) (cl : List (PySem.Str × Addr)) (fp : List Addr), PTs (X.blk s H scope (compEnvC scope cl C X.env) fp) ifs tt)
    (he : ∀ (s : Shared) (H : Hp) (C : Addr) (cl : List (PySem.Str × Addr)) (fp : List Addr), PE (X.blk s H scope (compEnvC scope cl C X.env) fp) elt te) (w0 : W 0 m0 H3) (hl : loopT X.prog X.w D J g tt te (own.map (·.2)) σ W (Q (.ref D))) :
    codeAny (model X.prog X.w) X.A (.compStart (.SetComp elt [⟨tg, iter, ifs, 0⟩] scope pos) 0 (.ref it) (.ref D) (compEnvC scope (cellsFrom (s3.heap.objs.size + 1) scope.names (cloFrom X.env.cells scope.names [])) s3.heap.objs.size X.env))
      (compPost (model X.prog X.w) X.A X.xe none (EP X pins σ Q) (.ref D) s3.heap.objs.size) { s3 with heap := pushCells (s3.heap.push { cls := .type "dict", data := .dict #[] }) scope.names } := by
  have I4 := block_start I3 ok hN f3
  have st4 := T.keep _ _ (pushCells (s3.heap.push { cls := .type "dict", data := .dict #[] }) scope.names) st3 fun b _ o e => pushCells_keeps _ _ _ _ (Heap.get?_push_of_some _ e)
  have loop := loop_run (Y := X.blk s3 H3 scope (compEnvC scope (cellsFrom (s3.heap.objs.size + 1) scope.names (cloFrom X.env.cells scope.names [])) s3.heap.objs.size X.env) fp) (elt := elt) (iter := iter) (scope := scope) (pos := pos)
    (R := compPost (model X.prog X.w) X.A X.xe none (EP X pins σ Q) (.ref D) s3.heap.objs.size) hc T (hg _ _ _ _ _) (ht _ _ _ _ _) (he _ _ _ _ _) hl (fun _ _ z => False.elim z)
    (fun σ' H' s' I' hn b hb => ⟨hn b hb, (I'.ok.exf b hb).1, I'.ok.exfs b hb, .inl hb, fun x c e => (I'.ok.exf b hb).2 x c e, fun p hp => absurd (show p ∈ ([] : List (Addr × Obj)) ++ [] from hp) (by simp)⟩)
    (fun i s' H' I' _ _ _ qd s6 I6 => ?_) I4 st4 (fun b hb => (f3 b hb).1.1) w0
  · exact PpSet.codeAny_compStart_set loop (T.self X.A 0 _ _ _ st4 loop)
  · have I7 : Inv X pins σ H' s6 := I3.call' (ch := fp) I6.os I6.base I6.hok I6.bare fun b hb => ⟨(f3 b hb).1.2.2.2.1, (f3 b hb).1.2.1, (f3 b hb).1.2.2.2.2.1, (f3 b hb).1.2.2.2.2.2⟩
    have nC : H' s3.heap.objs.size = none := I6.free
    obtain ⟨m, hn, _⟩ := I6.loc
    obtain ⟨f0, f1, f2', f4, f5, f6⟩ := I3.fpOk (H' := H') (Nat.le_refl _) nC
    exact ⟨m, hn, fun h'' sb => ⟨.ref D, H', I7.turned (t' := s6.toks) (fun b o hb e => (sb.2 b hb).trans e) f0 f1 f4 f5 f6, rfl, qd⟩⟩
/-- {e for x in xs if ..} -/
theorem pe_set {elt tg iter : Expr} {ifs : List Expr} {scope : Scope} {own : List (PySem.Str × Nat)} {pos : Pos} {wi : TI} {g : TG} {tt : TT} {te : TE} (hc : X.calm = true) (hN : X.N.Nodup) (hi : PI X tg iter wi) (ok : BlkOk X.N X.env.scope scope own)
    (hg : ∀ (s : Shared) (H : Hp) (C : Addr) (cl : List (PySem.Str × Addr)) (fp : List Addr), PG (X.blk s H scope (compEnvC scope cl C X.env) fp) tg g) (ht : ∀ (s : Shared) (H : Hp) (C : Addr) (cl : List (PySem.Str × Addr)) (fp : List Addr), PTs (X.blk s H scope (compEnvC scope cl C X.env) fp) ifs tt)
    (he : ∀ (s : Shared) (H : Hp) (C : Addr) (cl : List (PySem.Str × Addr)) (fp : List Addr), PE (X.blk s H scope (compEnvC scope cl C X.env) fp) elt te) (hs : ∀ x, foldedSetIterable iter X.env x = pure x := by intro _; rfl) :
    PE X (.SetComp elt [⟨tg, iter, ifs, 0⟩] scope pos) (tSet X.prog X.w wi g tt te (own.map (·.2))) := by
  refine ⟨fun pins s σ H Q I h => ?_⟩
  have hfree : ∀ y ∈ scope.names, y.2 = .free → ∃ c, X.env.cells.lookup y.1 = some c := fun y hy e => (ok.free y hy e).elim (fun k => I.ok.has _ (.inl k)) fun k => I.ok.has _ (.inr k)
  rw [PpSet.eval_SetComp]
  refine wpAny_comprehension_free (use := none) rfl hs (closure_ok hfree) ok.kind (fun y hy e => by rw [ok.uniq y hy, e]) (thn (hi.run pins s σ H _ I h) fun xv s1 hx => thn hx fun itv s2 h2 => ?_)
  obtain ⟨it, fp, tn, J, H2, e, I2, T, st2, f2, q⟩ := h2
  subst e
  refine PpSet.newSet_ok (newEnv_comp ?_)
  obtain ⟨W, ⟨m0, w0⟩, hl⟩ := q _ (I2.hok.fresh (Nat.le_refl s2.heap.objs.size))
  have kp : ∀ b o, s2.heap.get? b = some o → (s2.heap.push { cls := .type "set", dict := none, data := .set #[] 0 (.fresh 0 0 (!X.w.params.followText "set-order")) }).get? b = some o := fun b o e => Heap.get?_push_of_some _ e
  refine start_run (s3 := { s2 with heap := s2.heap.push { cls := .type "set", dict := none, data := .set #[] 0 (.fresh 0 0 (!X.w.params.followText "set-order")) } }) hc hN ok
    (I2.laid (t' := s2.toks) kp (Nat.le_refl _) (setK_new (P := X.prog) (w := X.w) (H := upd H2 s2.heap.objs.size (zeroK X.prog X.w s2.heap.objs.size)) zero_new)) (fun b hb => ?_) T (T.keep _ _ _ st2 fun b _ o e => kp b o e) hg ht he w0 hl
  obtain ⟨o, e, _⟩ := T.obj _ _ st2 b hb
  have lt := Heap.lt_size e
  refine ⟨⟨?_, (f2 b hb).2⟩, by rw [Heap.size_push]; exact Nat.lt_succ_of_lt lt⟩
  rw [upd_ne (Nat.ne_of_lt lt)]
  exact (f2 b hb).1
/-- len of such a set -/
theorem call_len_setK : CallR X (.builtin "len") (fun xs H Q => ∃ p S n, xs = [.ref p] ∧ H p = some (SetK X.prog X.w p S n) ∧ Q (.int n) H) := by
  intro pins s σ H xs us Q I r h
  obtain ⟨p, S, n, rfl, hp, q⟩ := h
  obtain ⟨u, rfl, rx⟩ := vals1 r
  cases rx
  obtain ⟨o, es, ep, t, ho, hex, hd, _, _, hb, hf, hn⟩ := setK_get I hp
  exact call_len_set ho hex hd hf (Int.lt_trans (Int.ofNat_lt.mpr hb) (by decide)) ⟨.int n, H, I.tok _, ⟨_, by rw [hn]⟩, q⟩
end
/-- over a walk -/
theorem set_it {J : It} {n : Nat} {G : Hp → Prop} {Y : Nat → Hp → V → Hp → Prop} (wk : Walk J n G Y) {P : Program} {w : World} {g : TG} {tt : TT} {te : TE} {vs : List Nat} {σ : L2.St} {H1 : Hp} {D : Addr} {Qd : Hp → Prop} (Pv : Nat → Hp → Prop) (h0 : Pv 0 (upd H1 D (zeroK P w D))) (hG : ∀ i H, i ≤ n → Pv i H → G H)
    (hs : ∀ i x H H', i < n → Pv i H → Y i H x H' → turnT P w D g tt te vs σ (Pv (i + 1)) x H') (hd : ∀ H, Pv n H → Qd H) :
    ∃ W : Nat → Nat → Hp → Prop, (∃ m, W 0 m (upd H1 D (zeroK P w D))) ∧ loopT P w D J g tt te vs σ W Qd := by
  refine ⟨fun i m H => m + i = n ∧ Pv i H, ⟨n, rfl, h0⟩, fun i m H ⟨e, p⟩ => ?_⟩
  have q := hG i H (by omega) p
  match m, e with
  | 0, e =>
    obtain rfl : i = n := by omega
    exact .inl ⟨wk.stops H q, hd H p⟩
  | m + 1, e => exact .inr ⟨wk.goes i H (by omega) q, Pv (i + 1), fun H' p' => ⟨m, Nat.lt_succ_self m, by omega, p'⟩, fun x H' y => hs i x H H' (by omega) p (wk.yields i H x H' (by omega) q y)⟩
/-- {k: v for ..} over a walk -/
theorem dict_it {J : It} {n : Nat} {G : Hp → Prop} {Y : Nat → Hp → V → Hp → Prop} (wk : Walk J n G Y) {g : TG} {tt : TT} {tk tv : TE} {vs : List Nat} {σ : L2.St} {H1 : Hp} {D : Addr} {Qd : Hp → Prop} (Pv : Nat → Hp → Prop) (h0 : Pv 0 (upd H1 D (.dK []))) (hG : ∀ i H, i ≤ n → Pv i H → G H)
    (hs : ∀ i x H H', i < n → Pv i H → Y i H x H' → g x (wipe σ vs) H' fun σ2 H2 => wipe σ2 vs = wipe σ vs ∧ tt σ2 H2 fun b H3 =>
      if b = true then tk σ2 H3 fun y H4 => tv σ2 H4 fun z H5 => ∃ kvs k, y = kV k ∧ H5 D = some (.dK kvs) ∧ kvs.length < sizeLine ∧ Pv (i + 1) (upd H5 D (.dK (putK kvs k z))) else Pv (i + 1) H3) (hd : ∀ H, Pv n H → Qd H) :
    ∃ W : Nat → Nat → Hp → Prop, (∃ m, W 0 m (upd H1 D (.dK []))) ∧ ∀ i m H, W i m H →
      (J.stop i H ∧ Qd H) ∨ (J.go i H ∧ ∃ Nx : Hp → Prop, (∀ H', Nx H' → ∃ m', m' < m ∧ W (i + 1) m' H') ∧ ∀ x H', J.yld i H x H' → g x (wipe σ vs) H' fun σ2 H2 => wipe σ2 vs = wipe σ vs ∧ tt σ2 H2 fun b H3 =>
        if b = true then tk σ2 H3 fun y H4 => tv σ2 H4 fun z H5 => ∃ kvs k, y = kV k ∧ H5 D = some (.dK kvs) ∧ kvs.length < sizeLine ∧ Nx (upd H5 D (.dK (putK kvs k z))) else Nx H3) := by
  refine ⟨fun i m H => m + i = n ∧ Pv i H, ⟨n, rfl, h0⟩, fun i m H ⟨e, p⟩ => ?_⟩
  have q := hG i H (by omega) p
  match m, e with
  | 0, e =>
    obtain rfl : i = n := by omega
    exact .inl ⟨wk.stops H q, hd H p⟩
  | m + 1, e => exact .inr ⟨wk.goes i H (by omega) q, Pv (i + 1), fun H' p' => ⟨m, Nat.lt_succ_self m, by omega, p'⟩, fun x H' y => hs i x H H' (by omega) p (wk.yields i H x H' (by omega) q y)⟩
/-! ### how many unlike ones -/
def nd : List Str → Nat
  | [] => 0
  | x :: xs => if x ∈ xs then nd xs else nd xs + 1
theorem nd_le : ∀ xs : List Str, nd xs ≤ xs.length
  | [] => Nat.le_refl 0
  | x :: xs => by
    have := nd_le xs
    unfold nd
    rw [List.length_cons]
    split <;> omega
theorem nd_iff : ∀ xs : List Str, nd xs < xs.length ↔ ¬ xs.Nodup
  | [] => by simp [nd]
  | x :: xs => by
    have h1 := nd_le xs
    have h2 := nd_iff xs
    unfold nd
    rw [List.length_cons, List.nodup_cons]
    by_cases hx : x ∈ xs
    · rw [if_pos hx]
      exact ⟨fun _ z => z.1 hx, fun _ => by omega⟩
    · rw [if_neg hx]
      constructor
      · intro h z
        exact h2.mp (by omega) z.2
      · intro h
        have : nd xs < xs.length := h2.mpr fun z => h ⟨hx, z⟩
        omega
end SetT
/-! defs with *args and keyword-only parameters, called with keywords; C(*y, k = v), C.m(e, k = v) -/
namespace StK
open PySem PySem.Spec PyProof.Rows L2
open StX
/-- as KwChain, but r is what is left to be done -/
def KwEnd {α : Type} (D : Addr) : List (Str × Value) → Sem α → Sem α → Prop
  | [], t, r => t = r
  | q :: l, t, r => ∃ (β γ : Type) (k1 : Option Value → Sem β) (k2 : β → Sem γ) (k3 : γ → Sem α) (a : β), t = ((nsGet D q.1 >>= k1) >>= k2) >>= k3 ∧ k1 (some q.2) = pure a ∧ KwEnd D l (k2 a >>= k3) r
theorem KwEnd.run {α : Type} {K : PySem.W.Frag} {M : Model} {A : Around} {Ex : Value → Shared → Prop} {Q : α → Shared → Prop} {s : Shared} {D : Addr} (X : K.In s.heap) : ∀ {l : List (Str × Value)} {t r : Sem α}, (∀ q ∈ l, PySem.W.nsIn K D q.1 = some (some q.2)) → KwEnd D l t r → wpAny M A r Q Ex s → wpAny M A t Q Ex s
  | [], t, r, _, e, h => by
    obtain rfl : t = r := e
    exact h
  | q :: l, t, r, hl, e, h => by
    obtain ⟨β, γ, k1, k2, k3, a, e1, e2, e3⟩ := e
    have l1 : PySem.W.Looks M s.heap (nsGet D q.1 >>= k1) a := (PySem.W.looks_nsIn X (hl q (List.mem_cons_self ..))).andThen (PySem.W.Looks.of_pure e2)
    rw [e1, bind_assoc]
    exact wpAny_bind (l1.here (KwEnd.run X (fun p hp => hl p (List.mem_cons_of_mem _ hp)) e3 h))
/-- a promise by positional values and by the values of the keywords ks -/
def FnK (P : Program) (w : World) (K : PySem.W.Frag) (mg : Str → Option Value) (base : Heap) (CX : CXT) (k : Nat) (f : Addr) (ks : List Str) (sp : List V → List V → Hp → VK → XK → Prop) : Prop :=
  ∀ (A : Around) (outer : List Env) (s : Shared) (H : Hp) (us ws : List Value) (vs zs : List V) (Q : VK) (E : XK), Room k A → Env0 P w K mg base A outer s H → Vals vs us → Vals zs ws → zs.length = ks.length → sp vs zs H Q E →
    codeAny (model P w) A (.call (.ref f) ⟨us, ks.zip ws⟩) (CR CX outer P w H s Q E) s
section
variable {CX : CXT} {P : Program} {w : World} {K : PySem.W.Frag} {mg : Str → Option Value} {base : Heap} {k : Nat} {f : Addr} {x qual : Str} {params : Arguments} {body : List Stmt} {scope : Scope} {kws : List (Str × V)} {fd : FuncData} {N ps : List Str} {sp : Sp}
theorem FnK.mono {j : Nat} {ks : List Str} {sp : List V → List V → Hp → VK → XK → Prop} (F : FnK P w K mg base CX j f ks sp) (h : j ≤ k) : FnK P w K mg base CX k f ks sp := fun A outer s H us ws vs zs Q E hr => F A outer s H us ws vs zs Q E (hr.mono h)
theorem FnK.imp {ks : List Str} {sp sp' : List V → List V → Hp → VK → XK → Prop} (F : FnK P w K mg base CX k f ks sp) (h : ∀ vs zs H Q E, sp' vs zs H Q E → sp vs zs H Q E) : FnK P w K mg base CX k f ks sp' := fun A outer s H us ws vs zs Q E hr e0 r rz hl hs => F A outer s H us ws vs zs Q E hr e0 r rz hl (h _ _ _ _ _ hs)
/-- what a def with *v is promised of: the values ahead, a new tuple of the rest -/
def spStarK (n : Nat) (gV : List V → List V → List V) (sp : Sp) : List V → List V → Hp → VK → XK → Prop := fun vs zs H Q E => ∃ ws rest, vs = ws ++ rest ∧ ws.length = n ∧ rest.length ≤ sizeLine ∧ ∀ p, H p = Option.none → sp (gV ws zs ++ [V.ref p]) (upd H p (.tup rest)) Q E
/-- def f(a, .., *v, k = d, ..): n positional values ahead, keywords ks, ms: the keyword-only parameters that lack -/
theorem fn_starK {pv : Str} (F : FunD K x qual params body scope [] kws f fd) (S : FnScope N (ps ++ [pv]) scope) (hCX : CXUp CX) (n : Nat) (ks : List Str) (ms : List (Str × V)) (g : {α : Type} → List α → List α → List α → List α) (hk : kws ≠ []) (hms : ∀ q ∈ ms, q ∈ kws)
    (hrel : ∀ {vs mz zs : List V} {us mv ws : List Value}, Vals vs us → Vals mz mv → Vals zs ws → Vals (g vs mz zs) (g us mv ws))
    (hgl : ∀ (us mv ws : List Value), us.length = n → mv.length = ms.length → ws.length = ks.length → (g us mv ws).length = ps.length)
    (hb : ∀ (D : Addr) (doc pm : Value) (an : Option Addr) (cdv ct : Value) (us rest mv ws : List Value), us.length = n → mv.length = ms.length → ws.length = ks.length →
      KwEnd D ((ms.map (·.1)).zip mv) (bindArgs (PySem.W.fnOf x qual params body scope .none (.ref D) doc pm an cdv ct) ⟨us ++ rest, ks.zip ws⟩) (newTuple rest >>= fun t => pure (ps.zip (g us mv ws) ++ [(pv, t)])))
    (hbody : ∀ (cdv : Value) (A : Around) (outer : List Env) (s : Shared) (H : Hp) (vs : List V) (Q : VK) (E : XK), Room k (A.deeper (envOfC qual scope s.heap.objs.size f cdv)) → sp vs H Q E →
      ∃ t, PSs (cxOf CX P w K mg base N qual scope f cdv A outer s H E) body t ∧ t { nx := fun _ H' => Q .non H', rt := Q } (start N vs) H) :
    FnK P w K mg base CX (k + 1) f ks (spStarK n (fun vs zs => g vs (ms.map (·.2)) zs) sp) := by
  obtain ⟨oc, od, dV, kV, doc, pm, an, cdv, ct, osl, rfl, lk, hcd, hD, hK⟩ := F.ex
  rcases hD with ⟨_, rfl⟩ | ⟨e, _⟩
  case inr => exact absurd rfl e
  rcases hK with e | ⟨D, rfl, hq⟩
  · exact absurd e hk
  obtain ⟨mv, hl, rk, hks⟩ := kwd_vals (ms := ms) fun q hm => hq q (hms q hm)
  intro A outer s H us ws vs zs Q E hr e0 r rz hzl hsp
  obtain ⟨v1, rest, ev, hl1, hz, hsp⟩ := hsp
  subst ev
  obtain ⟨u1, u2, eu, r1, r2⟩ := vals_split r
  subst eu
  have hn : H s.heap.objs.size = Option.none := e0.hok.fresh (Nat.le_refl _)
  have l1 : u1.length = n := by rw [← r1.length]; exact hl1
  have l2 : u2.length ≤ sizeLine := by rw [← r2.length]; exact hz
  have l3 : ws.length = ks.length := by rw [← rz.length]; exact hzl
  have gl := hgl u1 mv ws l1 hl l3
  have gr := hrel r1 rk rz
  refine run_bnd lk hcd S hr e0 (G := fun xs H2 => ∃ p, H p = Option.none ∧ xs = g v1 (ms.map (·.2)) zs ++ [V.ref p] ∧ H2 = upd H p (.tup rest)) (fun A' Ex Q' h => ?_) fun s2 H2 xs ⟨p, hp, ex, eH⟩ hr' => ?_
  · refine KwEnd.run (e0.mod.kin.keeps fun b o e => (e0.bs b o e).1) hks (hb D doc pm an cdv ct u1 u2 mv ws l1 hl l3) ?_
    refine wpAny_bind (wpAny_newTuple (wpAny_pure ?_) l2)
    have new : ObjOk P w (upd H s.heap.objs.size (.tup rest)) (s.heap.push ({ cls := .type "tuple", data := .seq u2.toArray } : Obj)) s.heap.objs.size (.tup rest) := ⟨hz, u2, r2, ⟨_, Heap.get?_push_size _ rfl, rfl, _, rfl⟩⟩
    have un := un_laid (fs := frs outer) (s := s) (o := ({ cls := .type "tuple", data := .seq u2.toArray } : Obj)) (u := .tup rest) hn
    have z := h _ _ (g v1 (ms.map (·.2)) zs ++ [V.ref s.heap.objs.size]) (g u1 mv ws ++ [Value.ref s.heap.objs.size]) (env0_laid e0 new) un rfl (fun e s' => hCX outer s H _ _ E e s' un (fun b o q => Heap.get?_push_of_some _ q) rfl) (gr.append (.cons rfl .nil))
      (by rw [List.length_append, List.length_append, gr.length, gl] <;> rfl) ⟨_, hn, rfl, rfl⟩
    rw [List.zip_append gl.symm] at z
    exact z
  · subst ex eH
    exact hbody cdv A outer s2 _ _ Q E hr' (hsp p hp)
end
section
variable {CX : CXT} {P : Program} {w : World} {K : PySem.W.Frag} {mg : Str → Option Value} {base : Heap} {k n : Nat} {f : Addr} {fd : FuncData} {ps ks : List Str} {sp : Sp} {g : List Value → List Value → List Value} {gV : List V → List V → List V}
/-- a promise with its binding, as a promise by keywords -/
theorem fnK_of (F : FnOk P w K mg base CX k f fd ps sp) (hb : KBn K fd ps n ks g gV) : FnK P w K mg base CX k f ks (fun vs zs H Q E => vs.length = n ∧ sp (gV vs zs) H Q E) := fun A outer s H us ws vs zs Q E hr e0 r rz hl hs =>
  F.run A outer s H ⟨us, ks.zip ws⟩ (g us ws) (gV vs zs) Q E hr e0 (hb.to s us ws (e0.mod.kin.keeps fun b o e => (e0.bs b o e).1) (r.length.symm.trans hs.1) (rz.length.symm.trans hl)) (hb.rel r rz) hs.2
end
/-! ### the call's node -/
section
variable {M : Model} {A : Around} {E : Value → Shared → Prop} {s : Shared}
theorem sk_lone {f : Value} {x : Sem Value} {pos : Pos} {keywords : List (Option Str × Sem Value)} {Q : Args → Shared → Prop} (hall : keywords.all (·.1.isSome) = true)
    (h : wpAny M A x (fun v s₁ => wpAny M A (evalAll (keywords.map (·.2))) (fun ks s₂ => PySem.W.StarOf M A E v (fun vs s₃ => Q ⟨vs, (keywords.filterMap (·.1)).zip ks⟩ s₃) s₂) E s₁) E s) :
    wpAny M A (evalArgs f true [(true, (do let v ← x; standAt pos; pure v))] keywords) Q E s := by
  unfold evalArgs
  first
    | refine wpAny_bind (wpAny_bind (wpAny_mono h (fun v s₁ h₁ => wpAny_bind (wpAny_standAt (wpAny_pure ?_))) fun _ _ x => x))
    | refine wpAny_bind (wpAny_bind (wpAny_bind (wpAny_mono h (fun v s₁ h₁ => wpAny_bind (wpAny_standAt (wpAny_pure (wpAny_pure ?_)))) fun _ _ x => x)))
  refine wpAny_holding ?_
  simp only [hall, if_true]
  refine wpAny_bind (wpAny_mono h₁ (fun ks s₂ h₂ => ?_) fun _ _ x => x)
  unfold PySem.W.StarOf at h₂
  refine wpAny_bind ?_
  refine wpAny_bind (wpAny_mono h₂ (fun b s₃ h₃ => ?_) fun _ _ x => x)
  obtain ⟨rfl, h₃⟩ := h₃
  have z := wpAny_holding (vs := (((keywords.filterMap (·.1)).zip ks).map (·.2))) (wpAny_mono h₃ (fun vs s₄ h₄ => h₄) fun _ _ x => x)
  try simp only [Bool.false_eq_true, if_false]
  first
    | exact wpAny_mono z (fun vs s₄ h₄ => wpAny_pure h₄) fun _ _ x => x
    | exact wpAny_bind (wpAny_pure (wpAny_mono z (fun vs s₄ h₄ => wpAny_pure h₄) fun _ _ x => x))
theorem sk_call {f : Value} {first : List Value} {pos : Pos} {Q : Value → Shared → Prop} {P : Heap → Prop} {args : List (Bool × Sem Value)} {kws : List (Option Str × Sem Value)} (hst : args.any (·.1) = true)
    (hk : ∀ h, P h → ∃ k, (k = Keeper.frame ∨ k = Keeper.machine ∨ k = Keeper.boundFrame) ∧ PySem.W.Looks M h (keeperOf f) k)
    (h : wpAny M A (evalArgs f true args kws) (fun a s₁ => P s₁.heap ∧ wpAny M A (call f (first ++ a.pos) a.kw) Q E s₁) E s) : wpAny M A (callWith pos f first args kws) Q E s := by
  unfold callWith
  refine wpAny_bind (wpAny_holding (wpAny_mono h (fun a s₁ h₁ => wpAny_bind (wpAny_standAt ?_)) fun _ _ x => x))
  obtain ⟨k, hk', L⟩ := hk _ h₁.1
  simp only [hst, Bool.true_or]
  refine wpAny_bind (L.here ?_)
  have tail : ∀ {t : Sem Value}, wpAny M A t Q E s₁ → wpAny M A (t >>= fun r => holding [r] point >>= fun _ => pure r) Q E s₁ :=
    fun ht => wpAny_bind (wpAny_mono ht (fun r s₂ hr => wpAny_bind (wpAny_holding (wpAny_point (wpAny_pure hr)))) fun _ _ x => x)
  have marked (mk : Value) : wpAny M A (callMarked mk f (first ++ a.pos) a.kw) Q E s₁ := by unfold callMarked; exact Calls.wpAny_keep h₁.2
  rcases hk' with rfl | rfl | rfl <;> dsimp only <;> first | exact tail (marked _) | exact tail (wpAny_operating h₁.2)
end
/-! ### making -/
/-- what the making of a C asks: behind the values t gives and the keywords' values, a new instance and its dict -/
def spMk (C : Addr) (sp : List V → List V → Hp → VK → XK → Prop) (E : XK) (vs zs : List V) (H : Hp) (Q : VK) : Prop := ∀ x dx, H x = Option.none → H dx = Option.none → dx ≠ x →
  sp (V.ref x :: vs) zs (upd (upd H dx (.own x)) x (.ins C dx [])) (fun v H2 => v = .non ∧ Q (.ref x) H2) E
section
variable {X : Cx} {CX : CXT} {k n i : Nat} {f C : Addr} {ks : List Str} {sp : List V → List V → Hp → VK → XK → Prop} {E : XK} {x m : Str} {p pos sp_ apos : Pos} {e o : Expr} {es : List Expr} {kws : List Keyword} {te ta : TE} {t tk : TA} {mc : Value} {q g : Addr}
theorem run_makeK {pins : List (Addr × Obj)} {σ : L2.St} {H : Hp} {s : Shared} {Q : VK} {us ws : List Value} {vs zs : List V} (M : Mk X.K C f) (F : FnK X.prog X.w X.K X.mg X.base CX k f ks sp) (hr : Room (k + 1) X.A) (hx : Passes CX X E) (I : Inv X pins σ H s) (r : Vals vs us) (rz : Vals zs ws) (hl : zs.length = ks.length)
    (h : spMk C sp E vs zs H Q) : wpAny (model X.prog X.w) X.A (call (.ref C) us (ks.zip ws)) (EP X pins σ Q) X.xe s := by
  have hq := h (s.heap.objs.size + 1) s.heap.objs.size (I.hok.fresh (Nat.le_succ _)) (I.hok.fresh (Nat.le_refl _)) (Nat.ne_of_lt (Nat.lt_succ_self _))
  have I2 := Inv.made (C := C) I
  have r2 : Vals (V.ref (s.heap.objs.size + 1) :: vs) (Value.ref (s.heap.objs.size + 1) :: us) := .cons rfl r
  refine wpAny_call (make_map (f := f) I.kIn M.makes M.init (beq_iff_eq.mp M.fn) (codeAny_mono (F _ X.stack _ _ (Value.ref (s.heap.objs.size + 1) :: us) ws _ zs _ E (hr.make C us (ks.zip ws)) (I2.env0.make C us (ks.zip ws)) r2 rz hl hq) fun r s' hq' => ?_))
  cases r with
  | error e => exact hx pins σ _ _ e s' I2 hq'
  | ok fl =>
    cases fl with
    | ret u =>
      obtain ⟨v, H', I3, rv, ev, q3⟩ := I2.after hq'
      subst ev
      exact ⟨rv, ⟨V.ref (s.heap.objs.size + 1), H', I3, rfl, q3⟩⟩
    | next => exact False.elim hq'
    | brk => exact False.elim hq'
    | cont => exact False.elim hq'
/-- C(e, .., k = v, ..), C a name of the module -/
def tMakeS (C : Addr) (m : Nat) (sp : List V → List V → Hp → VK → XK → Prop) (E : XK) (t tk : TA) : TE := fun σ H Q => t σ H fun vs H1 => tk σ H1 fun zs H2 => zs.length = m ∧ spMk C sp E vs zs H2 Q
theorem pe_makeS (M : Mk X.K C f) (F : FnK X.prog X.w X.K X.mg X.base CX k f ks sp) (hr : Room (k + 1) X.A) (hg : Gl X x) (hm : X.mg x = some (.ref C)) (hx : Passes CX X E) (ha : PA X (e :: es) t) (hkw : PK X kws tk)
    (hall : (backToKw pos (keywordEach kws X.env)).all (·.1.isSome) = true := by rfl) (hks : (backToKw pos (keywordEach kws X.env)).filterMap (·.1) = ks := by rfl) (hdb : (x == ("__debug__" : Str)) = false := by decide)
    (he : starEach (e :: es) X.env = (false, eval e X.env) :: starEach es X.env := by rfl) (hpl : ((backTo pos (starEach (e :: es) X.env)).any (·.1) || (backToKw pos (keywordEach kws X.env)).any (·.1.isNone)) = false := by rfl) :
    PE X (.Call (.Name x p) (e :: es) kws pos) (tMakeS C ks.length sp E t tk) := by
  refine ⟨fun pins s σ H Q I h => ?_⟩
  refine wpAny_Call_Name_kw (ld_glob I hg hm ?_ hdb)
  refine PySem.W.callWith_KW (h₀ := X.base) I.ok.mod.kin M.kp hall (thn (ha.run pos pins s σ H _ I h) fun us s1 ⟨vs, H1, I1, r, q⟩ => ?_) hpl he
  refine thn (hkw.run pos pins s1 σ H1 _ I1 q) fun ws s2 ⟨zs, H2, I2, rz, l2, q2⟩ => ⟨I2.kIn, ?_⟩
  rw [hks]
  exact run_makeK M F hr hx I2 r rz l2 q2
/-- c(*e, k = v, ..), c a name whose value is the class at C -/
def tMakeT (K : PySem.W.Frag) (C : Addr) (m : Nat) (sp : List V → List V → Hp → VK → XK → Prop) (E : XK) (tf te : TE) (tk : TA) : TE := fun σ H Q => tf σ H fun c H0 => c = .ref C ∧ te σ H0 fun y H1 => tk σ H1 fun zs H2 => zs.length = m ∧ ∃ a xs, y = V.ref a ∧ (SqT K H2 a xs ∨ SqL K H2 a xs) ∧ spMk C sp E xs zs H2 Q
theorem pe_makeT {tf : TE} (M : Mk X.K C f) (F : FnK X.prog X.w X.K X.mg X.base CX k f ks sp) (hr : Room (k + 1) X.A) (hx : Passes CX X E) (hf : PE X (.Name x p) tf) (he : PE X e te) (hkw : PK X kws tk)
    (hall : (backToKw pos (keywordEach kws X.env)).all (·.1.isSome) = true := by rfl) (hks : (backToKw pos (keywordEach kws X.env)).filterMap (·.1) = ks := by rfl)
    (hst : starEach [.Starred e sp_] X.env = [(true, eval e X.env)] := by rfl) :
    PE X (.Call (.Name x p) [.Starred e sp_] kws pos) (tMakeT X.K C ks.length sp E tf te tk) := by
  refine ⟨fun pins s σ H Q I h => ?_⟩
  refine wpAny_Call_Name_kw (thn (hf.run pins s σ H _ I h) fun u s1 ⟨c, H1, I1, rc, ec, q1⟩ => ?_)
  subst ec
  obtain rfl : u = Value.ref C := rc
  rw [hst]
  refine sk_call (P := X.K.In) rfl (PySem.W.keeps_K M.kp) (sk_lone hall (thn (he.run pins s1 σ H1 _ I1 q1) fun v s2 ⟨y, H2, I2, ry, q2⟩ => ?_))
  refine thn (hkw.run pos pins s2 σ H2 _ I2 q2) fun ws s3 ⟨zs, H3, I3, rz, l2, a, xs, ey, hxs, q3⟩ => ?_
  subst ey
  obtain rfl : v = Value.ref a := ry
  refine star_any I3 hxs fun us s4 I4 rv => ⟨I4.kIn, ?_⟩
  rw [hks]
  exact run_makeK M F hr hx I4 rv rz l2 q3
/-! ### classmethods -/
theorem run_cmK {Q : VK} {pins : List (Addr × Obj)} {σ : L2.St} {H : Hp} {s : Shared} {us ws : List Value} {vs zs : List V} (F : FnK X.prog X.w X.K X.mg X.base CX k g ks sp) (hr : Room k X.A) (hx : Passes CX X E) (I : Inv X ((q, PySem.W.methodObj (.ref g) (.ref C)) :: pins) σ H s)
    (r : Vals vs us) (rz : Vals zs ws) (hl : zs.length = ks.length) (h : sp (.ref C :: vs) zs H Q E) : wpAny (model X.prog X.w) X.A (call (.ref q) us (ks.zip ws)) (EP X pins σ Q) X.xe s := by
  have z : wpAny (model X.prog X.w) X.A (call (.ref q) us (ks.zip ws)) (EP X ((q, PySem.W.methodObj (.ref g) (.ref C)) :: pins) σ Q) X.xe s := by
    refine wpAny_call (PySem.W.method_call (ClX.pin_at I) (codeAny_mono (F X.A X.stack s H (.ref C :: us) ws (.ref C :: vs) zs Q E hr I.env0 (.cons rfl r) rz hl h) fun r s' hq => ?_))
    cases r with
    | error e => exact hx _ σ H s e s' I hq
    | ok fl =>
      cases fl with
      | ret u => exact I.after hq
      | next => exact False.elim hq
      | brk => exact False.elim hq
      | cont => exact False.elim hq
  exact thn z fun _ _ y => ClX.unpinE y
/-- C.m(e, .., k = v, ..), m a classmethod of C -/
def tCMethK (C : Addr) (m : Nat) (sp : List V → List V → Hp → VK → XK → Prop) (E : XK) (ta : TE) (t tk : TA) : TE := fun σ H Q => ta σ H fun x H1 => x = .ref C ∧ t σ H1 fun vs H2 => tk σ H2 fun zs H3 => zs.length = m ∧ sp (.ref C :: vs) zs H3 Q E
theorem pe_cmethK {pl : Sem Bool} (he : PE X o ta) (r : ClX.CRead X.K C mc) (c : ClX.CMet X.K C mc m q g) (F : FnK X.prog X.w X.K X.mg X.base CX k g ks sp) (hr : Room k X.A) (hx : Passes CX X E) (ha : PA X (e :: es) t) (hkw : PK X kws tk)
    (hall : (backToKw pos (keywordEach kws X.env)).all (·.1.isSome) = true := by rfl) (hks : (backToKw pos (keywordEach kws X.env)).filterMap (·.1) = ks := by rfl)
    (hst : starEach (e :: es) X.env = (false, eval e X.env) :: starEach es X.env := by rfl) (hpl : ((backTo pos (starEach (e :: es) X.env)).any (·.1) || (backToKw pos (keywordEach kws X.env)).any (·.1.isNone)) = false := by rfl)
    (ht : eval (.Call (.Attribute o m apos) (e :: es) kws pos) X.env = (do
      let ov ← eval o X.env
      standAt apos.atName
      let (f, first) ← holding [ov] (getMethod ov m pl)
      callWith pos f first (backTo pos (starEach (e :: es) X.env)) (backToKw pos (keywordEach kws X.env))) := by rfl) :
    PE X (.Call (.Attribute o m apos) (e :: es) kws pos) (tCMethK C ks.length sp E ta t tk) := by
  refine ⟨fun pins s σ H Q I h => ?_⟩
  refine PySem.W.methodCall_KW (pl := pl) (thn (he.run pins s σ H _ I h) fun u s1 ⟨x, H1, I1, rx, ex, q1⟩ => ?_) ht
  subst ex
  obtain rfl : u = Value.ref C := rx
  refine ClX.getmethcm_ok I1 r c fun s2 I2 => ?_
  refine PySem.W.callWith_of (P := PySem.W.MethP X.K _ g (.ref C)) hpl (PySem.W.keeps_M c.fi) ?_
  have z := ha.run pos _ s2 σ H1 _ I2 q1
  rw [hst] at z ⊢
  refine evalArgs_kw hall ?_
  refine thn z fun us s3 ⟨vs, H2, I3, rv, q2⟩ => ?_
  refine thn (hkw.run pos _ s3 σ H2 _ I3 q2) fun ws s4 ⟨zs, H3, I4, rz, l2, q3⟩ => ⟨⟨ClX.pin_at I4, I4.kIn⟩, ?_⟩
  rw [hks]
  exact run_cmK F hr hx I4 rv rz l2 q3
end
end StK
namespace Sj
open PySem L2 Sup
open NdefX (NF NScope ncx envF startF nscope_by)
open C8 (pss_cut tCut)
abbrev sIsInt : Stmt := top 10
abbrev sBetw : Stmt := top 11
abbrev sWrong : Stmt := top 19
theorem tyx_same {K : PySem.W.Frag} {H H' : Hp} {x : V} {t : Value} (h : TyX K H x t) (s : Same H H') : TyX K H' x t := by
  cases h with
  | base b =>
    refine .base ?_
    cases b with
    | non => exact .non
    | bl x => exact .bl x
    | int i => exact .int i
    | str x => exact .str x
    | flt x => exact .flt x
    | lst e => exact .lst (s _ _ e)
    | frz e => exact .frz (s _ _ e)
    | tup e => exact .tup (s _ _ e)
    | dK e => exact .dK (s _ _ e)
    | dT e => exact .dT (s _ _ e)
    | ins e c h1 h2 h3 h4 => exact .ins (s _ _ e) c h1 h2 h3 h4
  | byt b => exact .byt b
  | set e => exact .set (s _ _ e)
  | kList e c => exact .kList e c
  | kTuple e c => exact .kTuple e c
  | kDict e c => exact .kDict e c
  | fTuple e => exact .fTuple (s _ _ e)
  | fDict e => exact .fDict (s _ _ e)
/-- the three classes of legs -/
structure Kinds where
  drv : Addr
  lis : Addr
  leg : Addr
/-- isinstance(x, (Driver, Listener)) -/
def IsL (K : PySem.W.Frag) (ks : Kinds) (H : Hp) (x : V) (b : Bool) : Prop := ∃ t, TyX K H x t ∧ PySem.W.kitAny K t [.ref ks.drv, .ref ks.lis] = some b
theorem IsL.same {K : PySem.W.Frag} {ks : Kinds} {H H' : Hp} {x : V} {b : Bool} (h : IsL K ks H x b) (s : Same H H') : IsL K ks H' x b := h.imp fun _ ⟨a, e⟩ => ⟨tyx_same a s, e⟩
/-- a driver or a listener -/
structure LegR where
  a : Addr
  C : Addr
  z : Str
def LegR.ok (ks : Kinds) (H : Hp) (r : LegR) : Prop := (r.C = ks.drv ∨ r.C = ks.lis) ∧ LegAt H r.a r.C r.z
theorem LegR.ok.same {ks : Kinds} {H H' : Hp} {r : LegR} (h : r.ok ks H) (s : Same H H') : r.ok ks H' := ⟨h.1, h.2.same s⟩
def refs (rs : List LegR) : List V := rs.map fun r => .ref r.a
def names (rs : List LegR) : List Str := rs.map (·.z)
/-- an integer from 1 to 3 -/
def TopIs (K : PySem.W.Frag) (H : Hp) (T : V) (b : Bool) : Prop := (∃ i : Int, T = .int i ∧ b = (decide (1 ≤ i) && decide (i ≤ 3))) ∨ ∃ (t : String) (m c : Bool), TyX K H T (.type t) ∧ kitB t "int" = some m ∧ kitB t "bool" = some c ∧ (m && !c) = false ∧ b = false
def RailIs (K : PySem.W.Frag) (H : Hp) (G : V) (b : Bool) : Prop := ∃ t : String, TyX K H G (.type t) ∧ kitB t "bool" = some b
theorem TopIs.same {K : PySem.W.Frag} {H H' : Hp} {T : V} {b : Bool} (h : TopIs K H T b) (s : Same H H') : TopIs K H' T b := h.imp id fun ⟨t, m, c, a, r⟩ => ⟨t, m, c, tyx_same a s, r⟩
theorem RailIs.same {K : PySem.W.Frag} {H H' : Hp} {T : V} {b : Bool} (h : RailIs K H T b) (s : Same H H') : RailIs K H' T b := h.imp fun _ ⟨a, r⟩ => ⟨tyx_same a s, r⟩
def spIsInt (K : PySem.W.Frag) : Sp := fun vs H Q _ => ∃ (x : V) (t : String) (b c : Bool), vs = [x] ∧ TyX K H x (.type t) ∧ kitB t "int" = some b ∧ kitB t "bool" = some c ∧ Q (.bl (b && !c)) H
def spBetw (K : PySem.W.Frag) : Sp := fun vs H Q _ => ∃ (T : V) (b : Bool), vs = [T, .int 1, .int 3] ∧ TopIs K H T b ∧ Q (.bl b) H
section
variable {P : Program} {w : World} {K : PySem.W.Frag} {mg : Str → Option Value} {base : Heap}
theorem scIsInt : FnScope ["value"] ["value"] (defScope sIsInt) := ⟨rfl, rfl, rfl, by decide +kernel, rfl, by decide +kernel, by decide +kernel⟩
theorem scBetw : FnScope ["value", "least", "most"] ["value", "least", "most"] (defScope sBetw) := ⟨rfl, rfl, rfl, by decide +kernel, rfl, by decide +kernel, by decide +kernel⟩
theorem ok_isint {f : Addr} {fd : FuncData} (F : Fun K "is_integer" "is_integer" sIsInt f fd) (mi : mg "isinstance" = none) (mn : mg "int" = none) (mb : mg "bool" = none) : FnOk P w K mg base CX0 1 f fd ["value"] (spIsInt K) := by
  refine F.ok scIsInt (fun vs H Q E h => ?_) (fun cdv A outer s H vs Q E hr h => ?_)
  · obtain ⟨x, t, b, c, rfl, _⟩ := h
    rfl
  · obtain ⟨x, t, b, c, rfl, ht, hb, hc, k⟩ := h
    refine ⟨_, pss_one (ps_ret (pe_and (pe_callB call_isi (by rfl) mi (by decide +kernel) (pa_cons (pv 0) (pa_cons (pe_bltn (by rfl) mn (by decide +kernel) (v := .ty "int") rfl) pa_nil)))
      (pe_one (pe_not (pe_callB call_isi (by rfl) mi (by decide +kernel) (pa_cons (pv 0) (pa_cons (pe_bltn (by rfl) mb (by decide +kernel) (v := .ty "bool") rfl) pa_nil))))))), ?_⟩
    refine ⟨_, rfl, _, _, _, _, b, rfl, .ty _, ht, kit_ty hb, _, rfl, ?_⟩
    cases b with
    | false => exact iteF k
    | true => exact iteT ⟨_, rfl, _, _, _, _, c, rfl, .ty _, ht, kit_ty hc, _, rfl, k⟩
theorem ok_betw {f fI : Addr} {fd fdI : FuncData} (F : Fun K "is_between" "is_between" sBetw f fd) (FI : FnOk P w K mg base CX0 1 fI fdI ["value"] (spIsInt K)) (mI : mg "is_integer" = some (.ref fI)) (kI : PySem.W.keepIn K (.ref fI) = true) (bI : Binds K fdI ["value"] []) :
    FnOk P w K mg base CX0 2 f fd ["value", "least", "most"] (spBetw K) := by
  refine F.ok scBetw (fun vs H Q E h => ?_) (fun cdv A outer s H vs Q E hr h => ?_)
  · obtain ⟨T, b, rfl, _⟩ := h
    rfl
  · obtain ⟨T, b, rfl, ht, k⟩ := h
    refine ⟨_, pss_one (ps_ret (pe_and (pe_call FI hr rfl mI kI bI .nil pass0 (pa_cons (pv 0) pa_nil)) (pe_one (pe_chain op_le op_le (pv 1) (pv 0) (pv 2))))), ?_⟩
    rcases ht with ⟨i, rfl, rfl⟩ | ⟨t, m, c, ht, hm, hc, e, rfl⟩
    · refine ⟨_, rfl, _, _, _, _, rfl, .base (.int i), (by decide +kernel : kitB "int" "int" = some true), (by decide +kernel : kitB "int" "bool" = some false), _, rfl, ?_⟩
      refine iteT ⟨_, rfl, _, rfl, _, _, rfl, rfl, _, rfl, ?_⟩
      by_cases h1 : (1 : Int) ≤ i
      · rw [decide_eq_true h1] at k ⊢
        exact iteT ⟨_, rfl, _, _, rfl, rfl, k⟩
      · rw [decide_eq_false h1] at k ⊢
        exact iteF k
    · refine ⟨_, rfl, _, _, _, _, rfl, ht, hm, hc, _, rfl, ?_⟩
      rw [e]
      exact iteF k
end
end Sj
namespace Sj
open PySem L2 Sup
open NdefX (NF NScope ncx envF startF nscope_by)
open C8 (pss_cut tCut)
/-- the first reason, the legs being right -/
def due (zs : List Str) (tb rb : Bool) : V := if 40 < zs.length then .str "many" else if zs.Nodup then (if tb = false then .str "top" else if rb = false then .str "rails" else .non) else .str "name"
/-- wrong_frame(legs, top, ground, power) -/
def spWrong (K : PySem.W.Frag) (ks : Kinds) : Sp := fun vs H Q _ => ∃ (t : Addr) (xs : List V) (T G R : V) (tb gb pb : Bool), vs = [.ref t, T, G, R] ∧ H t = some (.tup xs) ∧ xs.length ≤ 1000 ∧ TopIs K H T tb ∧ RailIs K H G gb ∧ RailIs K H R pb ∧
  ((∃ bs : List Bool, bs.length = xs.length ∧ bs.all id = false ∧ (∀ (i : Nat) (x : V) (b : Bool), xs[i]? = some x → bs[i]? = some b → IsL K ks H x b) ∧ ∀ H', Same H H' → Q (.str "legs") H') ∨
   ∃ rs : List LegR, xs = refs rs ∧ (∀ r ∈ rs, r.ok ks H) ∧ ∀ H', Same H H' → Q (due (names rs) tb (gb && pb)) H')
/-- what the text gives -/
structure WrT (P : Program) (w : World) (K : PySem.W.Frag) (mg : Str → Option Value) (base : Heap) (ks : Kinds) (CF : Addr) : Prop where
  isi : mg "isinstance" = none
  all : mg "all" = none
  len : mg "len" = none
  bool : mg "bool" = none
  mD : mg "Driver" = some (.ref ks.drv)
  mI : mg "Listener" = some (.ref ks.lis)
  mF : mg "Frame" = some (.ref CF)
  most : ∃ mc u, ClX.CRead K CF mc ∧ ClX.CVal K CF mc "MOST" (.int 40) u
  icD : IsiC K ks.drv
  icI : IsiC K ks.lis
  nD : NoAttr K ks.drv "name"
  nI : NoAttr K ks.lis "name"
  dd : PySem.W.kitAny K (.ref ks.drv) [.ref ks.drv, .ref ks.lis] = some true
  ii : PySem.W.kitAny K (.ref ks.lis) [.ref ks.drv, .ref ks.lis] = some true
  betw : ∃ fB fdB, mg "is_between" = some (.ref fB) ∧ PySem.W.keepIn K (.ref fB) = true ∧ Binds K fdB ["value", "least", "most"] [] ∧ FnOk P w K mg base CX0 2 fB fdB ["value", "least", "most"] (spBetw K)
theorem LegR.ok.isl {P : Program} {w : World} {K : PySem.W.Frag} {mg : Str → Option Value} {base : Heap} {ks : Kinds} {CF : Addr} {H : Hp} {r : LegR} (h : r.ok ks H) (T : WrT P w K mg base ks CF) : IsL K ks H (.ref r.a) true := by
  obtain ⟨hc, hl⟩ := h
  rcases hc with e | e
  · rw [e] at hl
    exact ⟨_, hl.ty T.icD, T.dd⟩
  · rw [e] at hl
    exact ⟨_, hl.ty T.icI, T.ii⟩
/-- the reading of isinstance(leg, (Driver, Listener)) -/
def teIsL (K : PySem.W.Frag) (ks : Kinds) : TE := tCB (rIsiT K) (tCons (tVar 4) (tCons (tTup (tCons (tC (.ref ks.drv)) (tCons (tC (.ref ks.lis)) tNil))) tNil))
def teNm (K : PySem.W.Frag) : TE := tFld K (tVar 4) "name"
theorem isl_rd {K : PySem.W.Frag} {ks : Kinds} {σ : L2.St} {H : Hp} {x : V} {b : Bool} {Q : VK} (hx : σ[4]? = some (some x)) (h : IsL K ks H x b) (k : ∀ H', Same H H' → Q (.bl b) H') : teIsL K ks σ H Q := by
  obtain ⟨t, ty, e⟩ := h
  refine ⟨x, hx, by show 2 ≤ sizeLine; decide, fun p hp => ?_⟩
  have s1 : Same H (upd H p (.tup [.ref ks.drv, .ref ks.lis])) := fun b o e => by rw [upd_ne (ne_of_none e hp)]; exact e
  refine ⟨x, p, [.ref ks.drv, .ref ks.lis], t, [.ref ks.drv, .ref ks.lis], b, rfl, upd_same, .cons (.own _) (.cons (.own _) .nil), tyx_same ty s1, e, k _ s1⟩
abbrev stW (t : Addr) (T G R : V) : L2.St := L2.start ["legs", "top", "ground", "power", "leg"] [.ref t, T, G, R]
theorem isl_walk {K : PySem.W.Frag} {ks : Kinds} {t D : Addr} {T G R : V} {xs : List V} {bs : List Bool} {H : Hp} {Qd : Hp → Prop} (ht : H t = some (.tup xs)) (hD : H D = none) (hl : bs.length = xs.length) (hx : xs.length ≤ 1000)
    (hb : ∀ (i : Nat) (x : V) (b : Bool), xs[i]? = some x → bs[i]? = some b → IsL K ks H x b) (hd : ∀ H', Same H H' → H' D = some (.lst (bs.map V.bl)) → Qd H') :
    ∃ W : Nat → Nat → Hp → Prop, (∃ m, W 0 m (upd H D (.lst []))) ∧ ∀ i m H, W i m H →
      ((Itt K t).stop i H ∧ Qd H) ∨ ((Itt K t).go i H ∧ ∃ Nx : Hp → Prop, (∀ H', Nx H' → ∃ m', m' < m ∧ W (i + 1) m' H') ∧ ∀ x H', (Itt K t).yld i H x H' → gName 4 x (wipe (stW t T G R) [4]) H' fun σ2 H2 => wipe σ2 [4] = wipe (stW t T G R) [4] ∧ tYes σ2 H2 fun b H3 =>
        if b = true then teIsL K ks σ2 H3 fun y H4 => ∃ acc, H4 D = some (.lst acc) ∧ acc.length < sizeLine ∧ Nx (upd H4 D (.lst (acc ++ [y]))) else Nx H3) := by
  have sD : ∀ (o : HO), Same H (upd H D o) := fun o b u e => by rw [upd_ne (ne_of_none e hD)]; exact e
  refine lc_it (walk_tup (K := K) (a := t) (xs := xs)) (fun i H' => Same H H' ∧ H' D = some (.lst ((bs.take i).map V.bl))) ⟨sD _, by rw [upd_same]; rfl⟩ (fun i H' _ p => .inl (.inl (p.1 _ _ ht))) ?_ ?_
  · rintro i x H1 H2 hi ⟨s1, d1⟩ ⟨rfl, hx1⟩
    refine ⟨rfl, ?_⟩
    have hi' : i < bs.length := by omega
    have hb1 : bs[i]? = some bs[i] := List.getElem?_eq_getElem hi'
    unfold tYes
    dsimp only
    rw [if_pos rfl]
    refine isl_rd rfl ((hb i x _ hx1 hb1).same s1) fun H3 s3 => ⟨_, s3 _ _ d1, ?_, ?_, ?_⟩
    · rw [List.length_map, List.length_take]
      exact Nat.lt_of_le_of_lt (Nat.min_le_right _ _) (Nat.lt_of_le_of_lt (show bs.length ≤ 1000 by omega) (by decide))
    · exact fun b o e => by
        rw [upd_ne (ne_of_none e hD)]
        exact s3 _ _ (s1 _ _ e)
    · rw [upd_same, List.take_add_one, hb1, List.map_append]
      rfl
  · rintro H1 ⟨s1, d1⟩
    rw [← hl, List.take_length] at d1
    exact hd H1 s1 d1
/-- the set of the names -/
theorem names_walk {P : Program} {w : World} {K : PySem.W.Frag} {ks : Kinds} {t D : Addr} {T G R : V} {rs : List LegR} {H : Hp} {Qd : Hp → Prop} (ht : H t = some (.tup (refs rs))) (hD : H D = none) (hx : rs.length ≤ 1000) (hr : ∀ r ∈ rs, r.ok ks H)
    (cD : Cls K ks.drv) (cI : Cls K ks.lis) (nD : NoAttr K ks.drv "name") (nI : NoAttr K ks.lis "name") (hd : ∀ H' S, Same H H' → H' D = some (SetK P w D S (SetT.nd (names rs).reverse)) → Qd H') :
    ∃ W : Nat → Nat → Hp → Prop, (∃ m, W 0 m (upd H D (SetT.zeroK P w D))) ∧ SetT.loopT P w D (Itt K t) (gName 4) tYes (teNm K) [4] (stW t T G R) W Qd := by
  have sD : ∀ (o : HO), Same H (upd H D o) := fun o b u e => by rw [upd_ne (ne_of_none e hD)]; exact e
  have hlen : (refs rs).length = rs.length := by unfold refs; rw [List.length_map]
  refine SetT.set_it (walk_tup (K := K) (a := t) (xs := refs rs)) (fun i H' => Same H H' ∧ H' D = some (SetK P w D (fun j : Key => (names (rs.take i)).any fun z => decide (j = Sum.inr z)) (SetT.nd (names (rs.take i)).reverse))) ⟨sD _, ?_⟩ (fun i H' _ p => .inl (.inl (p.1 _ _ ht))) ?_ ?_
  · rw [upd_same]
    rfl
  · rintro i x H1 H2 hi ⟨s1, d1⟩ ⟨rfl, hx1⟩
    rw [hlen] at hi
    have e1 : (refs rs)[i]? = some (.ref rs[i].a) := by unfold refs; rw [List.getElem?_map, List.getElem?_eq_getElem hi]; rfl
    rw [e1] at hx1
    obtain rfl := Option.some.inj hx1
    obtain ⟨hc, dx, ea⟩ := (hr _ (List.getElem_mem hi)).same s1
    have fld : ∃ C, H2 rs[i].a = some (.ins C dx (legF rs[i].z)) ∧ Cls K C ∧ NoAttr K C "name" := by
      refine ⟨_, ea, ?_⟩
      rcases hc with e | e <;> rw [e]
      · exact ⟨cD, nD⟩
      · exact ⟨cI, nI⟩
    obtain ⟨C, ea', cl, nn⟩ := fld
    unfold SetT.turnT tYes
    refine ⟨rfl, ?_⟩
    dsimp only
    rw [if_pos rfl]
    refine ⟨_, rfl, _, C, dx, _, _, rfl, ea', cl, nn, legF_name _, ?_⟩
    have et : names (rs.take (i + 1)) = names (rs.take i) ++ [rs[i].z] := by
      unfold names
      rw [List.take_add_one, List.getElem?_eq_getElem hi, List.map_append]
      rfl
    refine ⟨Sum.inr rs[i].z, _, _, rfl, d1, ?_, ?_, ?_⟩
    · have h1 := SetT.nd_le (names (rs.take i)).reverse
      rw [List.length_reverse] at h1
      have h2 : (names (rs.take i)).length ≤ 1000 := by
        unfold names
        rw [List.length_map, List.length_take]
        omega
      exact Nat.lt_of_le_of_lt (show _ ≤ 1001 by omega) (by decide)
    · exact fun b o e => by
        rw [upd_ne (ne_of_none e hD)]
        exact s1 _ _ e
    · rw [upd_same, et]
      congr 2
      · funext j
        rw [List.any_append]
        simp
      · rw [List.reverse_append]
        show _ = if rs[i].z ∈ (names (rs.take i)).reverse then SetT.nd (names (rs.take i)).reverse else SetT.nd (names (rs.take i)).reverse + 1
        have e9 : ((names (rs.take i)).any fun z => decide ((Sum.inr rs[i].z : Key) = Sum.inr z)) = true ↔ rs[i].z ∈ (names (rs.take i)).reverse := by
          rw [List.any_eq_true, List.mem_reverse]
          constructor
          · rintro ⟨z, hz, e⟩
            have e := of_decide_eq_true e
            injection e with e
            rw [e]
            exact hz
          · exact fun h => ⟨_, h, decide_eq_true rfl⟩
        by_cases h9 : rs[i].z ∈ (names (rs.take i)).reverse
        · rw [if_pos h9, if_pos (e9.mpr h9)]
        · rw [if_neg h9, if_neg fun z => h9 (e9.mp z)]
  · rintro H1 ⟨s1, d1⟩
    rw [hlen, List.take_length] at d1
    exact hd H1 _ s1 d1
section
variable {P : Program} {w : World} {K : PySem.W.Frag} {mg : Str → Option Value} {base : Heap}
theorem scWrong : FnScope ["legs", "top", "ground", "power", "leg"] ["legs", "top", "ground", "power"] (defScope sWrong) := ⟨rfl, rfl, rfl, by decide +kernel, rfl, by decide +kernel, by decide +kernel⟩
theorem ok_wrong {f CF : Addr} {fd : FuncData} {ks : Kinds} (F : Fun K "wrong_frame" "wrong_frame" sWrong f fd) (T : WrT P w K mg base ks CF) : FnOk P w K mg base CX0 3 f fd ["legs", "top", "ground", "power"] (spWrong K ks) := by
  obtain ⟨fB, fdB, mB, kB, bB, GB⟩ := T.betw
  obtain ⟨mc, u, cr, cv⟩ := T.most
  refine F.ok scWrong (fun vs H Q E h => ?_) (fun cdv A outer s H vs Q E hr h => ?_)
  · obtain ⟨t, xs, T, G, R, tb, gb, pb, rfl, _⟩ := h
    rfl
  · obtain ⟨t, xs, TT, G, R, tb, gb, pb, rfl, ht, hlen, hT, hG, hR, h⟩ := h
    refine ⟨_, pss_cons (ps_if (pt_not (pt_val (pe_callB (cr_all rfl) (by rfl) T.all (by decide +kernel) (pa_cons
          (pe_lc (te := teIsL K ks) (own := [("leg", 4)]) (g := gName 4) (tt := tYes) rfl scWrong.nd (pi_tup (pv 0)) (blkOk_by (N := ["legs", "top", "ground", "power", "leg"]) (sc := defScope sWrong) (by decide +kernel))
            (fun _ _ _ _ _ => pg_name (i := 4) scWrong.nd rfl (Or.inl rfl)) (fun _ _ _ _ _ => pts_nil) (fun _ _ _ _ _ => pe_callB call_isiT (by rfl) T.isi (by decide +kernel) (pa_cons (pv 4) (pa_cons (pe_tup (pa_cons (pe_glob rfl T.mD (v := .ref ks.drv) rfl) (pa_cons (pe_glob rfl T.mI (v := .ref ks.lis) rfl) pa_nil))) pa_nil)))) pa_nil))))
        (pss_one (ps_ret pe_str)) pss_nil)
      (pss_cons (ps_if (pt_cmpR op_gt (pe_callB call_len_seq (by rfl) T.len PySem.boot_len (pa_cons (pv 0) pa_nil)) (ClX.pe_cval (pe_glob rfl T.mF (v := .ref CF) rfl)) (nomark _)) (pss_one (ps_ret pe_str)) pss_nil)
      (pss_cons (ps_if (pt_cmpR op_lt (pe_callB SetT.call_len_setK (by rfl) T.len PySem.boot_len (pa_cons
          (SetT.pe_set (te := teNm K) (own := [("leg", 4)]) (g := gName 4) (tt := tYes) rfl scWrong.nd (pi_tup (pv 0)) (blkOk_by (N := ["legs", "top", "ground", "power", "leg"]) (sc := defScope sWrong) (by decide +kernel))
            (fun _ _ _ _ _ => pg_name (i := 4) scWrong.nd rfl (Or.inl rfl)) (fun _ _ _ _ _ => pts_nil) (fun _ _ _ _ _ => pe_fld (pv 4) rfl)) pa_nil)) (pe_callB call_len_seq (by rfl) T.len PySem.boot_len (pa_cons (pv 0) pa_nil)) (nomark _)) (pss_one (ps_ret pe_str)) pss_nil)
      (pss_cons (ps_if (pt_not (pt_val (pe_call GB (hr.mono (by decide)) rfl mB kB bB .nil pass0 (pa_cons (pv 1) (pa_cons pe_int (pa_cons pe_int pa_nil)))))) (pss_one (ps_ret pe_str)) pss_nil)
      (pss_cons (ps_if (PW.pt (pw_or (pt_not (pt_val (pe_callB call_isi (by rfl) T.isi (by decide +kernel) (pa_cons (pv 2) (pa_cons (pe_bltn (by rfl) T.bool (by decide +kernel) (v := .ty "bool") rfl) pa_nil)))))
          (pw_or1 (pt_not (pt_val (pe_callB call_isi (by rfl) T.isi (by decide +kernel) (pa_cons (pv 3) (pa_cons (pe_bltn (by rfl) T.bool (by decide +kernel) (v := .ty "bool") rfl) pa_nil)))))))) (pss_one (ps_ret pe_str)) pss_nil)
      (pss_one (ps_ret pe_non)))))), ?_⟩
    have sz : ∀ H' : Hp, Same H H' → ((SqL K H' t xs ∨ SqT K H' t xs)) := fun H' s1 => .inr (SqT.of (s1 _ _ ht))
    refine ⟨_, rfl, t, rfl, ⟨xs, SqT.of ht⟩, fun D hD => ?_⟩
    rcases h with ⟨bs, hbl, hall, hb, k⟩ | ⟨rs, rfl, hrs, k⟩
    · refine isl_walk ht hD hbl hlen hb fun H1 s1 d1 => ⟨D, bs, rfl, SqL.of d1, _, rfl, ?_⟩
      rw [hall]
      exact iteT (k H1 s1)
    · have hlr : (refs rs).length = rs.length := by unfold refs; rw [List.length_map]
      have hnl : (names rs).length = rs.length := by unfold names; rw [List.length_map]
      refine isl_walk (bs := List.replicate rs.length true) ht hD (by rw [List.length_replicate, hlr]) hlen (fun i x b hx hb => ?_) fun H1 s1 d1 => ⟨D, _, rfl, SqL.of d1, _, rfl, ?_⟩
      · have hi : i < rs.length := by
          have := (List.getElem?_eq_some_iff.mp hx).1
          rw [hlr] at this
          exact this
        have e1 : (refs rs)[i]? = some (.ref rs[i].a) := by unfold refs; rw [List.getElem?_map, List.getElem?_eq_getElem hi]; rfl
        rw [e1] at hx
        obtain rfl := Option.some.inj hx
        have e2 := (List.getElem?_replicate (n := rs.length) (a := true) (i := i)).symm.trans hb
        rw [if_pos hi] at e2
        obtain rfl := Option.some.inj e2
        exact (hrs _ (List.getElem_mem hi)).isl T
      · have ea : (List.replicate rs.length true).all id = true := by
          rw [List.all_eq_true]
          intro b hb
          rw [List.eq_of_mem_replicate hb]
          rfl
        rw [ea]
        refine iteF ⟨_, rfl, t, _, rfl, sz _ s1, CF, mc, _, u, rfl, cr, cv, _, _, rfl, rfl, _, rfl, ?_⟩
        have hdue : ∀ b : V, due (names rs) tb (gb && pb) = b → ∀ H', Same H H' → Q b H' := fun b e H' s => by rw [← e]; exact k H' s
        clear k
        by_cases h40 : 40 < rs.length
        · rw [decide_eq_true (show (40 : Int) < (refs rs).length by rw [hlr]; omega)]
          refine iteT (hdue _ ?_ _ s1)
          unfold due
          rw [hnl, if_pos h40]
        · rw [decide_eq_false (show ¬ (40 : Int) < (refs rs).length by rw [hlr]; omega)]
          refine iteF ⟨_, rfl, t, rfl, ⟨refs rs, SqT.of (s1 _ _ ht)⟩, fun D2 hD2 => ?_⟩
          refine names_walk (s1 _ _ ht) hD2 (by omega) (fun r hr => (hrs r hr).same s1) T.icD.cl T.icI.cl T.nD T.nI fun H2 S s2 d2 => ?_
          have s02 := s1.trans s2
          refine ⟨D2, S, _, rfl, d2, _, rfl, t, _, rfl, sz _ s02, _, _, rfl, rfl, _, rfl, ?_⟩
          have hnd := SetT.nd_iff (names rs).reverse
          rw [List.length_reverse, hnl, (List.reverse_perm (names rs)).nodup_iff] at hnd
          by_cases hno : (names rs).Nodup
          · rw [decide_eq_false (show ¬ ((SetT.nd (names rs).reverse : Int)) < (refs rs).length by rw [hlr]; exact fun z => hnd.mp (by omega) hno)]
            refine iteF ⟨_, rfl, _, _, rfl, hT.same s02, _, rfl, ?_⟩
            have hd2 : due (names rs) tb (gb && pb) = if tb = false then .str "top" else if (gb && pb) = false then .str "rails" else .non := by
              unfold due
              rw [hnl, if_neg h40, if_pos hno]
            rw [hd2] at hdue
            cases tb with
            | false => exact iteT (hdue _ rfl _ s02)
            | true =>
              obtain ⟨tg, tyg, eg⟩ := hG.same s02
              obtain ⟨tp, typ, ep⟩ := hR.same s02
              refine iteF ⟨_, rfl, _, _, _, _, gb, rfl, .ty _, tyg, kit_ty eg, _, rfl, ?_⟩
              cases gb with
              | false => exact iteT (hdue _ rfl _ s02)
              | true =>
                refine iteF ⟨_, rfl, _, _, _, _, pb, rfl, .ty _, typ, kit_ty ep, _, rfl, ?_⟩
                cases pb with
                | false => exact iteT (hdue _ rfl _ s02)
                | true => exact iteF (hdue _ rfl _ s02)
          · rw [decide_eq_true (show ((SetT.nd (names rs).reverse : Int)) < (refs rs).length by rw [hlr]; have := hnd.mpr hno; omega)]
            refine iteT (hdue _ ?_ _ s02)
            unfold due
            rw [hnl, if_neg h40, if_neg hno]
end
end Sj
namespace Sj
open PySem L2 Sup
open NdefX (NF NScope ncx envF startF nscope_by)
open C8 (pss_cut tCut)
abbrev sFrI : Stmt := inClass (top 18) 1
/-- raise InvalidFrame(e), e a short text -/
theorem raise_inv {K : PySem.W.Frag} {CI : Addr} {z : Str} {σ : L2.St} {H H1 : Hp} {te : TE} {Q : XK} (hte : ∀ Q' : VK, Q' (.str z) H1 → te σ H1 Q') (hz : (reprText z).length ≤ 1000) (s1 : Same H H1)
    (k : ∀ d H', errH H H' d "reason" (.str z) → Q (.ref CI) (some d) H') : tMkO CI (spInv K CI) [] (tCons te tNil) σ H1 Q := by
  refine hte _ ⟨by show 1 ≤ 1000; decide, fun a ha => ⟨a, z, rfl, hz, upd_same, fun d hd hda => ⟨rfl, d, [("reason", .str z)], upd_same, ?_, ?_, ?_⟩⟩⟩
  · rw [upd_ne hda, upd_same]
  · rw [upd_ne hda] at hd
    exact hd
  · refine k d _ ⟨?_, upd_same, fun b o e => ?_⟩
    · rw [upd_ne hda] at hd
      exact s1.free hd
    · rw [upd_ne hda] at hd
      have e1 := s1 _ _ e
      have nbd : b ≠ d := ne_of_none e1 hd
      have nba : b ≠ a := ne_of_none e1 ha
      rw [upd_ne nbd, del_ne nba, upd_ne nba, upd_ne nbd, upd_ne nba]
      exact e1
/-- a frame's attributes -/
def frF (D : Addr) (T G R : V) : List (Str × V) := putF "power" R (putF "ground" G (putF "top" T (putF "_legs" (.ref D) [])))
def legRow (r : LegR) : Key × V := (Sum.inr r.z, .ref r.a)
/-- a frame stands at a: its legs, sorted by name -/
def FrAt (H : Hp) (a C : Addr) (ys : List LegR) (T G R : V) : Prop := ∃ dx D, H a = some (.ins C dx (frF D T G R)) ∧ H D = some (.dK (ys.map legRow)) ∧ D ≠ a
theorem FrAt.same {H H' : Hp} {a C : Addr} {ys : List LegR} {T G R : V} (h : FrAt H a C ys T G R) (s : Same H H') : FrAt H' a C ys T G R := by
  obtain ⟨dx, D, h1, h2, h3⟩ := h
  exact ⟨dx, D, s _ _ h1, s _ _ h2, h3⟩
/-- rows put in order -/
def Ordd (rs ys : List LegR) : Prop := ys.Perm rs ∧ PyProof.Rows.sortedS (names ys) = true
/-- Frame.__init__ -/
def spFrI (K : PySem.W.Frag) (ks : Kinds) (CI CF : Addr) : Sp := fun vs H Q E => ∃ (a dx t : Addr) (xs : List V) (T G R : V) (tb gb pb : Bool), vs = [.ref a, T, G, R, .ref t] ∧ H a = some (.ins CF dx []) ∧ H t = some (.tup xs) ∧ xs.length ≤ 1000 ∧ TopIs K H T tb ∧ RailIs K H G gb ∧ RailIs K H R pb ∧
  ((∃ bs : List Bool, bs.length = xs.length ∧ bs.all id = false ∧ (∀ (i : Nat) (x : V) (b : Bool), xs[i]? = some x → bs[i]? = some b → IsL K ks H x b) ∧ ∀ d H', errH H H' d "reason" (.str "legs") → E (.ref CI) (some d) H') ∨
   ∃ rs : List LegR, xs = refs rs ∧ (∀ r ∈ rs, r.ok ks H) ∧ (∀ z, due (names rs) tb (gb && pb) = .str z → ∀ d H', errH H H' d "reason" (.str z) → E (.ref CI) (some d) H') ∧
     (due (names rs) tb (gb && pb) = .non → ∀ H' ys, Ordd rs ys → FrAt H' a CF ys T G R → But H H' a → Q .non H'))
structure FrT (P : Program) (w : World) (K : PySem.W.Frag) (mg : Str → Option Value) (base : Heap) (ks : Kinds) (CI fI CF : Addr) : Prop where
  wr : WrT P w K mg base ks CF
  sorted : mg "sorted" = none
  mI : mg "InvalidFrame" = some (.ref CI)
  ex : ExT P K mg CI "reason"
  iC : PySem.W.findIn K (.ref CI) "__init__" = some (some (.ref fI))
  tI : PySem.W.typeIn K (.ref fI) = some (.type "function")
  inv : ∃ fdI, Binds K fdI ["self", "reason"] [] ∧ FnOk P w K mg base CX0 1 fI fdI ["self", "reason"] (spInv K CI)
  wrong : ∃ f fd, mg "wrong_frame" = some (.ref f) ∧ PySem.W.keepIn K (.ref f) = true ∧ Binds K fd ["legs", "top", "ground", "power"] [] ∧ FnOk P w K mg base CX0 3 f fd ["legs", "top", "ground", "power"] (spWrong K ks)
  cl : Cls K CF
  nL : NoAttr K CF "_legs"
  nT : NoAttr K CF "top"
  nG : NoAttr K CF "ground"
  nP : NoAttr K CF "power"
theorem due_str {zs : List Str} {tb rb : Bool} {z : Str} (h : due zs tb rb = .str z) : (reprText z).length ≤ 1000 := by
  unfold due at h
  have hh : z = "many" ∨ z = "top" ∨ z = "rails" ∨ z = "name" := by
    split at h
    · exact .inl (V.str.inj h).symm
    · split at h
      · split at h
        · exact .inr (.inl (V.str.inj h).symm)
        · split at h
          · exact .inr (.inr (.inl (V.str.inj h).symm))
          · cases h
      · exact .inr (.inr (.inr (V.str.inj h).symm))
  rcases hh with rfl | rfl | rfl | rfl <;> decide +kernel
theorem due_cases (zs : List Str) (tb rb : Bool) : due zs tb rb = .non ∨ ∃ z, due zs tb rb = .str z := by
  unfold due
  split
  · exact .inr ⟨_, rfl⟩
  · split
    · split
      · exact .inr ⟨_, rfl⟩
      · split
        · exact .inr ⟨_, rfl⟩
        · exact .inl rfl
    · exact .inr ⟨_, rfl⟩
theorem due_non {zs : List Str} {tb rb : Bool} (h : due zs tb rb = .non) : zs.length ≤ 40 ∧ zs.Nodup := by
  unfold due at h
  split at h
  · cases h
  · split at h
    · rename_i h1 h2
      exact ⟨by omega, h2⟩
    · cases h
theorem perm_rows : ∀ (ys : List Str) (rs : List LegR), ys.Perm (names rs) → ∃ qs : List LegR, qs.Perm rs ∧ names qs = ys
  | [], rs, h => by
    have e := h.length_eq
    unfold names at e
    rw [List.length_map] at e
    obtain rfl : rs = [] := List.length_eq_zero_iff.mp e.symm
    exact ⟨[], .refl _, rfl⟩
  | y :: ys, rs, h => by
    have hy : y ∈ names rs := h.mem_iff.mp List.mem_cons_self
    obtain ⟨r, hr, e⟩ := List.mem_map.mp hy
    obtain ⟨l1, l2, rfl⟩ := List.append_of_mem hr
    have p1 : (l1 ++ r :: l2).Perm (r :: (l1 ++ l2)) := List.perm_middle
    have h2 : (y :: ys).Perm (y :: names (l1 ++ l2)) := by
      have q := h.trans (p1.map fun r : LegR => r.z)
      rw [List.map_cons, e] at q
      exact q
    obtain ⟨qs, hq, en⟩ := perm_rows ys (l1 ++ l2) h2.cons_inv
    refine ⟨r :: qs, (List.Perm.cons r hq).trans p1.symm, ?_⟩
    show r.z :: names qs = _
    rw [en, e]
theorem valV_rows : ∀ (rs : List LegR) (r : LegR), (names rs).Nodup → r ∈ rs → valV (rs.map legRow) (Sum.inr r.z) = some (.ref r.a)
  | q :: rs, r, hn, hr => by
    unfold names at hn
    rw [List.map_cons, List.nodup_cons] at hn
    rcases List.mem_cons.mp hr with rfl | hr
    · exact valV_pos rfl
    · have ne : ¬ (legRow q).1 = Sum.inr r.z := fun z => by
        injection z with z
        exact hn.1 (List.mem_map.mpr ⟨r, hr, z.symm⟩)
      rw [List.map_cons, valV_neg ne]
      exact valV_rows rs r hn.2 hr
theorem valV_out : ∀ (rs : List LegR) (z : Str), z ∉ names rs → valV (rs.map legRow) (Sum.inr z) = none
  | [], _, _ => rfl
  | q :: rs, z, h => by
    have ne : ¬ (legRow q).1 = Sum.inr z := fun e => by
      injection e with e
      exact h (List.mem_map.mpr ⟨q, List.mem_cons_self, e⟩)
    rw [List.map_cons, valV_neg ne]
    exact valV_out rs z fun hz => h (List.mem_cons_of_mem _ hz)
end Sj
namespace Sj
open PySem L2 Sup
open NdefX (NF NScope ncx envF startF nscope_by)
open C8 (pss_cut tCut)
abbrev nFr : List Str := ["self", "top", "ground", "power", "legs", "reason", "by_name", "leg", "name"]
theorem scFrI : FnScope nFr ["self", "top", "ground", "power", "legs"] (defScope sFrI) := ⟨rfl, rfl, rfl, by decide +kernel, rfl, by decide +kernel, by decide +kernel⟩
def teNm7 (K : PySem.W.Frag) : TE := tFld K (tVar 7) "name"
def teGet : TE := tDGet (tVar 6) (tVar 8)
section
variable {P : Program} {w : World} {K : PySem.W.Frag} {mg : Str → Option Value} {base : Heap}
theorem body_frI {CI fI CF f : Addr} {ks : Kinds} (T : FrT P w K mg base ks CI fI CF) (cdv : Value) (A : Around) (outer : List Env) (s : Shared) (H : Hp) (vs : List V) (Q : VK) (E : XK)
    (hr : Room 3 (A.deeper (PyProof.Rows.envOfC "Frame.__init__" (defScope sFrI) s.heap.objs.size f cdv))) (h : spFrI K ks CI CF vs H Q E) :
    ∃ t, PSs (cxOf (L2.CX P w) P w K mg base nFr "Frame.__init__" (defScope sFrI) f cdv A outer s H E) (defBody sFrI) t ∧ t { nx := fun _ H' => Q .non H', rt := Q } (start nFr vs) H := by
  obtain ⟨fdI, bI, GI⟩ := T.inv
  obtain ⟨fW, fdW, mW, kW, bW, GW⟩ := T.wrong
  have hr1 := hr.mono (show 2 ≤ 3 by decide)
  obtain ⟨a, dx, t, xs, TT, G, R, tb, gb, pb, rfl, ha, ht, hlen, hT, hG, hR, h⟩ := h
  refine ⟨_, pss_cons (ps_set (i := 5) scFrI.nd rfl (Or.inl rfl) (pe_call GW hr rfl mW kW bW .nil pass0 (pa_cons (pv 4) (pa_cons (pv 1) (pa_cons (pv 2) (pa_cons (pv 3) pa_nil))))))
      (pss_cons (ps_if (pt_cmpR op_notN (pv 5) pe_non (nomark _)) (pss_one (ps_raise rfl (takes_of rfl rfl rfl rfl) (pmk_oex T.ex.oex T.iC T.tI GI hr1 bI .nil pass0 rfl T.mI (pa_cons (pv 5) pa_nil)))) pss_nil)
      (pss_cons (ps_set (i := 6) scFrI.nd rfl (Or.inr rfl) (pe_dc (tk := teNm7 K) (tv := tVar 7) (own := [("leg", 7)]) (g := gName 7) (tt := tYes) rfl scFrI.nd (pi_tup (pv 4)) (blkOk_by (N := nFr) (sc := defScope sFrI) (by decide +kernel))
          (fun _ _ _ _ _ => pg_name (i := 7) scFrI.nd rfl (Or.inl rfl)) (fun _ _ _ _ _ => pts_nil) (fun _ _ _ _ _ => pe_fld (pv 7) rfl) (fun _ _ _ _ _ => pv 7)))
      (pss_cons (ps_fld (pv 0) (pe_dc (tk := tVar 8) (tv := teGet) (own := [("name", 8)]) (g := gName 8) (tt := tYes) rfl scFrI.nd (pi_list (pe_callB (call_sortedD rfl) (by rfl) T.sorted (by decide +kernel) (pa_cons (pv 6) pa_nil))) (blkOk_by (N := nFr) (sc := defScope sFrI) (by decide +kernel))
          (fun _ _ _ _ _ => pg_name (i := 8) scFrI.nd rfl (Or.inl rfl)) (fun _ _ _ _ _ => pts_nil) (fun _ _ _ _ _ => pv 8) (fun _ _ _ _ _ => pe_dget (hu_of hr) (pv 6) (pv 8) (fun _ _ => rfl))) rfl)
      (pss_cons (ps_fld (pv 0) (pv 1) rfl) (pss_cons (ps_fld (pv 0) (pv 2) rfl) (pss_one (ps_fld (pv 0) (pv 3) rfl))))))), ?_⟩
  rcases h with ⟨bs, hbl, hall, hb, k⟩ | ⟨rs, rfl, hrs, k1, k2⟩
  · refine ⟨_, rfl, _, rfl, _, rfl, _, rfl, t, xs, TT, G, R, tb, gb, pb, rfl, ht, hlen, hT, hG, hR, .inl ⟨bs, hbl, hall, hb, fun H1 s1 => ?_⟩⟩
    refine ⟨_, rfl, rfl, _, rfl, iteT ?_⟩
    exact raise_inv (fun Q' q => ⟨_, rfl, q⟩) (by decide +kernel) s1 k
  · have hlr : (refs rs).length = rs.length := by unfold refs; rw [List.length_map]
    have hnl : (names rs).length = rs.length := by unfold names; rw [List.length_map]
    refine ⟨_, rfl, _, rfl, _, rfl, _, rfl, t, refs rs, TT, G, R, tb, gb, pb, rfl, ht, hlen, hT, hG, hR, .inr ⟨rs, rfl, hrs, fun H1 s1 => ?_⟩⟩
    rcases due_cases (names rs) tb (gb && pb) with e | ⟨z, e⟩
    · rw [e]
      obtain ⟨h40, hno⟩ := due_non e
      rw [hnl] at h40
      refine ⟨_, rfl, rfl, _, rfl, iteF ⟨_, rfl, t, rfl, ⟨refs rs, SqT.of (s1 _ _ ht)⟩, fun D hD => ?_⟩⟩
      have sD : ∀ (o : HO), Same H1 (upd H1 D o) := fun o b u e => by rw [upd_ne (ne_of_none e hD)]; exact e
      refine SetT.dict_it (walk_tup (K := K) (a := t) (xs := refs rs)) (fun i H' => Same H1 H' ∧ H' D = some (.dK ((rs.take i).map legRow))) ⟨sD _, by rw [upd_same]; rfl⟩ (fun i H' _ p => .inl (.inl (p.1 _ _ (s1 _ _ ht)))) ?_ ?_
      · rintro i x H2 H3 hi ⟨s2, d2⟩ ⟨rfl, hx1⟩
        rw [hlr] at hi
        have e1 : (refs rs)[i]? = some (.ref rs[i].a) := by unfold refs; rw [List.getElem?_map, List.getElem?_eq_getElem hi]; rfl
        rw [e1] at hx1
        obtain rfl := Option.some.inj hx1
        obtain ⟨hc, dy, eb⟩ := (hrs _ (List.getElem_mem hi)).same (s1.trans s2)
        have fld : ∃ C, H3 rs[i].a = some (.ins C dy (legF rs[i].z)) ∧ Cls K C ∧ NoAttr K C "name" := by
          refine ⟨_, eb, ?_⟩
          rcases hc with e | e <;> rw [e]
          · exact ⟨T.wr.icD.cl, T.wr.nD⟩
          · exact ⟨T.wr.icI.cl, T.wr.nI⟩
        obtain ⟨C, eb', cl, nn⟩ := fld
        refine ⟨rfl, ?_⟩
        unfold tYes
        dsimp only
        rw [if_pos rfl]
        have hti : (names (rs.take i)) = (names rs).take i := by unfold names; rw [List.map_take]
        have hout : rs[i].z ∉ names (rs.take i) := by
          have hi' : i < (names rs).length := by rw [hnl]; exact hi
          have ez : (names rs)[i] = rs[i].z := List.getElem_map (fun r : LegR => r.z)
          rw [hti, ← ez]
          intro hm
          obtain ⟨j, hj, ej⟩ := List.getElem_of_mem hm
          rw [List.length_take] at hj
          rw [List.getElem_take] at ej
          have := (List.getElem_inj hno).mp ej
          omega
        refine ⟨_, rfl, _, C, dy, _, _, rfl, eb', cl, nn, legF_name _, _, rfl, _, Sum.inr rs[i].z, rfl, d2, ?_, ?_, ?_⟩
        · rw [List.length_map, List.length_take]
          exact Nat.lt_of_le_of_lt (Nat.min_le_right _ _) (Nat.lt_of_le_of_lt (show rs.length ≤ 1000 by omega) (by decide))
        · exact fun b o e => by
            rw [upd_ne (ne_of_none e hD)]
            exact s2 _ _ e
        · rw [upd_same, putK_new _ (valV_out _ _ hout), List.take_add_one, List.getElem?_eq_getElem hi, List.map_append]
          rfl
      · rintro H2 ⟨s2, d2⟩
        rw [hlr, List.take_length] at d2
        have s02 := s1.trans s2
        clear k1
        refine ⟨_, rfl, D, _, names rs, rfl, .inl d2, ?_, by rw [hnl]; omega, fun ys q hp hs hq => ?_⟩
        · unfold names
          rw [List.map_map, List.map_map]
          rfl
        obtain ⟨qs, hqs, rfl⟩ := perm_rows ys rs hp
        obtain ⟨H3, eH3⟩ : ∃ H3, H3 = upd H2 q (.lst ((names qs).map V.str)) := ⟨_, rfl⟩
        have s3 : Same H2 H3 := fun b o e => by rw [eH3, upd_ne (ne_of_none e hq)]; exact e
        have hq3 : H3 q = some (.lst ((names qs).map V.str)) := by rw [eH3, upd_same]
        rw [← eH3]
        have s03 := s02.trans s3
        have hql : ((names qs).map V.str).length = qs.length := by unfold names; rw [List.length_map, List.length_map]
        have hqr : qs.length = rs.length := hqs.length_eq
        have hnq : (names qs).Nodup := (hqs.map fun r : LegR => r.z).nodup_iff.mpr hno
        refine ⟨q, rfl, ⟨_, SqL.of hq3⟩, fun D2 hD2 => ?_⟩
        have sD2 : ∀ (o : HO), Same H3 (upd H3 D2 o) := fun o b u e => by rw [upd_ne (ne_of_none e hD2)]; exact e
        refine SetT.dict_it (walk_list (K := K) (a := q) (xs := (names qs).map V.str)) (fun i H' => Same H3 H' ∧ H' D2 = some (.dK ((qs.take i).map legRow))) ⟨sD2 _, by rw [upd_same]; rfl⟩ (fun i H' _ p => SqL.of (p.1 _ _ hq3)) ?_ ?_
        · rintro i x H4 H5 hi ⟨s4, d4⟩ ⟨rfl, hx1⟩
          rw [hql] at hi
          have e1 : ((names qs).map V.str)[i]? = some (.str qs[i].z) := by unfold names; rw [List.map_map, List.getElem?_map, List.getElem?_eq_getElem hi]; rfl
          rw [e1] at hx1
          obtain rfl := Option.some.inj hx1
          refine ⟨rfl, ?_⟩
          unfold tYes
          dsimp only
          rw [if_pos rfl]
          have hti : (names (qs.take i)) = (names qs).take i := by unfold names; rw [List.map_take]
          have hout : qs[i].z ∉ names (qs.take i) := by
            have hi' : i < (names qs).length := by unfold names; rw [List.length_map]; exact hi
            have ez : (names qs)[i] = qs[i].z := List.getElem_map (fun r : LegR => r.z)
            rw [hti, ← ez]
            intro hm
            obtain ⟨j, hj, ej⟩ := List.getElem_of_mem hm
            rw [List.length_take] at hj
            rw [List.getElem_take] at ej
            have := (List.getElem_inj hnq).mp ej
            omega
          have hg : DGet H5 D (.str qs[i].z) (some (.ref qs[i].a)) := by
            rw [← valV_rows rs qs[i] hno (hqs.mem_iff.mp (List.getElem_mem hi))]
            exact DGet.k (k := Sum.inr qs[i].z) (s4 _ _ (s3 _ _ d2))
          refine ⟨_, rfl, _, rfl, _, rfl, D, _, rfl, hg, _, Sum.inr qs[i].z, rfl, d4, ?_, ?_, ?_⟩
          · rw [List.length_map, List.length_take]
            exact Nat.lt_of_le_of_lt (Nat.min_le_right _ _) (Nat.lt_of_le_of_lt (show qs.length ≤ 1000 by omega) (by decide))
          · exact fun b o e => by
              rw [upd_ne (ne_of_none e hD2)]
              exact s4 _ _ e
          · rw [upd_same, putK_new _ (valV_out _ _ hout), List.take_add_one, List.getElem?_eq_getElem hi, List.map_append]
            rfl
        · rintro H4 ⟨s4, d4⟩
          rw [hql, List.take_length] at d4
          have s04 := s03.trans s4
          have ha4 := s04 _ _ ha
          have nDa : D2 ≠ a := fun z => by rw [z] at hD2; rw [s03 _ _ ha] at hD2; cases hD2
          refine ⟨_, rfl, a, CF, dx, [], rfl, ha4, T.cl, T.nL, by show 0 < 1000; decide, ?_⟩
          refine ⟨_, rfl, _, rfl, a, CF, dx, _, rfl, upd_same, T.cl, T.nT, by show 1 < 1000; decide, ?_⟩
          refine ⟨_, rfl, _, rfl, a, CF, dx, _, rfl, upd_same, T.cl, T.nG, by show 2 < 1000; decide, ?_⟩
          refine ⟨_, rfl, _, rfl, a, CF, dx, _, rfl, upd_same, T.cl, T.nP, by show 3 < 1000; decide, ?_⟩
          refine k2 e _ qs ⟨hqs, hs⟩ ⟨dx, D2, upd_same, ?_, nDa⟩ fun b o hb eb => ?_
          · rw [upd_ne nDa, upd_ne nDa, upd_ne nDa, upd_ne nDa]
            exact d4
          · rw [upd_ne hb, upd_ne hb, upd_ne hb, upd_ne hb]
            exact s04 _ _ eb
    · rw [e]
      refine ⟨_, rfl, rfl, _, rfl, iteT ?_⟩
      exact raise_inv (fun Q' q => ⟨_, rfl, q⟩) (due_str e) s1 (k1 z e)
end
end Sj
namespace Sj
open PySem L2 Sup StK
open NdefX (NF NScope ncx envF startF nscope_by)
open C8 (pss_cut tCut)
abbrev sOf : Stmt := inClass (top 18) 2
def kwsF : List (Str × V) := [("top", .int 1), ("ground", .bl false), ("power", .bl false)]
abbrev ksA : List Str := ["top"]
abbrev ksB : List Str := ["top", "ground", "power"]
abbrev ksC : List Str := ["power", "ground", "top"]
theorem errH.of {H H1 H' : Hp} {d : Addr} {fld : Str} {v : V} (h : errH H1 H' d fld v) (s : Same H H1) : errH H H' d fld v := ⟨s.free h.1, h.2.1, s.trans h.2.2⟩
section
variable {P : Program} {w : World} {K : PySem.W.Frag} {mg : Str → Option Value} {base : Heap}
theorem fr_kwB {CI fI CF f : Addr} {fd : FuncData} {ks : Kinds} (F : FunD K "__init__" "Frame.__init__" (defArgs sFrI) (defBody sFrI) (defScope sFrI) [] kwsF f fd) (T : FrT P w K mg base ks CI fI CF) :
    FnK P w K mg base (L2.CX P w) 4 f ksB (spStarK 1 (fun vs zs => vs ++ zs) (spFrI K ks CI CF)) :=
  fn_starK (ps := ["self", "top", "ground", "power"]) (pv := "legs") F scFrI StX.cxUp 1 ksB [] (fun us mv ws => us ++ ws) (by decide) (fun q h => nomatch h) (fun r1 _ r3 => r1.append r3)
    (fun us mv ws h1 _ h3 => by rw [List.length_append, h1, h3] <;> rfl)
    (fun D doc pm an cdv ct us rest mv ws h1 h2 h3 => match us, rest, mv, ws, h1, h2, h3 with
      | [a], [], [], [x, y, z], _, _, _ => rfl
      | [a], r :: rs, [], [x, y, z], _, _, _ => rfl)
    (fun cdv A outer s H vs Q E hr h => body_frI T cdv A outer s H vs Q E hr h)
theorem fr_kwA {CI fI CF f : Addr} {fd : FuncData} {ks : Kinds} (F : FunD K "__init__" "Frame.__init__" (defArgs sFrI) (defBody sFrI) (defScope sFrI) [] kwsF f fd) (T : FrT P w K mg base ks CI fI CF) :
    FnK P w K mg base (L2.CX P w) 4 f ksA (spStarK 1 (fun vs zs => vs ++ (zs ++ [.bl false, .bl false])) (spFrI K ks CI CF)) :=
  fn_starK (ps := ["self", "top", "ground", "power"]) (pv := "legs") F scFrI StX.cxUp 1 ksA [("ground", .bl false), ("power", .bl false)] (fun us mv ws => us ++ (ws ++ mv)) (by decide) (fun q h => List.mem_cons_of_mem _ h) (fun r1 r2 r3 => r1.append (r3.append r2))
    (fun us mv ws h1 h2 h3 => by rw [List.length_append, List.length_append, h1, h2, h3] <;> rfl)
    (fun D doc pm an cdv ct us rest mv ws h1 h2 h3 => match us, rest, mv, ws, h1, h2, h3 with
      | [a], [], [p, q], [x], _, _, _ => ⟨_, _, _, _, _, _, rfl, rfl, _, _, _, _, _, _, rfl, rfl, rfl⟩
      | [a], r :: rs, [p, q], [x], _, _, _ => ⟨_, _, _, _, _, _, rfl, rfl, _, _, _, _, _, _, rfl, rfl, rfl⟩)
    (fun cdv A outer s H vs Q E hr h => body_frI T cdv A outer s H vs Q E hr h)
end
end Sj
namespace Sj
open PySem L2 Sup StK
open NdefX (NF NScope ncx envF startF nscope_by)
open C8 (pss_cut tCut)
/-- what is asked of legs xs, with top, rails: the outcomes of the making of a frame, from H on -/
def Outc (K : PySem.W.Frag) (ks : Kinds) (CI CF : Addr) (xs : List V) (T G R : V) (tb rb : Bool) (H : Hp) (Q : VK) (E : XK) : Prop :=
  (∃ bs : List Bool, bs.length = xs.length ∧ bs.all id = false ∧ (∀ (i : Nat) (x : V) (b : Bool), xs[i]? = some x → bs[i]? = some b → IsL K ks H x b) ∧ ∀ d H', errH H H' d "reason" (.str "legs") → E (.ref CI) (some d) H') ∨
   ∃ rs : List LegR, xs = refs rs ∧ (∀ r ∈ rs, r.ok ks H) ∧ (∀ z, due (names rs) tb rb = .str z → ∀ d H', errH H H' d "reason" (.str z) → E (.ref CI) (some d) H') ∧
     (due (names rs) tb rb = .non → ∀ a H' ys, H a = none → Ordd rs ys → FrAt H' a CF ys T G R → Same H H' → Q (.ref a) H')
/-- the making keeps its promise -/
theorem mk_outc {K : PySem.W.Frag} {ks : Kinds} {CI CF : Addr} {xs : List V} {T G R : V} {tb gb pb : Bool} {H0 H : Hp} {Q : VK} {E : XK} {gV : List V → List V → List V} {zs : List V} (hg : ∀ x : Addr, gV [.ref x] zs = [.ref x, T, G, R]) (s0 : Same H0 H) (hlen : xs.length ≤ 1000)
    (hT : TopIs K H0 T tb) (hG : RailIs K H0 G gb) (hR : RailIs K H0 R pb) (o : Outc K ks CI CF xs T G R tb (gb && pb) H0 Q E) : spMk CF (spStarK 1 gV (spFrI K ks CI CF)) E xs zs H Q := by
  intro x dx hx hdx hne
  have s1 : Same H (upd (upd H dx (.own x)) x (.ins CF dx [])) := fun b o e => by
    rw [upd_ne (ne_of_none e hx), upd_ne (ne_of_none e hdx)]
    exact e
  refine ⟨[.ref x], xs, rfl, rfl, Nat.le_trans hlen (by decide), fun p hp => ?_⟩
  obtain ⟨H2, e2⟩ : ∃ H2, H2 = upd (upd (upd H dx (.own x)) x (.ins CF dx [])) p (.tup xs) := ⟨_, rfl⟩
  have hxp : x ≠ p := ne_of_none upd_same hp
  have hx2 : H2 x = some (.ins CF dx []) := by rw [e2, upd_ne hxp, upd_same]
  have hp2 : H2 p = some (.tup xs) := by rw [e2, upd_same]
  have s2 : Same H H2 := fun b o e => by
    rw [e2, upd_ne (ne_of_none (s1 _ _ e) hp)]
    exact s1 _ _ e
  have s02 := s0.trans s2
  rw [hg, ← e2]
  refine ⟨x, dx, p, xs, T, G, R, tb, gb, pb, rfl, hx2, hp2, hlen, hT.same s02, hG.same s02, hR.same s02, ?_⟩
  rcases o with ⟨bs, h1, h2, h3, k⟩ | ⟨rs, h1, h2, k1, k2⟩
  · exact .inl ⟨bs, h1, h2, fun i x b e1 e2 => (h3 i x b e1 e2).same s02, fun d H' e => k d H' (e.of s02)⟩
  · refine .inr ⟨rs, h1, fun r hr => (h2 r hr).same s02, fun z hz d H' e => k1 z hz d H' (e.of s02), fun hd H' ys ho hf hb => ⟨rfl, k2 hd x H' ys (s0.free hx) ho hf fun b o e => ?_⟩⟩
    exact hb b o (ne_of_none e (s0.free hx)) (s02 _ _ e)
/-- Frame.of -/
def spOf (K : PySem.W.Frag) (ks : Kinds) (CI CF : Addr) : Sp := fun vs H Q E => ∃ (x T G R : V) (tb gb pb : Bool), vs = [.ref CF, x, T, G, R] ∧ TopIs K H T tb ∧ RailIs K H G gb ∧ RailIs K H R pb ∧
  ((∃ t, TyX K H x t ∧ PySem.W.kitAny K t [.type "list", .type "tuple"] = some false ∧ ∀ d H', errH H H' d "reason" (.str "legs") → E (.ref CI) (some d) H') ∨
   ∃ (l : Addr) (xs : List V), x = .ref l ∧ (H l = some (.lst xs) ∨ H l = some (.tup xs)) ∧ xs.length ≤ 1000 ∧ Outc K ks CI CF xs T G R tb (gb && pb) H Q E)
structure OfT (P : Program) (w : World) (K : PySem.W.Frag) (mg : Str → Option Value) (base : Heap) (ks : Kinds) (CI fI CF fF : Addr) : Prop where
  isi : mg "isinstance" = none
  list : mg "list" = none
  tuple : mg "tuple" = none
  mI : mg "InvalidFrame" = some (.ref CI)
  ex : ExT P K mg CI "reason"
  iC : PySem.W.findIn K (.ref CI) "__init__" = some (some (.ref fI))
  tI : PySem.W.typeIn K (.ref fI) = some (.type "function")
  inv : ∃ fdI, Binds K fdI ["self", "reason"] [] ∧ FnOk P w K mg base CX0 1 fI fdI ["self", "reason"] (spInv K CI)
  mkc : Mk K CF fF
  kt : PySem.W.kitAny K (.type "list") [.type "list", .type "tuple"] = some true
  kt2 : PySem.W.kitAny K (.type "tuple") [.type "list", .type "tuple"] = some true
section
variable {P : Program} {w : World} {K : PySem.W.Frag} {mg : Str → Option Value} {base : Heap}
theorem scOf : FnScope ["cls", "legs", "top", "ground", "power"] ["cls", "legs", "top", "ground", "power"] (defScope sOf) := ⟨rfl, rfl, rfl, by decide +kernel, rfl, by decide +kernel, by decide +kernel⟩
theorem ok_of {CI fI CF fF f : Addr} {fd : FuncData} {ks : Kinds} (F : FunD K "of" "Frame.of" (defArgs sOf) (defBody sOf) (defScope sOf) [] kwsF f fd) (T : OfT P w K mg base ks CI fI CF fF)
    (GF : FnK P w K mg base (L2.CX P w) 4 fF ksB (spStarK 1 (fun vs zs => vs ++ zs) (spFrI K ks CI CF))) : FnOk P w K mg base (L2.CX P w) 6 f fd ["cls", "legs", "top", "ground", "power"] (spOf K ks CI CF) := by
  obtain ⟨fdI, bI, GI⟩ := T.inv
  refine F.ok scOf (fun vs H Q E h => ?_) (fun cdv A outer s H vs Q E hr h => ?_)
  · obtain ⟨x, T, G, R, tb, gb, pb, rfl, _⟩ := h
    rfl
  · obtain ⟨x, TT, G, R, tb, gb, pb, rfl, hT, hG, hR, h⟩ := h
    refine ⟨_, pss_cons (ps_if (pt_not (pt_val (pe_callB call_isiT (by rfl) T.isi (by decide +kernel) (pa_cons (pv 1) (pa_cons (pe_tup (pa_cons (pe_bltn (by rfl) T.list (by decide +kernel) (v := .ty "list") rfl) (pa_cons (pe_bltn (by rfl) T.tuple (by decide +kernel) (v := .ty "tuple") rfl) pa_nil))) pa_nil)))))
        (pss_one (ps_raise rfl (takes_of rfl rfl rfl rfl) (pmk_oex T.ex.oex T.iC T.tI GI (hr.mono (by decide)) bI .nil pass0 rfl T.mI (pa_cons pe_str pa_nil)))) pss_nil)
      (pss_one (ps_ret (pe_makeT T.mkc GF hr (passes_call (takes_of rfl rfl rfl rfl) fun _ _ _ _ h => h) (pv 0) (pv 1) (pk_cons (pv 2) (pk_cons (pv 3) (pk_cons (pv 4) pk_nil)))))), ?_⟩
    have lay : ∀ (t : Value) (b : Bool) (Q' : VK), TyX K H x t → PySem.W.kitAny K t [.type "list", .type "tuple"] = some b → (∀ H', Same H H' → Q' (.bl b) H') →
        tCB (rIsiT K) (tCons (tVar 1) (tCons (tTup (tCons (tC (.ty "list")) (tCons (tC (.ty "tuple")) tNil))) tNil)) (L2.start ["cls", "legs", "top", "ground", "power"] [.ref CF, x, TT, G, R]) H Q' := by
      intro t b Q' ty e k
      refine ⟨_, rfl, by show 2 ≤ sizeLine; decide, fun p hp => ?_⟩
      have s1 : Same H (upd H p (.tup [.ty "list", .ty "tuple"])) := fun b o e => by rw [upd_ne (ne_of_none e hp)]; exact e
      exact ⟨x, p, [.ty "list", .ty "tuple"], t, [.type "list", .type "tuple"], b, rfl, upd_same, .cons (.ty _) (.cons (.ty _) .nil), tyx_same ty s1, e, k _ s1⟩
    rcases h with ⟨t, ty, e, k⟩ | ⟨l, xs, rfl, hl, hlen, o⟩
    · refine lay t false _ ty e fun H1 s1 => ⟨_, rfl, iteT ?_⟩
      exact raise_inv (fun Q' q => q) (by decide +kernel) s1 k
    · have hty : ∃ t, TyX K H (.ref l) t ∧ PySem.W.kitAny K t [.type "list", .type "tuple"] = some true := by
        rcases hl with h | h
        · exact ⟨_, .base (.lst h), T.kt⟩
        · exact ⟨_, .base (.tup h), T.kt2⟩
      obtain ⟨t, ty, e⟩ := hty
      refine lay t true _ ty e fun H1 s1 => ⟨_, rfl, iteF ?_⟩
      refine ⟨_, rfl, rfl, _, rfl, _, rfl, _, rfl, _, rfl, rfl, l, xs, rfl, ?_, ?_⟩
      · rcases hl with h | h
        · exact .inr (SqL.of (s1 _ _ h))
        · exact .inl (SqT.of (s1 _ _ h))
      · exact mk_outc (fun x => rfl) s1 hlen hT hG hR o
end
end Sj
/-! try: .. / except x as e: c = e, and what c holds behind it -/
namespace KepE
open PySem PySem.Spec PyProof.Rows L2
/-- a caught exception at a: its class, its dict -/
def Kept (a : Addr) (cls : Value) (d : Option Addr) : HO := .ext fun h => ∃ (oe : Obj) (vs : Array Value), h.get? a = some oe ∧ Zc cls d oe ∧ oe.data = .fields vs
section
variable {X : Cx} {pins : List (Addr × Obj)} {s : Shared} {σ : L2.St} {H : Hp} {a : Addr}
/-- an object that was made since the entry is followed from now on -/
theorem track {o : HO} (I : Inv X pins σ H s) (h0 : X.s_0.heap.get? a = none) (hn : H a = none) (nL : a ≠ X.env.locals) (nC : ∀ x c, X.env.cells.lookup x = some c → c ≠ a) (nP : ∀ p ∈ X.pn ++ pins, p.1 ≠ a) (new : ObjOk X.prog X.w (upd H a o) s.heap a o) : Inv X pins σ (upd H a o) s := by
  have ne : ∀ {b : Addr} {u : HO}, H b = some u → b ≠ a := fun e => ne_of_none e hn
  refine ⟨I.ok, I.os, I.bare, ⟨I.base.keep, I.base.slot, fun b u q n hx => ?_, I.base.there, fun b xs q => ?_, fun b u v q => ?_, fun b ps q => ?_⟩, I.loc, I.cell, ?_, fun x c e => ?_, fun p hp => ?_, I.hok.laidN (fun _ _ e => e) hn new, I.len⟩
  · rw [upd_ne (fun z => by rw [z, h0] at q; cases q)]
    exact I.base.free b u q n hx
  · have e := I.base.tups b xs q
    rw [upd_ne (ne e)]
    exact e
  · have e := I.base.frzs b u v q
    rw [upd_ne (ne e)]
    exact e
  · obtain ⟨more, e⟩ := I.base.tbls b ps q
    exact ⟨more, by rw [upd_ne (ne e)]; exact e⟩
  · rw [upd_ne (Ne.symm nL)]
    exact I.free
  · rw [upd_ne (nC x c e)]
    exact I.freeC x c e
  · obtain ⟨p1, p2, p3⟩ := I.pin p hp
    exact ⟨p1, by rw [upd_ne (nP p hp)]; exact p2, p3⟩
end
/-- what the clause 'except x as e: c = e' wishes of the body's exception: e in the slot i, c in the slot j -/
def wKeep (K : PySem.W.Frag) (c : Value) (i j : Nat) (D : Ends) : WX := fun cls d σ H => PySem.W.exmOne K cls c = some true ∧ ∀ a, H a = none → D.nx (((σ.set i (some (.ref a))).set j (some (.ref a))).set i none) (upd H a (Kept a cls d))
section
variable {X : Cx} {x n m : Str} {c : Value} {i j : Nat} {body : List Stmt} {np p1 p2 p3 pos pos' : Pos} {tb : WX → TS}
/-- the suite: c = e, then the name e goes; the exception is followed -/
theorem suite_keep {pins : List (Addr × Obj)} {s5 : Shared} {σ : L2.St} {H : Hp} {a : Addr} {oe : Obj} {vs : Array Value} {cls : Value} {d : Option Addr} {D : Ends} {E : Value → Shared → Prop} (ok : X.Ok) (hN : X.N.Nodup) (hi : X.N[i]? = some n) (hln : X.env.kindOf n = some .local) (hj : X.N[j]? = some m) (hlm : X.env.scope.names.lookup m = some .local)
    (hdn : (n == ("__debug__" : Str)) = false) (hcn : (n == ("__classdict__" : Str)) = false) (h0 : X.s_0.heap.get? a = none) (hP : ∀ p ∈ X.pn ++ pins, p.1 ≠ a) (hz : Zc cls d oe) (hd : oe.data = .fields vs) (hs : swapsWith (.Name n p2) (some (.Name m p1)) p3.line X.env = pure false) (hlt : i < σ.length)
    (S : Inv (X.suite a ((a, oe) :: (X.pn ++ pins))) [] (σ.set i (some (.ref a))) H s5) (q : D.nx (((σ.set i (some (.ref a))).set j (some (.ref a))).set i none) (upd H a (Kept a cls d))) :
    wpAny (model X.prog X.w) (X.A.mark (some (.ref a))) (execs [.Assign [.Name m p1] (.Name n p2) p3] X.env) (fun f s6 => wpAny (model X.prog X.w) X.A (do bindName X.env n .none; unbindBehindTheSuite X.env n pos') (fun _ s7 => SP X pins D f s7) X.xe s6) E s5 := by
  have st : PSs (X.suite a ((a, oe) :: (X.pn ++ pins))) [.Assign [.Name m p1] (.Name n p2) p3] (tAsg (tVar i) (gName j)) := pss_one (ps_set (X := X.suite a ((a, oe) :: (X.pn ++ pins))) hN hj (.inl hlm) (pe_var hi (.inl hln) hdn hcn) hs (.inr hlm))
  refine wpAny_mono (st.run [] s5 _ H { nx := fun σ' H' => σ' = (σ.set i (some (.ref a))).set j (some (.ref a)) ∧ H' = H, rt := fun _ _ => False, bk := fun _ _ => False, ct := fun _ _ => False } S ⟨.ref a, by rw [List.getElem?_set_self hlt], rfl, rfl⟩) (fun f s6 r => ?_) (fun _ _ z => False.elim z)
  match f, r with
  | .next, r =>
    obtain ⟨σ6, H6, S6, rfl, rfl⟩ := r
    obtain ⟨e6, na, nL, _, _⟩ := S6.pin (a, oe) (List.mem_append_left _ List.mem_cons_self)
    have nC : ∀ y c, X.env.cells.lookup y = some c → c ≠ a := fun y c e z => by
      obtain ⟨v, o, ho, hv⟩ := S6.cell y c e
      rw [z, e6] at ho
      obtain rfl := Option.some.inj ho
      rw [hd] at hv
      cases hv
    exact gone_ok (track (o := Kept a cls d) (S6.unsuite ok) h0 na nL nC hP ⟨⟨oe, vs, e6, hz, hd⟩, ⟨oe, e6⟩, fun _ _ ⟨o, v, q, r⟩ k => ⟨o, v, k o q, r⟩⟩) hN hi hln fun s7 J7 => ⟨_, _, J7, q⟩
  | .ret u, r =>
    obtain ⟨_, _, _, _, _, z⟩ := r
    exact z.elim
  | .brk, r =>
    obtain ⟨_, _, _, z⟩ := r
    exact z.elim
  | .cont, r =>
    obtain ⟨_, _, _, z⟩ := r
    exact z.elim
/-- try: body / except x as n: m = n -/
theorem ps_try_keep (hs : X.stack = X.env :: X.outer) (hf : X.env.frame = some X.env.locals) (hex : X.ex = []) (hN : X.N.Nodup) (hi : X.N[i]? = some n) (hln : X.env.kindOf n = some .local) (hj : X.N[j]? = some m) (hlm : X.env.scope.names.lookup m = some .local) (hc : Names X x c)
    (hb : ∀ (W : WX) (pn : List (Addr × Obj)) (xe : Value → Shared → Prop), Takes (X.tr pn xe) W → PassesOwn (model X.prog X.w) X.A X.env xe → PSs (X.tr pn xe) body (tb W))
    (hdn : (n == ("__debug__" : Str)) = false := by decide) (hcn : (n == ("__classdict__" : Str)) = false := by decide) (hsw : swapsWith (.Name n p2) (some (.Name m p1)) p3.line X.env = pure false := by rfl) :
    PS X (.Try body [.ExceptHandler (some (.Name x np)) (some n) [.Assign [.Name m p1] (.Name n p2) p3] pos'] [] [] pos) (fun D σ H => tb (wKeep X.K c i j D) D σ H) := by
  refine ⟨fun pins s σ H D I h => wpAny_Try_except ?_⟩
  have ok := I.ok
  have hfr : X.A.frames = some (X.env :: X.outer) := by rw [ok.frames, hs]
  refine wpAny_mono ((hb (wKeep X.K c i j D) (X.pn ++ pins) (fun e s₁ => wpAny (model X.prog X.w) X.A (noteFrame e X.env) (fun _ s₂ => wpAny (model X.prog X.w) X.A (setFlight e none) (fun _ s₃ =>
    wpAny (model X.prog X.w) X.A (handleBy e X.env [.ExceptHandler (some (.Name x np)) (some n) [.Assign [.Name m p1] (.Name n p2) p3] pos']) (SP X pins D) X.xe s₃) X.xe s₂) X.xe s₁) (fun u s' xx => ?_) PassesOwn.looking).run [] s σ H D (I.toTry _) h) (fun f s1 hsp => ?_) fun _ _ z => z
  · obtain ⟨a, B, sI, _, σ', H', cls, d, rfl, J', nb, up, sky, na, os, ag, hm, hq⟩ := xx
    have J : Inv X pins σ' H' sI := J'.ofTry ok
    rw [show (X.tr (X.pn ++ pins) _).stack = X.env :: X.outer from hs] at sky
    refine Sky.land Zc.steady hfr hf sky fun h3 fl3 up3 => ?_
    have back : ∀ {h : Heap}, HandSPX.FlyingZ B (X.env :: X.outer) a (Zc cls d) h → sI.heap.UpToSlots h → ∃ oe vs, h.get? a = some oe ∧ Zc cls d oe ∧ oe.data = .fields vs ∧ a ∉ frs (X.env :: X.outer) ∧ Inv X pins σ' H' { s' with heap := h } := fun {h} fl u => by
      obtain ⟨oe, vs, he, hz, hd⟩ := fl.there
      refine ⟨oe, vs, he, hz, hd, fun hm => ?_, J.landed nb fl.1 u os ag⟩
      obtain ⟨_, o', e', hnf⟩ := fl.2.2.1.mem hm
      rw [he] at e'
      cases e'
      exact hnf _ hd
    obtain ⟨oe3, vs3, he3, hz3, hd3, nfr, J3⟩ := back fl3 (up.trans up3)
    have nI : sI.heap.get? a = none := by
      cases e : sI.heap.get? a with
      | none => rfl
      | some o =>
        have z := nb a o e (by rw [hs]; exact nfr)
        rw [fl3.2.1] at z
        cases z
    have n0 : X.s_0.heap.get? a = none := by
      cases e : X.s_0.heap.get? a with
      | none => rfl
      | some o =>
        obtain ⟨o', z⟩ := J.base.there a o e (by rw [hex]; exact List.not_mem_nil)
        rw [nI] at z
        cases z
    have nL : a ≠ X.env.locals := fun z => nfr (List.mem_filterMap.mpr ⟨X.env, List.mem_cons_self, by rw [hf, z]⟩)
    have nF : a ∉ X.fs := fun hm => by
      obtain ⟨e, he, q⟩ := List.mem_filterMap.mp hm
      exact nfr (List.mem_filterMap.mpr ⟨e, List.mem_cons_of_mem _ he, q⟩)
    have nP : ∀ p ∈ X.pn ++ pins, p.1 ≠ a := fun p hp z => by
      have e := (J.pin p hp).1
      rw [z, nI] at e
      cases e
    have hlt : i < σ'.length := by
      rw [J.len]
      exact (List.getElem?_eq_some_iff.mp hi).1
    refine wpAny_handleBy_cons (codeAny_handlers_test ?_) (fun q => nomatch q)
    have S3 := J3.suite he3 hd3 na nL nF
    have LT : PySem.W.Looks (model X.prog X.w) h3 (typeOf (.ref a)) cls := fun A Q E s k q => wpAny_typeOf_ref (k _ _ he3) (by rw [hz3.1]; exact q)
    have hit := PySem.W.exm_one (M := model X.prog X.w) J3.kIn LT hm
    have named : ∀ {Q : Value → Shared → Prop} {E : Value → Shared → Prop}, Q c { s' with heap := h3 } → wpAny (model X.prog X.w) (X.A.mark (some (.ref a))) (eval (.Name x np) X.env) Q E { s' with heap := h3 } := fun {Q E} q => by
      obtain ⟨hg, hdbg, hm | ⟨hm, hv, hnn⟩⟩ := hc
      · exact ld_glob (X := X.suite a ((a, oe3) :: (X.pn ++ pins))) S3 hg hm q hdbg
      · exact ld_blt (X := X.suite a ((a, oe3) :: (X.pn ++ pins))) S3 hg hm hv q hnn hdbg
    refine named (hit.here (codeAny_handlers_suite_as (HandSPX.lands_againZ fl3 fun h4 fl4 up4 => ?_)))
    obtain ⟨oe4, vs4, he4, hz4, hd4, _, J4⟩ := back fl4 ((up.trans up3).trans up4)
    refine store_ok (X := X.suite a ((a, oe4) :: (X.pn ++ pins))) (v := .ref a) (J4.suite he4 hd4 na nL nF) hN hi (.inl hln) rfl (fun s5 S5 => ?_) (.inr hln)
    exact suite_keep ok hN hi hln hj hlm hdn hcn n0 nP hz4 hd4 hsw hlt S5 (hq a na)
  · cases f with
    | next =>
      obtain ⟨σ', H', J', q⟩ := hsp
      exact wpAny_execs_nil ⟨σ', H', J'.ofTry ok, q⟩
    | brk =>
      obtain ⟨σ', H', J', q⟩ := hsp
      exact ⟨σ', H', J'.ofTry ok, q⟩
    | cont =>
      obtain ⟨σ', H', J', q⟩ := hsp
      exact ⟨σ', H', J'.ofTry ok, q⟩
    | ret u =>
      obtain ⟨v, σ', H', J', r, q⟩ := hsp
      exact ⟨v, σ', H', J'.ofTry ok, r, q⟩
end
/-! ### what is kept -/
/-- the facts for an own error's fields and classes -/
structure KeT (K : PySem.W.Frag) (C : Addr) : Prop where
  cl : (PySem.W.clsIn K C).isSome = true
  ga : PySem.W.findIn K (.ref C) "__getattribute__" = some (some (.builtin "BaseException.__getattribute__"))
  gg : PySem.W.findIn K (.ref C) "__getattr__" = some none
  exC : PySem.W.subIn K (.ref C) (.type "BaseException") = some true
  hdC : PySem.W.hasDictIn K C = true
  ca : PySem.W.findIn K (.ref C) "__class__" = some (some (.builtin "object.__class__"))
  cn : PySem.W.specialIn K (.builtin "object.__class__") "__get__" = some (some (.builtin "getset_descriptor.__get__"))
  ct : PySem.W.takesIn K (.builtin "object.__class__") = some true
  ob : PySem.W.mroIn K C (.type "object") = some true
/-- an error of the class at C with the fields fs is kept at a -/
def KeAt (H : Hp) (a C : Addr) (fs : List (Str × V)) : Prop := ∃ dd, H a = some (Kept a (.ref C) (some dd)) ∧ H dd = some (.xd fs)
theorem KeAt.inst {X : Cx} {pins : List (Addr × Obj)} {s : Shared} {σ : L2.St} {H : Hp} {a C : Addr} {fs : List (Str × V)} (I : Inv X pins σ H s) (h : KeAt H a C fs) : ∃ (ox od : Obj) (mA : Str → Option Value), PySem.W.InstAt s.heap a ox C (some od) ∧ (∀ f, PySem.W.lookIn f od = some (mA f)) ∧ ∀ f, RelO (fs.lookup f) (mA f) := by
  obtain ⟨dd, e1, e2⟩ := h
  obtain ⟨⟨oe, vs, ha, hz, hd⟩, _⟩ := I.hok a _ e1
  obtain ⟨mA, hns, hr⟩ := (show ObjOk X.prog X.w H s.heap dd (.xd fs) from I.hok dd _ e2)
  obtain ⟨od, ho, hl⟩ := lookIn_ns hns
  exact ⟨oe, od, mA, ⟨ha, hz.1, by unfold PySem.W.notCls; rw [hd] <;> rfl, by rw [hz.2]; exact ho⟩, hl, hr⟩
def tFldK (K : PySem.W.Frag) (n : Str) (te : TE) : TE := fun σ H Q => te σ H fun x H1 => ∃ a C fs v, x = .ref a ∧ KeAt H1 a C fs ∧ KeT K C ∧ PySem.W.findIn K (.ref C) n = some none ∧ fs.lookup n = some v ∧ Q v H1
theorem pe_fldK {X : Cx} {e : Expr} {te : TE} {pos : Pos} {n : Str} (he : PE X e te) (hb : attributeBase e n X.env (eval e X.env) = eval e X.env := by rfl) : PE X (.Attribute e n pos) (tFldK X.K n te) := by
  refine ⟨fun pins s σ H Q I h => attr_of hb (thn (he.run pins s σ H _ I h) ?_)⟩
  rintro u s1 ⟨x, H1, I1, rx, a, C, fs, v, rfl, hk, T, hno, l, q⟩
  cases rx
  obtain ⟨ox, od, mA, J, hl, hr⟩ := hk.inst I1
  obtain ⟨u, hu, ru⟩ := RelO.some_of (v := v) (o := mA n) (by rw [← l]; exact hr n)
  exact HandSPX.exc_get I1.kIn J T.ga T.gg T.exC (PySem.W.findObj_own T.hdC hno rfl (by rw [hl, hu])) (handed_of ru) ⟨v, H1, I1.tok _, ru, q⟩
/-- isinstance(e, c), e a kept error -/
def rIsKe (K : PySem.W.Frag) : List V → Hp → VK → Prop := fun xs H Q => ∃ (a C : Addr) (fs : List (Str × V)) (c : V) (u : Value) (b : Bool), xs = [.ref a, c] ∧ ClsV c u ∧ KeAt H a C fs ∧ KeT K C ∧ PySem.W.kitOne K (.ref C) u = some b ∧ Q (.bl b) H
theorem call_isKe {X : Cx} : CallR X (.builtin "isinstance") (rIsKe X.K) := by
  intro pins s σ H xs us Q I r h
  obtain ⟨a, C, fs, c, u, b, rfl, k, hx, T, e, q⟩ := h
  obtain ⟨u1, u2, rfl, r1, r2⟩ := vals2 r
  cases r1
  obtain rfl := k.eq r2
  obtain ⟨ox, od, _, J, _⟩ := hx.inst I
  exact PySem.W.kia_one (PySem.W.kitx_exc T.cl T.ga T.gg T.exC T.ca T.cn T.ct T.ob) I.kIn J e (fun z => nomatch z) fun tk => ⟨.bl b, H, I.kept (t' := tk) fun _ _ z => z, ⟨rfl, q⟩⟩
end KepE
namespace Sj
open PySem L2 Sup StK KepE LamX
open NdefX (NF NScope ncx envF startF nscope_by)
open C8 (pss_cut tCut)
abbrev sHeard : Stmt := top 25
abbrev nHe : List Str := ["_law_ask", "_law_caught", "error"]
/-- what the law hears of a lambda -/
def TTheard (CI : Addr) : (XK → Hp → VK → Prop) → Hp → VK → Prop := fun tl H Q => ∀ Q' : VK, (∀ v H', Q .non H' → Q' v H') →
  tl (fun cls d H' => ∃ (dd : Addr) (z : Str), cls = .ref CI ∧ d = some dd ∧ H' dd = some (.xd [("reason", .str z)]) ∧ ∀ H2, Same H' H2 → Q (.str z) H2) H Q'
structure HeT (K : PySem.W.Frag) (mg : Str → Option Value) (CI CJ : Addr) : Prop where
  mJ : mg "JoinError" = some (.ref CJ)
  mI : mg "InvalidFrame" = some (.ref CI)
  mV : mg "ValueError" = none
  isi : mg "isinstance" = none
  ex : PySem.W.exmOne K (.ref CI) (.ref CJ) = some true
  ke : KeT K CI
  no : PySem.W.findIn K (.ref CI) "reason" = some none
  ii : PySem.W.kitOne K (.ref CI) (.ref CI) = some true
  iv : PySem.W.kitOne K (.ref CI) (.type "ValueError") = some true
theorem takesLen {X : Cx} {W : WX} {n : Nat} (hn : X.N.length = n) (tk : Takes X W) : Takes X (fun cls d σ H => σ.length = n → W cls d σ H) := fun u s' ⟨a, B, sI, pins, σ, H, cls, d, e, I, nb, up, sky, na, os, ag, w⟩ =>
  tk u s' ⟨a, B, sI, pins, σ, H, cls, d, e, I, nb, up, sky, na, os, ag, w (I.len.trans hn)⟩
section
variable {X : Cx}
theorem scHe : FnScope nHe ["_law_ask"] (defScope sHeard) := ⟨rfl, rfl, rfl, by decide +kernel, rfl, by decide +kernel, by decide +kernel⟩
theorem heard_gives {g CI CJ : Addr} {cdg : Value} {q : Str} (T : HeT X.K X.mg CI CJ) : GivesTo X nHe "_law_heard" (defScope sHeard) g cdg (defBody sHeard) "_law_ask" q (TTheard CI) := by
  intro f c' s H Q tl act hc h
  refine ⟨_, pss_cons (ps_set (X := (cxOf C8.CX0 X.prog X.w X.K X.mg X.base nHe "_law_heard" (defScope sHeard) g cdg X.A X.stack s H C8.E0).nox) (i := 1) scHe.nd rfl (Or.inl rfl) pe_non)
    (pss_cons (ps_try_keep (i := 2) (j := 1) (c := .ref CJ)
      (tb := fun W D σ H => ∃ Ech : XK, (∀ cls d σ' H', Ech cls d H' → σ'.length = 3 → W cls d σ' H') ∧ σ[0]? = some (some (.ref f)) ∧ H c' = some (CodeO c' q) ∧ tl Ech H (fun _ H' => D.nx σ H'))
      rfl rfl rfl scHe.nd rfl rfl rfl rfl ⟨rfl, by decide, .inl T.mJ⟩ (fun W pn xe tk _ => ?_))
    (pss_cons (ps_if (pt_cmpR op_isN (pv 1) pe_non (nomark _)) (pss_one (ps_ret pe_non)) pss_nil)
    (pss_one (ps_ret (pe_ifExp (PW.pt (pw_and (pt_val (pe_callB call_isKe (by rfl) T.isi (by decide +kernel) (pa_cons (pv 1) (pa_cons (pe_glob rfl T.mI (v := .ref CI) rfl) pa_nil))))
        (pw_and1 (pt_val (pe_callB call_isKe (by rfl) T.isi (by decide +kernel) (pa_cons (pv 1) (pa_cons (pe_bltn (by rfl) T.mV (by decide +kernel) (v := .ty "ValueError") rfl) pa_nil))))))) (pe_fldK (pv 1)) pe_str))))), ?_⟩
  · refine ⟨fun pins s' σ H' D I h' => ?_⟩
    obtain ⟨Ech, hW, h1, h2, h3⟩ := h'
    exact (pss_one (ps_expr (act (fun cls d σ H => σ.length = 3 → W cls d σ H) pn xe Ech _ _ (takesLen rfl tk) hW))).run pins s' σ H' D I ⟨h1, h2, h3⟩
  · refine ⟨_, ?_, rfl, hc, h _ fun v H1 hq => ⟨_, rfl, rfl, _, rfl, iteT hq⟩⟩
    · rintro cls d σ' H1 ⟨dd, z, rfl, rfl, hd, k⟩ hl
      refine ⟨T.ex, fun a ha => ?_⟩
      have hs : (((σ'.set 2 (some (.ref a))).set 1 (some (.ref a))).set 2 none)[1]? = some (some (V.ref a)) := by simp [hl]
      have s1 : Same H1 (upd H1 a (Kept a (.ref CI) (some dd))) := fun b o e => by rw [upd_ne (ne_of_none e ha)]; exact e
      have hk : KeAt (upd H1 a (Kept a (.ref CI) (some dd))) a CI [("reason", .str z)] := ⟨dd, upd_same, s1 _ _ hd⟩
      refine ⟨_, hs, rfl, _, rfl, iteF ?_⟩
      refine ⟨_, hs, a, CI, _, _, _, true, rfl, .own _, hk, T.ke, T.ii, _, rfl, iteT ?_⟩
      refine ⟨_, hs, a, CI, _, _, _, true, rfl, .ty _, hk, T.ke, T.iv, _, rfl, iteT ?_⟩
      exact ⟨_, hs, a, CI, _, _, rfl, hk, T.ke, T.no, by rw [List.lookup_cons, beq_self_eq_true], k _ s1⟩
end
end Sj
namespace Sj
open PySem L2 Sup StK KepE LamX
open NdefX (NF NScope ncx envF startF nscope_by)
open C8 (pss_cut tCut)
abbrev sDrawn : Stmt := top 26
abbrev nDr : List Str := ["_law_pen_here", "_law_legs_so", "_law_wrong", "_law_odd", "_law_far", "_law_rails_so", "_law_reasons", "_law_tag", "_law_turn", "_law_k", "_law_word", "_law_is_wrong"]
theorem scDr : FnScope nDr ["_law_pen_here"] (defScope sDrawn) := ⟨rfl, rfl, rfl, by decide +kernel, rfl, by decide +kernel, by decide +kernel⟩
/-- a class of legs, made by place -/
structure MkL (P : Program) (w : World) (K : PySem.W.Frag) (mg : Str → Option Value) (base : Heap) (CI C : Addr) (nm : Str) : Prop where
  ex : ∃ (f : Addr) (fd : FuncData), Mk K C f ∧ FnOk P w K mg base (L2.CX P w) 4 f fd ["self", "name"] (spLegI K CI C) ∧ Binds K fd ["self", "name"] []
  mg : mg nm = some (.ref C)
structure DrT (P : Program) (w : World) (K : PySem.W.Frag) (mg : Str → Option Value) (base : Heap) (ks : Kinds) (CI : Addr) : Prop where
  d : MkL P w K mg base CI ks.drv "Driver"
  i : MkL P w K mg base CI ks.lis "Listener"
  l : MkL P w K mg base CI ks.leg "Leg"
  bi : Bi mg
  range : mg "range" = none
  zip : mg "zip" = none
  draw : ∃ f fd, mg "_law_draw" = some (.ref f) ∧ PySem.W.keepIn K (.ref f) = true ∧ Binds K fd ["_law_pen_here", "_law_many"] [] ∧ FnOk P w K mg base CX0 1 f fd ["_law_pen_here", "_law_many"] spDraw
  pick : ∃ f fd, mg "_law_pick" = some (.ref f) ∧ PySem.W.keepIn K (.ref f) = true ∧ Binds K fd ["_law_pen_here", "_law_some"] [] ∧ FnOk P w K mg base CX0 2 f fd ["_law_pen_here", "_law_some"] spPick
  tags : ∃ f fd, mg "_law_tags" = some (.ref f) ∧ PySem.W.keepIn K (.ref f) = true ∧ Binds K fd ["_law_pen_here", "_law_many"] [] ∧ FnOk P w K mg base CX0 2 f fd ["_law_pen_here", "_law_many"] spTags
theorem passNo {P : Program} {w : World} {X : Cx} (h1 : X.prog = P) (h2 : X.w = w) : Passes (L2.CX P w) X E0 := by
  rintro pins σ H s e s' I ⟨a, B, H', cls, d, _, _, _, _, _, _, _, z⟩
  exact z.elim
abbrev tMk (K : PySem.W.Frag) (CI C : Addr) (te : TE) : TE := tMake C (spLegI K CI C) [] E0 (tCons te tNil)
/-- a leg is made -/
theorem mk_rd {K : PySem.W.Frag} {CI C : Addr} {z : Str} {te : TE} {σ : L2.St} {H : Hp} {Q : VK} (hte : ∀ Q' : VK, Q' (.str z) H → te σ H Q') (hn : isName z = true) (hz : z.length ≤ 1000) (k : ∀ a H', H a = none → LegAt H' a C z → Same H H' → Q (.ref a) H') : tMk K CI C te σ H Q := by
  refine hte _ fun x dx hx hdx hne => ⟨x, dx, .str z, rfl, upd_same, .inl ⟨z, rfl, hz, fun _ H' hp hb => ⟨rfl, k x H' hx ⟨dx, hp⟩ fun b o e => ?_⟩, fun h => absurd hn (by rw [h]; exact Bool.false_ne_true)⟩⟩
  refine hb b o (ne_of_none e hx) ?_
  rw [upd_ne (ne_of_none e hx), upd_ne (ne_of_none e hdx)]
  exact e
def teTag (K : PySem.W.Frag) (ks : Kinds) (CI : Addr) : TE := tMk K CI ks.drv (tVar 7)
def teW : TE := tOp rEq (tCall spDraw [] E0 (tCons (tVar 0) (tCons (tC (.int 4)) tNil))) (tC (.int 0))
def teZ : TE := tOp (fun x y H Q => ∃ i j, x = .str i ∧ y = .str j ∧ i.length + j.length ≤ sizeLine ∧ Q (.str (i ++ j)) H)
  (tOp (fun x y H Q => ∃ i j, x = .str i ∧ y = .str j ∧ i.length + j.length ≤ sizeLine ∧ Q (.str (i ++ j)) H) (tC (.str "z")) (tOp rIxS (tC (.str "abcdef")) (tOp (rI CDiv fun i j => .int (i / j)) (tVar 9) (tC (.int 7)))))
  (tOp rIxS (tC (.str "stuvwxy")) (tOp (rI (fun _ j => 0 < j) fun i j => .int (i % j)) (tCB (fun xs H Q => (∃ i, xs = [.int i] ∧ Q (.int i) H) ∨ ∃ k, xs = [.bl k] ∧ Q (.int (if k then 1 else 0)) H) (tCons (tVar 9) tNil)) (tC (.int 7))))
def teLis (K : PySem.W.Frag) (ks : Kinds) (CI : Addr) : TE := tMk K CI ks.lis teZ
/-! ### small things -/
theorem LegR.ok.but {ks : Kinds} {H H' : Hp} {r : LegR} {q : Addr} {xs : List V} (h : r.ok ks H) (hq : H q = some (.lst xs)) (b : But H H' q) : r.ok ks H' := by
  obtain ⟨h1, dx, h2⟩ := h
  exact ⟨h1, dx, b _ _ (ne_of h2 hq (by intro z; cases z)) h2⟩
theorem Pen.at' {H : Hp} {p l : Addr} {cs : List Int} {n : Nat} (h : Pen H p l cs n) : ∃ xs, H p = some (.lst xs) := by
  obtain ⟨i, g, h1, _⟩ := h
  exact ⟨_, h1⟩
theorem Pen.mono {H : Hp} {p l : Addr} {cs : List Int} {n m : Nat} (h : Pen H p l cs n) (hm : n ≤ m) : Pen H p l cs m := by
  obtain ⟨i, g, h1, h2, h3, h4, h5⟩ := h
  exact ⟨i, g, h1, h2, h3, h4, by omega⟩
theorem But.same {H H1 H2 : Hp} {p : Addr} (a : But H H1 p) (s : Same H1 H2) : But H H2 p := fun b o hb e => s _ _ (a b o hb e)
theorem same_upd {H : Hp} {q : Addr} {o : HO} (h : H q = none) : Same H (upd H q o) := fun b u e => by rw [upd_ne (ne_of_none e h)]; exact e
/-- what was laid behind the entry is not the pen -/
theorem nep {H0 : Hp} {p l q : Addr} {cs : List Int} {n : Nat} (hP : Pen H0 p l cs n) (h : H0 q = none) : q ≠ p := fun e => by
  obtain ⟨xs, z⟩ := hP.at'
  rw [e, z] at h
  cases h
theorem free_but {H0 H : Hp} {p l q : Addr} {cs : List Int} {n : Nat} (hP : Pen H p l cs n) (b : But H0 H p) (h : H q = none) : H0 q = none := by
  cases e : H0 q with
  | none => rfl
  | some o =>
    have nq : q ≠ p := fun z => by
      obtain ⟨xs, w⟩ := hP.at'
      rw [z, w] at h
      cases h
    rw [b q o nq e] at h
    cases h
/-- legs made one after another: D's list -/
theorem legs_walk {ks : Kinds} {C : Addr} (hC : C = ks.drv ∨ C = ks.lis) {J : It} {n k : Nat} {G : Hp → Prop} {Y : Nat → Hp → V → Hp → Prop} (wk : Walk J n G Y) {te : TE} {σ : L2.St} {H1 : Hp} {D : Addr} {Qd : Hp → Prop} {zf : Nat → Str} (hn : n ≤ 1000) (hD : H1 D = none)
    (hw : ∀ x : V, wipe ((wipe σ [k]).set k (some x)) [k] = wipe σ [k]) (hG : ∀ H, Same H1 H → G H)
    (hs : ∀ i x H H', i < n → Same H1 H → Y i H x H' → H' = H ∧ ∀ Q : VK, (∀ a H'', H a = none → LegAt H'' a C (zf i) → Same H H'' → Q (.ref a) H'') → te ((wipe σ [k]).set k (some x)) H Q)
    (hd : ∀ H rs, names rs = (List.range n).map zf → (∀ r ∈ rs, LegR.ok ks H r) → H D = some (.lst (refs rs)) → Same H1 H → Qd H) :
    ∃ W : Nat → Nat → Hp → Prop, (∃ m, W 0 m (upd H1 D (.lst []))) ∧ ∀ i m H, W i m H →
      (J.stop i H ∧ Qd H) ∨ (J.go i H ∧ ∃ Nx : Hp → Prop, (∀ H', Nx H' → ∃ m', m' < m ∧ W (i + 1) m' H') ∧ ∀ x H', J.yld i H x H' → gName k x (wipe σ [k]) H' fun σ2 H2 => wipe σ2 [k] = wipe σ [k] ∧ tYes σ2 H2 fun b H3 =>
        if b = true then te σ2 H3 fun y H4 => ∃ acc, H4 D = some (.lst acc) ∧ acc.length < sizeLine ∧ Nx (upd H4 D (.lst (acc ++ [y]))) else Nx H3) := by
  refine lc_it wk (fun i H => ∃ rs : List LegR, names rs = (List.range i).map zf ∧ (∀ r ∈ rs, r.ok ks H) ∧ H D = some (.lst (refs rs)) ∧ Same H1 H) ⟨[], rfl, by simp, upd_same, same_upd hD⟩ (fun i H _ ⟨_, _, _, _, s⟩ => hG H s) ?_ ?_
  · rintro i x H H' hi ⟨rs, hnm, hok, hDl, s1⟩ hy
    obtain ⟨rfl, hte⟩ := hs i x H H' hi s1 hy
    refine ⟨hw x, ?_⟩
    unfold tYes
    dsimp only
    rw [if_pos rfl]
    have hl : rs.length = i := by
      have e := congrArg List.length hnm
      unfold names at e
      rw [List.length_map, List.length_map, List.length_range] at e
      exact e
    refine hte _ fun a H2 ha hleg s2 => ⟨_, s2 _ _ hDl, ?_, rs ++ [⟨a, C, zf i⟩], ?_, fun r hr => ?_, ?_, fun b o e => ?_⟩
    · unfold refs
      rw [List.length_map, hl]
      exact Nat.lt_of_lt_of_le hi (Nat.le_trans hn (by decide))
    · unfold names at hnm ⊢
      rw [List.map_append, hnm, List.range_succ, List.map_append]
      rfl
    · have hb : But H2 (upd H2 D (.lst (refs rs ++ [.ref a]))) D := .upd _ _ _
      rcases List.mem_append.mp hr with hr | hr
      · exact ((hok r hr).same s2).but (s2 _ _ hDl) hb
      · obtain rfl := List.mem_singleton.mp hr
        exact LegR.ok.but (r := ⟨a, C, zf i⟩) ⟨hC, hleg⟩ (s2 _ _ hDl) hb
    · rw [upd_same]
      unfold refs
      rw [List.map_append]
      rfl
    · rw [upd_ne (ne_of_none e hD)]
      exact s2 _ _ (s1 _ _ e)
  · rintro H ⟨rs, a, b, c, d⟩
    exact hd H rs a b c d
end Sj
namespace Sj
open PySem L2 Sup StK KepE LamX
open NdefX (NF NScope ncx envF startF nscope_by)
open C8 (pss_cut tCut)
/-- the first word, of what is wrong -/
def dueW (w0 w1 w2 w3 w4 : Bool) : V := if w0 then .str "legs" else if w1 then .str "many" else if w2 then .str "name" else if w3 then .str "top" else if w4 then .str "rails" else .non
/-- the legs that were drawn -/
def Xs (K : PySem.W.Frag) (ks : Kinds) (H : Hp) (xs : List V) (w0 w1 w2 : Bool) : Prop :=
  (w0 = true ∧ ∃ bs : List Bool, bs.length = xs.length ∧ bs.all id = false ∧ ∀ (i : Nat) (x : V) (b : Bool), xs[i]? = some x → bs[i]? = some b → IsL K ks H x b) ∨
  (w0 = false ∧ ∃ rs : List LegR, xs = refs rs ∧ (∀ r ∈ rs, r.ok ks H) ∧ (w1 = true → 40 < rs.length) ∧ (w1 = false → rs.length ≤ 5 ∧ (w2 = true → ¬ (names rs).Nodup) ∧ (w2 = false → (names rs).Nodup)))
def spDrawn (K : PySem.W.Frag) (ks : Kinds) : Sp := fun vs H Q _ => ∃ (p l : Addr) (cs : List Int) (n : Nat), vs = [.ref p] ∧ Pen H p l cs n ∧ n < 50000 ∧
  ∀ (H' : Hp) (t lq rq : Addr) (xs : List V) (T G R : V) (w0 w1 w2 w3 w4 gb pb : Bool), H' t = some (.tup [.ref lq, T, .ref rq, dueW w0 w1 w2 w3 w4]) → H' lq = some (.lst xs) → H' rq = some (.lst [G, R]) → xs.length ≤ 100 → Xs K ks H' xs w0 w1 w2 →
    TopIs K H' T (!w3) → RailIs K H' G gb → RailIs K H' R pb → (gb && pb) = (!w4) → Pen H' p l cs (n + 40) → But H H' p → Q (.ref t) H'
structure KdT (K : PySem.W.Frag) (ks : Kinds) : Prop where
  icD : IsiC K ks.drv
  icI : IsiC K ks.lis
  dd : PySem.W.kitAny K (.ref ks.drv) [.ref ks.drv, .ref ks.lis] = some true
  ii : PySem.W.kitAny K (.ref ks.lis) [.ref ks.drv, .ref ks.lis] = some true
  icL : IsiC K ks.leg
  none : PySem.W.kitAny K (.type "NoneType") [.ref ks.drv, .ref ks.lis] = some false
  str : PySem.W.kitAny K (.type "str") [.ref ks.drv, .ref ks.lis] = some false
  int : PySem.W.kitAny K (.type "int") [.ref ks.drv, .ref ks.lis] = some false
  tup : PySem.W.kitAny K (.type "tuple") [.ref ks.drv, .ref ks.lis] = some false
  leg : PySem.W.kitAny K (.ref ks.leg) [.ref ks.drv, .ref ks.lis] = some false
theorem LegR.ok.isl2 {K : PySem.W.Frag} {ks : Kinds} {H : Hp} {r : LegR} (h : r.ok ks H) (T : KdT K ks) : IsL K ks H (.ref r.a) true := by
  obtain ⟨hc, hl⟩ := h
  rcases hc with e | e
  · rw [e] at hl
    exact ⟨_, hl.ty T.icD, T.dd⟩
  · rw [e] at hl
    exact ⟨_, hl.ty T.icI, T.ii⟩
/-- what stands while the frame's parts are drawn -/
structure DS (H H' : Hp) (p l : Addr) (cs : List Int) (m : Nat) (lq wq : Addr) (xs : List V) (w0 w1 w2 w3 w4 : Bool) : Prop where
  flq : H lq = none
  fwq : H wq = none
  ne : wq ≠ lq
  hlq : H' lq = some (.lst xs)
  hwq : H' wq = some (.lst [.bl w0, .bl w1, .bl w2, .bl w3, .bl w4])
  pen : Pen H' p l cs m
  but : But H H' p
theorem five {ws : List Bool} (h : ws.length = 5) : ∃ a b c d e, ws = [a, b, c, d, e] := by
  match ws, h with
  | [a, b, c, d, e], _ => exact ⟨a, b, c, d, e, rfl⟩
/-- two legs in a list -/
theorem two_rd {K : PySem.W.Frag} {CI C1 C2 : Addr} {z1 z2 : Str} {σ : L2.St} {H : Hp} {Q : VK} (h1 : isName z1 = true) (h2 : isName z2 = true) (l1 : z1.length ≤ 1000) (l2 : z2.length ≤ 1000)
    (k : ∀ a b D H', LegAt H' a C1 z1 → LegAt H' b C2 z2 → H' D = some (.lst [.ref a, .ref b]) → Same H H' → Q (.ref D) H') : tLst (tCons (tMk K CI C1 (tC (.str z1))) (tCons (tMk K CI C2 (tC (.str z2))) tNil)) σ H Q := by
  show tMk K CI C1 (tC (.str z1)) σ H (fun v1 H1 => tMk K CI C2 (tC (.str z2)) σ H1 fun v2 H2 => 2 ≤ sizeLine ∧ ∀ p, H2 p = none → Q (.ref p) (upd H2 p (.lst [v1, v2])))
  refine mk_rd (fun Q'' q => q) h1 l1 fun a H3 ha la s3 => ?_
  refine mk_rd (fun Q'' q => q) h2 l2 fun b H4 hb lb s4 => ⟨by decide, fun D hD => ?_⟩
  have s5 := same_upd (o := .lst [.ref a, .ref b]) hD
  exact k a b D _ (la.same (s4.trans s5)) (lb.same s5) upd_same ((s3.trans s4).trans s5)
theorem LegAt.but {H H' : Hp} {a C q : Addr} {z : Str} {xs : List V} (h : LegAt H a C z) (hq : H q = some (.lst xs)) (b : But H H' q) : LegAt H' a C z := by
  obtain ⟨dx, e⟩ := h
  exact ⟨dx, b _ _ (ne_of e hq (by intro z; cases z)) e⟩
theorem tup_but {H H' : Hp} {a q : Addr} {ys xs : List V} (h : H a = some (.tup ys)) (hq : H q = some (.lst xs)) (b : But H H' q) : H' a = some (.tup ys) := b _ _ (ne_of h hq (by intro z; cases z)) h
theorem tyx_but {K : PySem.W.Frag} {H H' : Hp} {q : Addr} {ys : List V} {x : V} {t : Value} (h : TyX K H x t) (hq : H q = some (.lst ys)) (b : But H H' q) (nx : x ≠ .ref q) : TyX K H' x t := by
  have go : ∀ {a : Addr} {o : HO}, V.ref a ≠ .ref q → H a = some o → H' a = some o := fun {a o} n e => b _ _ (fun z => n (by rw [z])) e
  cases h with
  | base h =>
    refine .base ?_
    cases h with
    | non => exact .non
    | bl x => exact .bl x
    | int i => exact .int i
    | str x => exact .str x
    | flt x => exact .flt x
    | lst e => exact .lst (go nx e)
    | frz e => exact .frz (go nx e)
    | tup e => exact .tup (go nx e)
    | dK e => exact .dK (go nx e)
    | dT e => exact .dT (go nx e)
    | ins e c h1 h2 h3 h4 => exact .ins (go nx e) c h1 h2 h3 h4
  | byt b => exact .byt b
  | set e => exact .set (go nx e)
  | kList e c => exact .kList e c
  | kTuple e c => exact .kTuple e c
  | kDict e c => exact .kDict e c
  | fTuple e => exact .fTuple (go nx e)
  | fDict e => exact .fDict (go nx e)
theorem refs_ne {ks : Kinds} {H : Hp} {p l : Addr} {cs : List Int} {n : Nat} {rs : List LegR} (ok : ∀ r ∈ rs, LegR.ok ks H r) (hP : Pen H p l cs n) {x : V} (hx : x ∈ refs rs) : x ≠ .ref p := by
  obtain ⟨r, hr, rfl⟩ := List.mem_map.mp hx
  obtain ⟨_, dx, e⟩ := ok r hr
  obtain ⟨xs, hp⟩ := hP.at'
  exact fun z => ne_of e hp (by intro w; cases w) (V.ref.inj z)
theorem Xs.same {K : PySem.W.Frag} {ks : Kinds} {H H' : Hp} {xs : List V} {w0 w1 w2 : Bool} (h : Xs K ks H xs w0 w1 w2) (s : Same H H') : Xs K ks H' xs w0 w1 w2 := by
  rcases h with ⟨h0, bs, h1, h2, h3⟩ | ⟨h0, rs, h1, h2, h3⟩
  · exact .inl ⟨h0, bs, h1, h2, fun i x b e1 e2 => (h3 i x b e1 e2).same s⟩
  · exact .inr ⟨h0, rs, h1, fun r hr => (h2 r hr).same s, h3⟩
/-- no list -/
def NL (H : Hp) (x : V) : Prop := ∀ a, x = .ref a → ∃ o, H a = some o ∧ ∀ ys, o ≠ .lst ys
theorem NL.ne {H : Hp} {x : V} {q : Addr} {ys : List V} (h : NL H x) (hq : H q = some (.lst ys)) : x ≠ .ref q := fun e => by
  obtain ⟨o, h1, h2⟩ := h q e
  rw [hq] at h1
  exact h2 ys (Option.some.inj h1).symm
theorem NL.but {H H' : Hp} {x : V} {q : Addr} {ys : List V} (h : NL H x) (hq : H q = some (.lst ys)) (b : But H H' q) : NL H' x := fun a e => by
  obtain ⟨o, h1, h2⟩ := h a e
  exact ⟨o, b _ _ (fun z => h.ne hq (by rw [e, z])) h1, h2⟩
theorem NL.same {H H' : Hp} {x : V} (h : NL H x) (s : Same H H') : NL H' x := fun a e => by
  obtain ⟨o, h1, h2⟩ := h a e
  exact ⟨o, s _ _ h1, h2⟩
theorem NL.of {H : Hp} {x : V} (h : ∀ a, x ≠ .ref a) : NL H x := fun a e => absurd e (h a)
theorem NL.at' {H : Hp} {a : Addr} {o : HO} (h : H a = some o) (n : ∀ ys, o ≠ .lst ys) : NL H (.ref a) := fun b e => by
  obtain rfl := V.ref.inj e
  exact ⟨o, h, n⟩
theorem refs_nl {ks : Kinds} {H : Hp} {rs : List LegR} (ok : ∀ r ∈ rs, LegR.ok ks H r) {x : V} (hx : x ∈ refs rs) : NL H x := by
  obtain ⟨r, hr, rfl⟩ := List.mem_map.mp hx
  obtain ⟨_, dx, e⟩ := ok r hr
  exact NL.at' e fun ys z => by cases z
theorem topInr {K : PySem.W.Frag} {H : Hp} {x : V} {t : String} {m c : Bool} (ty : TyX K H x (.type t)) (h1 : kitB t "int" = some m) (h2 : kitB t "bool" = some c) (h3 : (m && !c) = false) : TopIs K H x false := .inr ⟨t, m, c, ty, h1, h2, h3, rfl⟩
theorem topInt {K : PySem.W.Frag} {H : Hp} {i : Int} {b : Bool} (h : b = (decide (1 ≤ i) && decide (i ≤ 3))) : TopIs K H (.int i) b := .inl ⟨i, rfl, h⟩
theorem IsL.but {K : PySem.W.Frag} {ks : Kinds} {H H' : Hp} {q : Addr} {ys : List V} {x : V} {b : Bool} (h : IsL K ks H x b) (hq : H q = some (.lst ys)) (bt : But H H' q) (nx : x ≠ .ref q) : IsL K ks H' x b := by
  obtain ⟨t, ty, e⟩ := h
  exact ⟨t, tyx_but ty hq bt nx, e⟩
theorem Xs.but {K : PySem.W.Frag} {ks : Kinds} {H H' : Hp} {q : Addr} {ys xs : List V} {w0 w1 w2 : Bool} (h : Xs K ks H xs w0 w1 w2) (hq : H q = some (.lst ys)) (bt : But H H' q) (nx : ∀ x ∈ xs, x ≠ .ref q) : Xs K ks H' xs w0 w1 w2 := by
  rcases h with ⟨h0, bs, h1, h2, h3⟩ | ⟨h0, rs, h1, h2, h3⟩
  · exact .inl ⟨h0, bs, h1, h2, fun i x b e1 e2 => (h3 i x b e1 e2).but hq bt (nx x (List.mem_of_getElem? e1))⟩
  · exact .inr ⟨h0, rs, h1, fun r hr => (h2 r hr).but hq bt, h3⟩
theorem railB {K : PySem.W.Frag} {H : Hp} {b : Bool} : RailIs K H (.bl b) true := ⟨"bool", .base (.bl b), by decide +kernel⟩
theorem railO {K : PySem.W.Frag} {H : Hp} {x : V} {t : String} (ty : TyX K H x (.type t)) (h : kitB t "bool" = some false) : RailIs K H x false := ⟨t, ty, h⟩
theorem and3 {A B C : Prop} (h : A ∧ B) (c : C) : A ∧ B ∧ C := ⟨h.1, h.2, c⟩
def wd5 : List Str := ["legs", "many", "name", "top", "rails"]
/-- the words of what is wrong, among the first i -/
def fltW (ws : List Bool) (i : Nat) : List V := (List.range i).filterMap fun j => if ws.getD j false = true then some (V.str (wd5.getD j "")) else none
theorem fltW_succ (ws : List Bool) (i : Nat) : fltW ws (i + 1) = fltW ws i ++ (if ws.getD i false = true then [V.str (wd5.getD i "")] else []) := by
  unfold fltW
  rw [List.range_succ, List.filterMap_append]
  congr 1
  by_cases h : ws.getD i false = true
  · rw [if_pos h]
    simp only [List.filterMap_cons, if_pos h, List.filterMap_nil]
  · rw [if_neg h]
    simp only [List.filterMap_cons, if_neg h, List.filterMap_nil]
theorem fltW_len (ws : List Bool) : ∀ i, (fltW ws i).length ≤ i
  | 0 => Nat.le_refl 0
  | i + 1 => by
    rw [fltW_succ, List.length_append]
    have := fltW_len ws i
    split
    · show (fltW ws i).length + 1 ≤ i + 1
      omega
    · show (fltW ws i).length + 0 ≤ i + 1
      omega
theorem flt_due (w0 w1 w2 w3 w4 : Bool) : atI (fltW [w0, w1, w2, w3, w4] 5 ++ [V.non]) 0 = some (dueW w0 w1 w2 w3 w4) := by
  cases w0 <;> cases w1 <;> cases w2 <;> cases w3 <;> cases w4 <;> rfl
/-- the odd things in a list -/
theorem odds_rd {K : PySem.W.Frag} {CI : Addr} {ks : Kinds} {σ : L2.St} {H : Hp} {Q : VK}
    (k : ∀ a tp D H', LegAt H' a ks.leg "zz" → H' tp = some (.tup []) → H' D = some (.lst [.non, .str "a", .ref a, .int 1, .ref tp, .str "driver a"]) → H D = none → Same H H' → Q (.ref D) H') :
    tLst (tCons (tC .non) (tCons (tC (.str "a")) (tCons (tMk K CI ks.leg (tC (.str "zz"))) (tCons (tC (.int 1)) (tCons (tTup tNil) (tCons (tC (.str "driver a")) tNil)))))) σ H Q := by
  show tMk K CI ks.leg (tC (.str "zz")) σ H (fun v1 H1 => 0 ≤ sizeLine ∧ ∀ tp, H1 tp = none → 6 ≤ sizeLine ∧ ∀ D, upd H1 tp (.tup []) D = none → Q (.ref D) (upd (upd H1 tp (.tup [])) D (.lst [.non, .str "a", v1, .int 1, .ref tp, .str "driver a"])))
  refine mk_rd (fun Q'' q => q) (by decide +kernel) (by decide +kernel) fun a H3 ha la s3 => ⟨by decide, fun tp htp => ⟨by decide, fun D hD => ?_⟩⟩
  have s4 := same_upd (o := .tup []) htp
  have s5 := same_upd (o := .lst [.non, .str "a", .ref a, .int 1, .ref tp, .str "driver a"]) hD
  exact k a tp D _ (la.same (s4.trans s5)) (s5 _ _ upd_same) upd_same ((s3.trans s4).free hD) ((s3.trans s4).trans s5)
theorem paired_idx {R : V → Bool → Prop} : ∀ {xs : List V} {bs : List Bool}, Paired R xs bs → bs.length = xs.length ∧ ∀ (i : Nat) (x : V) (b : Bool), xs[i]? = some x → bs[i]? = some b → R x b
  | _, _, .nil => ⟨rfl, fun i x b h => by simp at h⟩
  | _, _, .cons h t => by
    obtain ⟨h1, h2⟩ := paired_idx t
    refine ⟨congrArg Nat.succ h1, fun i x b e1 e2 => ?_⟩
    cases i with
    | zero =>
      obtain rfl := Option.some.inj e1
      obtain rfl := Option.some.inj e2
      exact h
    | succ i => exact h2 i x b e1 e2
theorem paired_append {R : V → Bool → Prop} : ∀ {xs ys : List V} {bs cs : List Bool}, Paired R xs bs → Paired R ys cs → Paired R (xs ++ ys) (bs ++ cs)
  | _, _, _, _, .nil, q => q
  | _, _, _, _, .cons h t, q => .cons h (paired_append t q)
theorem paired_rep {R : V → Bool → Prop} : ∀ xs : List V, (∀ x ∈ xs, R x true) → Paired R xs (List.replicate xs.length true)
  | [], _ => .nil
  | x :: xs, h => .cons (h x List.mem_cons_self) (paired_rep xs fun y hy => h y (List.mem_cons_of_mem _ hy))
def abc6 : Str := "abcdef"
def stu7 : Str := "stuvwxy"
/-- the k-th of the 41 names -/
def lisN (k : Nat) : Str := (("z" : Str) ++ ⟨#[abc6.cps.toList.getD (k / 7) 0]⟩) ++ ⟨#[stu7.cps.toList.getD (k % 7) 0]⟩
theorem lis_all : (List.range 41).all (fun k => decide (atI abc6.cps.toList ((0 + (k : Int)) / 7) = some (abc6.cps.toList.getD (k / 7) 0)) && decide (atI stu7.cps.toList ((0 + (k : Int)) % 7) = some (stu7.cps.toList.getD (k % 7) 0)) && isName (lisN k) && decide ((lisN k).length ≤ 1000)) = true := by decide +kernel
theorem lis_ok {k : Nat} (h : k < 41) : atI abc6.cps.toList ((0 + (k : Int)) / 7) = some (abc6.cps.toList.getD (k / 7) 0) ∧ atI stu7.cps.toList ((0 + (k : Int)) % 7) = some (stu7.cps.toList.getD (k % 7) 0) ∧ isName (lisN k) = true ∧ (lisN k).length ≤ 1000 := by
  have q := List.all_eq_true.mp lis_all k (List.mem_range.mpr h)
  simp only [Bool.and_eq_true, decide_eq_true_eq] at q
  obtain ⟨⟨⟨a, b⟩, c⟩, d⟩ := q
  exact ⟨a, b, c, d⟩
abbrev stD (p : Addr) (a b c d e f : Option V) : L2.St := [some (.ref p), a, b, c, d, e, f, none, none, none, none, none]
section
variable {P : Program} {w : World} {K : PySem.W.Frag} {mg : Str → Option Value} {base : Heap}
theorem body_dr {f CI : Addr} {ks : Kinds} (T : DrT P w K mg base ks CI) (KT : KdT K ks) (cdv : Value) (A : Around) (outer : List Env) (s : Shared) (H : Hp) (vs : List V) (Q : VK) (E : XK) (hr : Room 5 (A.deeper (PyProof.Rows.envOfC "_law_drawn" (defScope sDrawn) s.heap.objs.size f cdv)))
    (h : spDrawn K ks vs H Q E) : ∃ t, PSs (cxOf CX0 P w K mg base nDr "_law_drawn" (defScope sDrawn) f cdv A outer s H E).nox (defBody sDrawn) t ∧ t { nx := fun _ H' => Q .non H', rt := Q } (start nDr vs) H := by
  obtain ⟨⟨fD, fdD, MD, GD, bD⟩, mD⟩ := T.d
  obtain ⟨⟨fI, fdI, MI, GI, bI⟩, mI⟩ := T.i
  obtain ⟨⟨fL, fdL, ML, GL, bL⟩, mL⟩ := T.l
  obtain ⟨fd, fdd, md, kd, bd, Gd⟩ := T.draw
  obtain ⟨fp, fdp, mp, kp, bp, Gp⟩ := T.pick
  obtain ⟨ft, fdt, mt, kt, bt, Gt⟩ := T.tags
  have hr1 := hr.mono (show 1 ≤ 5 by decide)
  have hr2 := hr.mono (show 2 ≤ 5 by decide)
  obtain ⟨p, l, cs, n, rfl, hP, hn, k⟩ := h
  refine ⟨_, pss_cut (ps_setLc (i := 1) (te := teTag K ks CI) (own := [("_law_tag", 7)]) (g := gName 7) (tt := tYes) rfl scDr.nd rfl rfl rfl
        (pi_list (pe_call Gt hr2 rfl mt kt bt .nil pass0 (pa_cons (pv 0) (pa_cons (pe_call Gd hr1 rfl md kd bd .nil pass0 (pa_cons (pv 0) (pa_cons pe_int pa_nil))) pa_nil))))
        (blkOk_by (N := nDr) (sc := defScope sDrawn) (by decide +kernel)) (fun _ _ _ _ _ => pg_name (i := 7) scDr.nd rfl (Or.inl rfl)) (fun _ _ _ _ _ => pts_nil)
        (fun _ _ _ _ _ => pe_make MD GD hr rfl mD bD .nil (passNo rfl rfl) (pa_cons (pv 7) pa_nil)))
    (pss_cut (ps_setLc (i := 2) (te := teW) (own := [("_law_turn", 8)]) (g := gName 8) (tt := tYes) rfl scDr.nd rfl rfl rfl (pi_range1 rfl T.range (pa_cons pe_int pa_nil))
        (blkOk_by (N := nDr) (sc := defScope sDrawn) (by decide +kernel)) (fun _ _ _ _ _ => pg_name (i := 8) scDr.nd rfl (Or.inl rfl)) (fun _ _ _ _ _ => pts_nil)
        (fun _ _ _ _ _ => pe_cmpR op_eq (pe_call Gd hr1 rfl md kd bd .nil pass0 (pa_cons (pv 0) (pa_cons pe_int pa_nil))) pe_int (nomark _)))
    (pss_cut (ps_if (pt_val (pe_ix ix_list (pv 2) pe_int (fun _ _ => rfl)))
        (pss_one (ps_set (i := 1) scDr.nd rfl (Or.inl rfl) (pe_op op_cat (pv 1) (pe_lc (te := teLis K ks CI) (own := [("_law_k", 9)]) (g := gName 9) (tt := tYes) rfl scDr.nd (pi_range1 rfl T.range (pa_cons pe_int pa_nil))
          (blkOk_by (N := nDr) (sc := defScope sDrawn) (by decide +kernel)) (fun _ _ _ _ _ => pg_name (i := 9) scDr.nd rfl (Or.inl rfl)) (fun _ _ _ _ _ => pts_nil)
          (fun _ _ _ _ _ => pe_make MI GI hr rfl mI bI .nil (passNo rfl rfl) (pa_cons (pe_op op_add_str (pe_op op_add_str pe_str (pe_ix ix_str pe_str (pe_op op_fdiv (pv 9) pe_int) (fun _ _ => rfl)))
            (pe_ix ix_str pe_str (pe_op op_mod (pe_callTy call_int1 (by rfl) T.bi.int (by decide +kernel) (pa_cons (pv 9) pa_nil)) pe_int) (fun _ _ => rfl))) pa_nil)))))) pss_nil)
    (pss_cut (ps_if (pt_val (pe_ix ix_list (pv 2) pe_int (fun _ _ => rfl)))
        (pss_one (ps_set (i := 1) scDr.nd rfl (Or.inl rfl) (pe_op op_cat (pv 1) (pe_lst (pa_cons (pe_make MD GD hr rfl mD bD .nil (passNo rfl rfl) (pa_cons pe_str pa_nil)) (pa_cons (pe_make MI GI hr rfl mI bI .nil (passNo rfl rfl) (pa_cons pe_str pa_nil)) pa_nil)))))) pss_nil)
    (pss_cut (ps_if (pt_val (pe_ix ix_list (pv 2) pe_int (fun _ _ => rfl)))
        (pss_cons (ps_set (i := 3) scDr.nd rfl (Or.inl rfl) (pe_call Gp hr2 rfl mp kp bp .nil pass0 (pa_cons (pv 0) (pa_cons (pe_lst (pa_cons pe_non (pa_cons pe_str (pa_cons (pe_make ML GL hr rfl mL bL .nil (passNo rfl rfl) (pa_cons pe_str pa_nil)) (pa_cons pe_int (pa_cons (pe_tup pa_nil) (pa_cons pe_str pa_nil))))))) pa_nil))))
        (pss_one (ps_expr (pe_bm PySem.F.plainAttrs_list PySem.F.slot_list_insert PySem.F.type_list_insert mt_insert (pv 1) (pa_cons (pe_call Gd hr1 rfl md kd bd .nil pass0 (pa_cons (pv 0) (pa_cons (pe_op op_add (pe_callB call_len_seq (by rfl) T.bi.len PySem.boot_len (pa_cons (pv 1) pa_nil)) pe_int) pa_nil))) (pa_cons (pv 3) pa_nil)))))) pss_nil)
    (pss_cut (ps_set (i := 4) scDr.nd rfl (Or.inl rfl) (pe_ifExp (pt_val (pe_ix ix_list (pv 2) pe_int (fun _ _ => rfl)))
        (pe_call Gp hr2 rfl mp kp bp .nil pass0 (pa_cons (pv 0) (pa_cons (pe_lst (pa_cons pe_int (pa_cons pe_int (pa_cons (pe_un un_neg pe_int) (pa_cons pe_bl (pa_cons pe_non (pa_cons pe_str (pa_cons (pe_tup (pa_cons pe_int pa_nil)) (pa_cons (pe_op op_pow pe_int pe_int) pa_nil))))))))) pa_nil)))
        (pe_op op_add pe_int (pe_call Gd hr1 rfl md kd bd .nil pass0 (pa_cons (pv 0) (pa_cons pe_int pa_nil))))))
    (pss_cut (ps_set (i := 5) scDr.nd rfl (Or.inl rfl) (pe_lst (pa_cons (pe_cmpR op_eq (pe_call Gd hr1 rfl md kd bd .nil pass0 (pa_cons (pv 0) (pa_cons pe_int pa_nil))) pe_int (nomark _))
        (pa_cons (pe_cmpR op_eq (pe_call Gd hr1 rfl md kd bd .nil pass0 (pa_cons (pv 0) (pa_cons pe_int pa_nil))) pe_int (nomark _)) pa_nil))))
    (pss_cut (ps_if (pt_val (pe_ix ix_list (pv 2) pe_int (fun _ _ => rfl)))
        (pss_one (ps_asg (pe_call Gp hr2 rfl mp kp bp .nil pass0 (pa_cons (pv 0) (pa_cons (pe_lst (pa_cons pe_int (pa_cons pe_int (pa_cons pe_non (pa_cons pe_str (pa_cons pe_str (pa_cons (pe_tup pa_nil) (pa_cons (pe_lst pa_nil) pa_nil)))))))) pa_nil)))
          (pg_sub (pv 5) (pe_call Gd hr1 rfl md kd bd .nil pass0 (pa_cons (pv 0) (pa_cons pe_int pa_nil))) set_list))) pss_nil)
    (pss_cut (ps_setLc (i := 6) (te := tVar 10) (own := [("_law_word", 10), ("_law_is_wrong", 11)]) (g := gTup K 2 (gCons (gName 10) (gCons (gName 11) gNil))) (tt := tB (tVar 11)) rfl scDr.nd rfl rfl rfl
        (pi_zip rfl T.zip (pa_cons (pe_lst (pa_cons pe_str (pa_cons pe_str (pa_cons pe_str (pa_cons pe_str (pa_cons pe_str pa_nil)))))) (pa_cons (pv 2) pa_nil)))
        (blkOk_by (N := nDr) (sc := defScope sDrawn) (by decide +kernel)) (fun _ _ _ _ _ => pg_tup rfl (pgs_cons (pg_name (i := 10) scDr.nd rfl (Or.inl rfl)) (pgs_cons (pg_name (i := 11) scDr.nd rfl (Or.inl rfl)) pgs_nil))) (fun _ _ _ _ _ => pts_one (pt_val (pv 11)))
        (fun _ _ _ _ _ => pv 10))
    (pss_one (ps_ret (pe_tup (pa_cons (pv 1) (pa_cons (pv 4) (pa_cons (pv 5) (pa_cons (pe_ix ix_list (pe_op op_cat (pv 6) (pe_lst (pa_cons pe_non pa_nil))) pe_int (fun _ _ => rfl)) pa_nil))))))))))))))), ?_⟩
  -- the drivers
  refine ⟨fun σ H' => ∃ (lq : Addr) (rs : List LegR), σ = stD p (some (.ref lq)) none none none none none ∧ H lq = none ∧ H' lq = some (.lst (refs rs)) ∧ (∀ r ∈ rs, r.ok ks H') ∧ rs.length ≤ 3 ∧ (names rs).Nodup ∧ Pen H' p l cs (n + 4) ∧ But H H' p, ?_, ?_⟩
  · refine ⟨_, rfl, _, rfl, p, l, cs, n, 4, rfl, hP, by decide, by decide, by omega, fun d i g H1 d0 d1 i0 i1 hp b => ?_⟩
    obtain ⟨m, rfl⟩ : ∃ m : Nat, d = m := ⟨d.toNat, by omega⟩
    refine ⟨p, l, cs, n + 1, m, rfl, hP.next i0 i1 hp b, by omega, by omega, fun H2 q xs rest hq0 hq hlen hperm hP2 b2 => ⟨q, rfl, ⟨_, SqL.of hq⟩, fun D hD => ?_⟩⟩
    have hnd : xs.Nodup := (List.nodup_append.mp (hperm.nodup_iff.mpr (by decide +kernel : poolS.Nodup))).1
    have hin : ∀ z ∈ xs, isName z = true ∧ z.length ≤ 1000 := fun z hz => by
      have h1 : z ∈ poolS := hperm.mem_iff.mp (List.mem_append_left _ hz)
      have h2 : poolS.all (fun z => isName z && decide (z.length ≤ 1000)) = true := by decide +kernel
      have h3 := List.all_eq_true.mp h2 z h1
      rw [Bool.and_eq_true, decide_eq_true_eq] at h3
      exact h3
    subst hlen
    have hxl : (xs.map V.str).length = xs.length := List.length_map V.str
    have h3 : xs.length ≤ 3 := by omega
    refine legs_walk (C := ks.drv) (.inl rfl) (walk_list (K := K) (a := q) (xs := xs.map V.str)) (k := 7) (zf := fun i => xs.getD i "") (by rw [hxl]; omega) hD (fun x => rfl) (fun H' s' => SqL.of (s' _ _ hq)) ?_ ?_
    · rintro i x H3 H4 hi s3 ⟨rfl, hx⟩
      refine ⟨rfl, fun Q' k' => ?_⟩
      rw [List.length_map] at hi
      have e1 : (xs.map V.str)[i]? = some (.str xs[i]) := by rw [List.getElem?_map, List.getElem?_eq_getElem hi]; rfl
      rw [e1] at hx
      obtain rfl := Option.some.inj hx
      have e2 : xs.getD i "" = xs[i] := by rw [List.getD_eq_getElem?_getD, List.getElem?_eq_getElem hi]; rfl
      obtain ⟨g1, g2⟩ := hin xs[i] (List.getElem_mem hi)
      rw [e2] at k'
      exact mk_rd (fun Q'' q => ⟨_, rfl, q⟩) g1 g2 k'
    · intro H3 rs hnm hok hDl s3
      have hnx : names rs = xs := by
        rw [hnm]
        refine List.ext_getElem (by simp) fun i h1 h2 => ?_
        simp only [List.getElem_map, List.getElem_range]
        rw [List.getD_eq_getElem?_getD, List.getElem?_eq_getElem h2]
        rfl
      have hrl : rs.length = xs.length := by
        have e := congrArg List.length hnx
        unfold names at e
        rw [List.length_map] at e
        exact e
      have hb : But H H3 p := (b.trans b2).same s3
      refine ⟨D, rs, rfl, free_but hP2 (b.trans b2) hD, hDl, hok, by rw [hrl]; exact h3, by rw [hnx]; exact hnd, Pen.mono (hP2.same s3) (by omega), hb⟩
  -- what is wrong
  rintro σ1 HA ⟨lq, rs, rfl, flq, hlq, hok, hlen, hnd, hPA, bA⟩
  have nlqp : lq ≠ p := nep hP flq
  refine ⟨fun σ H' => ∃ (wq : Addr) (w0 w1 w2 w3 w4 : Bool), σ = stD p (some (.ref lq)) (some (.ref wq)) none none none none ∧ DS H H' p l cs (n + 9) lq wq (refs rs) w0 w1 w2 w3 w4 ∧ ∀ r ∈ rs, r.ok ks H', ?_, ?_⟩
  · refine ⟨5, rfl, by decide, by decide, fun D hD => ?_⟩
    have fD := free_but hPA bA hD
    have nDp : D ≠ p := nep hP fD
    have nlD : D ≠ lq := fun e => by rw [e, hlq] at hD; cases hD
    refine lc_range (n := 5) (fun i H' => ∃ ws : List Bool, ws.length = i ∧ H' D = some (.lst (ws.map V.bl)) ∧ H' lq = some (.lst (refs rs)) ∧ (∀ r ∈ rs, r.ok ks H') ∧ Pen H' p l cs (n + 4 + i) ∧ But H H' p) ?_ ?_ ?_
    · have s1 := same_upd (o := .lst []) hD
      exact ⟨[], rfl, upd_same, s1 _ _ hlq, fun r hr => (hok r hr).same s1, hPA.same s1, bA.same s1⟩
    · rintro i H3 hi ⟨ws, hwl, hD3, hl3, ok3, hP3, b3⟩
      refine ⟨rfl, ?_⟩
      unfold tYes
      dsimp only
      rw [if_pos rfl]
      refine ⟨_, rfl, p, l, cs, n + 4 + i, 4, rfl, hP3, by decide, by decide, by omega, fun d ii g H4 d0 d1 i0 i1 hp4 b4 => ?_⟩
      have hP4 := hP3.next i0 i1 hp4 b4
      obtain ⟨xsp, hxp⟩ := hP3.at'
      refine ⟨rfl, ws.map V.bl, b4 _ _ nDp hD3, ?_, ws ++ [decide (V.int d = V.int 0)], ?_, ?_, ?_, ?_, ?_, ?_⟩
      · rw [List.length_map, hwl]
        exact Nat.lt_of_lt_of_le hi (by decide)
      · rw [List.length_append, hwl]
        rfl
      · rw [upd_same, List.map_append]
        rfl
      · rw [upd_ne (Ne.symm nlD)]
        exact b4 _ _ nlqp hl3
      · exact fun r hr => ((ok3 r hr).but hxp b4).but (b4 _ _ nDp hD3) (.upd _ _ _)
      · obtain ⟨ia, ga, h1, h2, h3⟩ := hP4
        have nDl : D ≠ l := fun e => by
          obtain ⟨_, _, _, z, _⟩ := hPA
          rw [e] at hD
          rw [hD] at z
          cases z
        refine ⟨ia, ga, ?_, ?_, h3⟩
        · rw [upd_ne (Ne.symm nDp)]; exact h1
        · rw [upd_ne (Ne.symm nDl)]; exact h2
      · intro b o hb e
        rw [upd_ne (ne_of_none e fD)]
        exact b4 _ _ hb (b3 _ _ hb e)
    · rintro H3 ⟨ws, hwl, hD3, hl3, ok3, hP3, b3⟩
      obtain ⟨a, b, c, d, e, rfl⟩ := five hwl
      exact ⟨D, a, b, c, d, e, rfl, ⟨flq, fD, nlD, hl3, hD3, hP3, b3⟩, ok3⟩
  -- 41 listeners
  rintro σ2 HB ⟨wq, w0, w1, w2, w3, w4, rfl, dB, okB⟩
  refine ⟨fun σ H' => ∃ (lq : Addr) (rs : List LegR), σ = stD p (some (.ref lq)) (some (.ref wq)) none none none none ∧ DS H H' p l cs (n + 9) lq wq (refs rs) w0 w1 w2 w3 w4 ∧ (∀ r ∈ rs, r.ok ks H') ∧ rs.length ≤ 50 ∧ (w1 = true → 40 < rs.length) ∧ (w1 = false → rs.length ≤ 3 ∧ (names rs).Nodup), ?_, ?_⟩
  · refine ⟨_, rfl, wq, _, 1, .bl w1, rfl, rfl, SqL.of dB.hwq, rfl, w1, rfl, ?_⟩
    cases w1 with
    | false => exact iteF ⟨lq, rs, rfl, dB, okB, by omega, fun z => Bool.noConfusion z, fun _ => ⟨hlen, hnd⟩⟩
    | true =>
      refine iteT ⟨_, rfl, 41, rfl, by decide, by decide, fun D hD => ?_⟩
      have fD := free_but dB.pen dB.but hD
      refine legs_walk (C := ks.lis) (.inr rfl) (walk_range (lo := 0) (n := 41)) (k := 9) (zf := lisN) (by decide) hD (fun x => rfl) (fun _ _ => True.intro) ?_ ?_
      · rintro i x H3 H4 hi s3 ⟨rfl, rfl⟩
        refine ⟨rfl, fun Q' k' => ?_⟩
        obtain ⟨g1, g2, g3, g4⟩ := lis_ok hi
        refine mk_rd (fun Q'' q => ?_) g3 g4 k'
        refine ⟨_, rfl, _, _, rfl, rfl, ⟨by decide, by decide⟩, _, _, _, rfl, rfl, (by decide +kernel), g1, _, _, rfl, rfl, (by show 1 + 1 ≤ sizeLine; decide), _, rfl, .inl ⟨_, rfl, _, _, rfl, rfl, (by show (0 : Int) < 7; decide), _, _, _, rfl, rfl, (by decide +kernel), g2, _, _, rfl, rfl, ?_, q⟩⟩
        show 1 + 1 + 1 ≤ sizeLine
        decide
      · intro H3 rs2 hnm ok2 hDl s3
        have hl2 : rs2.length = 41 := by
          have e := congrArg List.length hnm
          unfold names at e
          rw [List.length_map, List.length_map, List.length_range] at e
          exact e
        have hlq3 := s3 _ _ dB.hlq
        refine ⟨lq, D, _, _, rfl, rfl, hlq3, hDl, ?_, fun q hq => ?_⟩
        · unfold refs
          rw [List.length_map, List.length_map, hl2]
          exact Nat.le_trans (show rs.length + 41 ≤ 44 by omega) (by decide)
        have s4 := same_upd (o := .lst (refs rs ++ refs rs2)) hq
        have s34 := s3.trans s4
        have bC : But H (upd H3 q (.lst (refs rs ++ refs rs2))) p := dB.but.same s34
        have nwq : wq ≠ q := fun e => by rw [← e, s3 _ _ dB.hwq] at hq; cases hq
        have fq : H q = none := free_but (dB.pen.same s3) (dB.but.same s3) hq
        refine ⟨q, rs ++ rs2, rfl, ⟨fq, dB.fwq, nwq, ?_, s34 _ _ dB.hwq, dB.pen.same s34, bC⟩, fun r hr => ?_, ?_, fun _ => ?_, fun z => Bool.noConfusion z⟩
        · rw [upd_same]
          unfold refs
          rw [List.map_append]
        · rcases List.mem_append.mp hr with hr | hr
          · exact (okB r hr).same s34
          · exact (ok2 r hr).same s4
        · rw [List.length_append, hl2]
          omega
        · rw [List.length_append, hl2]
          omega
  -- a name twice
  rintro σ3 HC ⟨lq2, rs2, rfl, dC, okC, len2, many2, few2⟩
  refine ⟨fun σ H' => ∃ (lq : Addr) (rs : List LegR), σ = stD p (some (.ref lq)) (some (.ref wq)) none none none none ∧ DS H H' p l cs (n + 9) lq wq (refs rs) w0 w1 w2 w3 w4 ∧ (∀ r ∈ rs, r.ok ks H') ∧ rs.length ≤ 60 ∧ (w1 = true → 40 < rs.length) ∧ (w1 = false → rs.length ≤ 5 ∧ (w2 = true → ¬ (names rs).Nodup) ∧ (w2 = false → (names rs).Nodup)), ?_, ?_⟩
  · refine ⟨_, rfl, wq, _, 2, .bl w2, rfl, rfl, SqL.of dC.hwq, rfl, w2, rfl, ?_⟩
    cases w2 with
    | false => exact iteF ⟨lq2, rs2, rfl, dC, okC, by omega, many2, fun z => ⟨by have := (few2 z).1; omega, fun z => Bool.noConfusion z, fun _ => (few2 z).2⟩⟩
    | true =>
      refine iteT ⟨_, rfl, ?_⟩
      refine two_rd (K := K) (CI := CI) (by decide +kernel) (by decide +kernel) (by decide +kernel) (by decide +kernel) fun a b D H5 la lb hDl s35 => ?_
      refine ⟨lq2, D, _, _, rfl, rfl, s35 _ _ dC.hlq, hDl, ?_, fun q hq => ?_⟩
      · unfold refs
        rw [List.length_map]
        exact Nat.le_trans (show rs2.length + 2 ≤ 100 by omega) (by decide)
      have s6 := same_upd (o := .lst (refs rs2 ++ [.ref a, .ref b])) hq
      have s36 := s35.trans s6
      have nwq : wq ≠ q := fun e => by rw [← e, s35 _ _ dC.hwq] at hq; cases hq
      have fq : H q = none := free_but (dC.pen.same s35) (dC.but.same s35) hq
      have hnm : names (rs2 ++ [⟨a, ks.drv, "double"⟩, ⟨b, ks.lis, "double"⟩]) = names rs2 ++ ([("double" : Str), "double"] : List Str) := by
        unfold names
        rw [List.map_append]
        rfl
      refine ⟨q, rs2 ++ [⟨a, ks.drv, "double"⟩, ⟨b, ks.lis, "double"⟩], rfl, ⟨fq, dC.fwq, nwq, ?_, s36 _ _ dC.hwq, dC.pen.same s36, dC.but.same s36⟩, fun r hr => ?_, ?_, fun z => ?_, fun z => ⟨?_, fun _ => ?_, fun z => Bool.noConfusion z⟩⟩
      · rw [upd_same]
        unfold refs
        rw [List.map_append]
        rfl
      · rcases List.mem_append.mp hr with hr | hr
        · exact (okC r hr).same s36
        · rcases List.mem_cons.mp hr with rfl | hr
          · exact LegR.ok.same (r := ⟨a, ks.drv, "double"⟩) ⟨.inl rfl, la⟩ s6
          · obtain rfl := List.mem_singleton.mp hr
            exact LegR.ok.same (r := ⟨b, ks.lis, "double"⟩) ⟨.inr rfl, lb⟩ s6
      · rw [List.length_append]
        show rs2.length + 2 ≤ 60
        omega
      · rw [List.length_append]
        have := many2 z
        omega
      · rw [List.length_append]
        have := (few2 z).1
        show rs2.length + 2 ≤ 5
        omega
      · rw [hnm]
        intro h
        have h2 := (List.nodup_append.mp h).2.1
        exact absurd h2 (by decide +kernel)
  -- something that is no leg
  rintro σ4 HD ⟨lq3, rs3, rfl, dD, okD, len3, many3, few3⟩
  refine ⟨fun σ H' => ∃ (lq : Addr) (xs : List V) (o3 : Option V), σ = stD p (some (.ref lq)) (some (.ref wq)) o3 none none none ∧ DS H H' p l cs (n + 11) lq wq xs w0 w1 w2 w3 w4 ∧ xs.length ≤ 100 ∧ Xs K ks H' xs w0 w1 w2 ∧ ∀ x ∈ xs, NL H' x, ?_, ?_⟩
  · refine ⟨_, rfl, wq, _, 0, .bl w0, rfl, rfl, SqL.of dD.hwq, rfl, w0, rfl, ?_⟩
    have hrl : (refs rs3).length = rs3.length := by unfold refs; rw [List.length_map]
    cases w0 with
    | false => exact iteF ⟨lq3, refs rs3, none, rfl, ⟨dD.flq, dD.fwq, dD.ne, dD.hlq, dD.hwq, dD.pen.mono (by omega), dD.but⟩, by rw [hrl]; omega, .inr ⟨rfl, rs3, rfl, okD, many3, few3⟩, fun y hy => refs_nl okD hy⟩
    | true =>
      refine iteT ⟨_, rfl, ?_⟩
      refine odds_rd (K := K) (CI := CI) (ks := ks) fun a tp D H3 la htp hDl fDD s3 => ?_
      have fD := free_but dD.pen dD.but fDD
      have nDp : D ≠ p := nep hP fD
      have hP3 := dD.pen.same s3
      refine ⟨p, l, D, cs, n + 9, _, rfl, hP3, hDl, nDp, Nat.succ_pos _, by show 6 < 1000; decide, by omega, fun j x H4 hx hP4 b4 => ?_⟩
      have nlp : lq3 ≠ p := nep hP dD.flq
      have nwp : wq ≠ p := nep hP dD.fwq
      have hlq4 := b4 _ _ nlp (s3 _ _ dD.hlq)
      have hwq4 := b4 _ _ nwp (s3 _ _ dD.hwq)
      refine ⟨_, rfl, .inl ⟨rfl, _, SqL.of hlq4⟩, _, rfl, _, rfl, lq3, _, rfl, .inl (SqL.of hlq4), _, _, rfl, rfl, p, l, cs, n + 10, _, rfl, hP4, by omega, ?_, by omega, fun d i g H5 d0 d1 i0 i1 hp5 b5 => ?_⟩
      · rw [hrl]
        omega
      have hP5 := hP4.next i0 i1 hp5 b5
      have hlq5 := b5 _ _ nlp hlq4
      have hwq5 := b5 _ _ nwp hwq4
      refine ⟨_, rfl, lq3, _, d, x, rfl, rfl, hlq5, ?_, d0, ?_, ?_⟩
      · rw [hrl]
        exact Nat.lt_of_le_of_lt len3 (by decide)
      · rw [hrl] at d1
        omega
      obtain ⟨xsp3, hxp3⟩ := hP3.at'
      obtain ⟨xsp4, hxp4⟩ := hP4.at'
      have s0 : But HD H5 p := fun b o hb e => b5 _ _ hb (b4 _ _ hb (s3 _ _ e))
      have hput : ∀ (o : HO), But H5 (upd H5 lq3 o) lq3 := fun o => .upd _ _ _
      have okE : ∀ r ∈ rs3, r.ok ks (upd H5 lq3 (.lst ((refs rs3).take d.toNat ++ [x] ++ (refs rs3).drop d.toNat))) := fun r hr => ((((okD r hr).same s3).but hxp3 b4).but hxp4 b5).but hlq5 (hput _)
      have la6 := ((LegAt.but la hxp3 b4).but hxp4 b5).but hlq5 (hput (.lst ((refs rs3).take d.toNat ++ [x] ++ (refs rs3).drop d.toNat)))
      have tp6 := tup_but (tup_but (tup_but htp hxp3 b4) hxp4 b5) hlq5 (hput (.lst ((refs rs3).take d.toNat ++ [x] ++ (refs rs3).drop d.toNat)))
      refine ⟨lq3, _, _, rfl, ⟨dD.flq, dD.fwq, dD.ne, upd_same, ?_, ?_, ?_⟩, ?_, .inl ⟨rfl, ?_⟩, ?_⟩
      · rw [upd_ne dD.ne]
        exact hwq5
      · obtain ⟨ia, ga, h1, h2, h3⟩ := hP5
        have nll : lq3 ≠ l := fun e => by
          obtain ⟨_, _, _, z, _⟩ := hP
          have f := dD.flq
          rw [e, z] at f
          cases f
        exact ⟨ia, ga, by rw [upd_ne (Ne.symm nlp)]; exact h1, by rw [upd_ne (Ne.symm nll)]; exact h2, h3⟩
      · intro b o hb e
        rw [upd_ne (ne_of_none e dD.flq)]
        exact s0 _ _ hb (dD.but _ _ hb e)
      · rw [List.length_append, List.length_append, List.length_take, List.length_drop, hrl]
        show min d.toNat rs3.length + 1 + (rs3.length - d.toNat) ≤ 100
        omega
      · have tt : ∀ ys : List V, (∀ y ∈ ys, y ∈ refs rs3) → ∀ y ∈ ys, IsL K ks (upd H5 lq3 (.lst ((refs rs3).take d.toNat ++ [x] ++ (refs rs3).drop d.toNat))) y true := fun ys h y hy => by
          obtain ⟨r, hr, rfl⟩ := List.mem_map.mp (h y hy)
          exact (okE r hr).isl2 KT
        have hodd : IsL K ks (upd H5 lq3 (.lst ((refs rs3).take d.toNat ++ [x] ++ (refs rs3).drop d.toNat))) x false := by
          clear k
          match j, hx with
          | 0, hx => obtain rfl := Option.some.inj hx; exact ⟨_, .base .non, KT.none⟩
          | 1, hx => obtain rfl := Option.some.inj hx; exact ⟨_, .base (.str _), KT.str⟩
          | 2, hx => obtain rfl := Option.some.inj hx; exact ⟨_, la6.ty KT.icL, KT.leg⟩
          | 3, hx => obtain rfl := Option.some.inj hx; exact ⟨_, .base (.int _), KT.int⟩
          | 4, hx => obtain rfl := Option.some.inj hx; exact ⟨_, .base (.tup tp6), KT.tup⟩
          | 5, hx => obtain rfl := Option.some.inj hx; exact ⟨_, .base (.str _), KT.str⟩
          | j + 6, hx => cases hx
        have pr := paired_append (paired_append (paired_rep ((refs rs3).take d.toNat) (tt _ fun y hy => List.mem_of_mem_take hy)) (.cons hodd .nil)) (paired_rep ((refs rs3).drop d.toNat) (tt _ fun y hy => List.mem_of_mem_drop hy))
        obtain ⟨q1, q2⟩ := paired_idx pr
        exact ⟨_, q1, by simp, q2⟩
      · intro y hy
        rcases List.mem_append.mp hy with hy | hy
        · rcases List.mem_append.mp hy with hy | hy
          · exact refs_nl okE (List.mem_of_mem_take hy)
          · obtain rfl := List.mem_singleton.mp hy
            obtain ⟨dx, ela⟩ := id la6
            clear k
            match j, hx with
            | 0, hx => obtain rfl := Option.some.inj hx; exact NL.of fun a z => V.noConfusion z
            | 1, hx => obtain rfl := Option.some.inj hx; exact NL.of fun a z => V.noConfusion z
            | 2, hx => obtain rfl := Option.some.inj hx; exact NL.at' ela fun ys z => by cases z
            | 3, hx => obtain rfl := Option.some.inj hx; exact NL.of fun a z => V.noConfusion z
            | 4, hx => obtain rfl := Option.some.inj hx; exact NL.at' tp6 fun ys z => by cases z
            | 5, hx => obtain rfl := Option.some.inj hx; exact NL.of fun a z => V.noConfusion z
            | j + 6, hx => cases hx
        · exact refs_nl okE (List.mem_of_mem_drop hy)
  -- the top level
  rintro σ5 HE ⟨lq4, xs, o3, rfl, dE, lenE, xE, nE⟩
  have nlp : lq4 ≠ p := nep hP dE.flq
  have nwp : wq ≠ p := nep hP dE.fwq
  refine ⟨fun σ H' => ∃ (TT : V), σ = stD p (some (.ref lq4)) (some (.ref wq)) o3 (some TT) none none ∧ DS H H' p l cs (n + 12) lq4 wq xs w0 w1 w2 w3 w4 ∧ Xs K ks H' xs w0 w1 w2 ∧ TopIs K H' TT (!w3) ∧ NL H' TT ∧ ∀ x ∈ xs, NL H' x, ?_, ?_⟩
  · refine ⟨_, rfl, wq, _, 3, .bl w3, rfl, rfl, SqL.of dE.hwq, rfl, w3, rfl, ?_⟩
    obtain ⟨xsp, hxp⟩ := dE.pen.at'
    cases w3 with
    | false =>
      refine iteF ⟨_, rfl, p, l, cs, n + 11, 3, rfl, dE.pen, by decide, by decide, by omega, fun d i g H4 d0 d1 i0 i1 hp4 b4 => ?_⟩
      refine ⟨_, _, rfl, rfl, _, rfl, ⟨dE.flq, dE.fwq, dE.ne, b4 _ _ nlp dE.hlq, b4 _ _ nwp dE.hwq, dE.pen.next i0 i1 hp4 b4, fun b o hb e => b4 _ _ hb (dE.but _ _ hb e)⟩, xE.but hxp b4 (fun x hx => (nE x hx).ne hxp), topInt ?_, NL.of (fun a z => V.noConfusion z), fun x hx => (nE x hx).but hxp b4⟩
      rw [decide_eq_true (show (1 : Int) ≤ 1 + d by omega), decide_eq_true (show (1 : Int) + d ≤ 3 by omega)]
      rfl
    | true =>
      refine iteT ⟨_, rfl, 1, rfl, by show 1 ≤ sizeLine; decide, fun tp htp => ⟨10, 30, rfl, rfl, ⟨by decide, by decide, by decide⟩, by show 8 ≤ sizeLine; decide, fun D hD => ?_⟩⟩
      have s1 := same_upd (o := .tup [.int 1]) htp
      obtain ⟨H2, e2⟩ : ∃ H2, H2 = upd HE tp (.tup [.int 1]) := ⟨_, rfl⟩
      obtain ⟨H3, e3⟩ : ∃ H3, H3 = upd H2 D (.lst [.int 0, .int 4, .int (-1), .bl true, .non, .str "1", .ref tp, .int (10 ^ (30 : Int).toNat)]) := ⟨_, rfl⟩
      rw [← e2] at hD s1
      have s2 : Same H2 H3 := by rw [e3]; exact same_upd hD
      have s3 := s1.trans s2
      have htp3 : H3 tp = some (.tup [.int 1]) := s2 _ _ (by rw [e2, upd_same])
      have hD3 : H3 D = some (.lst [.int 0, .int 4, .int (-1), .bl true, .non, .str "1", .ref tp, .int (10 ^ (30 : Int).toNat)]) := by rw [e3, upd_same]
      have fD : H D = none := free_but (dE.pen.same s1) (dE.but.same s1) hD
      refine ⟨p, l, D, cs, n + 11, [.int 0, .int 4, .int (-1), .bl true, .non, .str "1", .ref tp, .int (10 ^ (30 : Int).toNat)], rfl, ?_, ?_, nep hP fD, Nat.succ_pos _, by show 8 < 1000; decide, by omega, fun j x H4 hx hP4 b4 => ?_⟩
      · rw [← e2]
        exact e3 ▸ dE.pen.same s3
      · exact upd_same
      · rw [← e2, ← e3] at b4
        have b34 : But HE H4 p := fun b o hb e => b4 _ _ hb (s3 _ _ e)
        have ntp : tp ≠ p := ne_of htp3 (s3 _ _ hxp) (by intro w; cases w)
        have htp4 := b4 _ _ ntp htp3
        refine ⟨x, rfl, ⟨dE.flq, dE.fwq, dE.ne, b34 _ _ nlp dE.hlq, b34 _ _ nwp dE.hwq, hP4, fun b o hb e => b34 _ _ hb (dE.but _ _ hb e)⟩, xE.but hxp b34 (fun x hx => (nE x hx).ne hxp), and3 ?_ fun x hx => (nE x hx).but hxp b34⟩
        clear k
        match j, hx with
        | 0, hx => obtain rfl := Option.some.inj hx; exact ⟨topInt (by decide), NL.of fun a z => V.noConfusion z⟩
        | 1, hx => obtain rfl := Option.some.inj hx; exact ⟨topInt (by decide), NL.of fun a z => V.noConfusion z⟩
        | 2, hx => obtain rfl := Option.some.inj hx; exact ⟨topInt (by decide), NL.of fun a z => V.noConfusion z⟩
        | 3, hx => obtain rfl := Option.some.inj hx; exact ⟨topInr (.base (.bl _)) (m := true) (c := true) (by decide +kernel) (by decide +kernel) rfl, NL.of fun a z => V.noConfusion z⟩
        | 4, hx => obtain rfl := Option.some.inj hx; exact ⟨topInr (.base .non) (m := false) (c := false) (by decide +kernel) (by decide +kernel) rfl, NL.of fun a z => V.noConfusion z⟩
        | 5, hx => obtain rfl := Option.some.inj hx; exact ⟨topInr (.base (.str _)) (m := false) (c := false) (by decide +kernel) (by decide +kernel) rfl, NL.of fun a z => V.noConfusion z⟩
        | 6, hx => obtain rfl := Option.some.inj hx; exact ⟨topInr (.base (.tup htp4)) (m := false) (c := false) (by decide +kernel) (by decide +kernel) rfl, NL.at' htp4 fun ys z => by cases z⟩
        | 7, hx => obtain rfl := Option.some.inj hx; exact ⟨topInt (by decide), NL.of fun a z => V.noConfusion z⟩
        | j + 8, hx => cases hx
  -- the rails
  rintro σ6 HF ⟨TT, rfl, dF, xF, tF, nT, nF⟩
  refine ⟨fun σ H' => ∃ (rq : Addr) (g r : Bool), σ = stD p (some (.ref lq4)) (some (.ref wq)) o3 (some TT) (some (.ref rq)) none ∧ DS H H' p l cs (n + 14) lq4 wq xs w0 w1 w2 w3 w4 ∧ Xs K ks H' xs w0 w1 w2 ∧ TopIs K H' TT (!w3) ∧ H rq = none ∧ rq ≠ lq4 ∧ rq ≠ wq ∧ H' rq = some (.lst [.bl g, .bl r]) ∧ NL H' TT ∧ ∀ x ∈ xs, NL H' x, ?_, ?_⟩
  · refine ⟨_, rfl, p, l, cs, n + 12, 2, rfl, dF.pen, by decide, by decide, by omega, fun d i g H4 d0 d1 i0 i1 hp4 b4 => ?_⟩
    have hP4 := dF.pen.next i0 i1 hp4 b4
    refine ⟨rfl, _, rfl, p, l, cs, n + 13, 2, rfl, hP4, by decide, by decide, by omega, fun d2 i2 g2 H5 d3 d4 i3 i4 hp5 b5 => ?_⟩
    have hP5 := hP4.next i3 i4 hp5 b5
    have b45 : But HF H5 p := fun b o hb e => b5 _ _ hb (b4 _ _ hb e)
    obtain ⟨xsp, hxp⟩ := dF.pen.at'
    have hlq5 := b45 _ _ nlp dF.hlq
    have hwq5 := b45 _ _ nwp dF.hwq
    have bH5 : But H H5 p := fun b o hb e => b45 _ _ hb (dF.but _ _ hb e)
    refine ⟨rfl, by show 2 ≤ sizeLine; decide, fun D hD => ?_⟩
    have s5 := same_upd (o := .lst [.bl (decide (V.int d = V.int 0)), .bl (decide (V.int d2 = V.int 0))]) hD
    have tF5 : TopIs K H5 TT (!w3) := by
      rcases tF with h | ⟨t, m, c, ty, h⟩
      · exact .inl h
      · exact .inr ⟨t, m, c, tyx_but ty hxp b45 (nT.ne hxp), h⟩
    exact ⟨D, _, _, rfl, ⟨dF.flq, dF.fwq, dF.ne, s5 _ _ hlq5, s5 _ _ hwq5, hP5.same s5, bH5.same s5⟩, (xF.but hxp b45 (fun x hx => (nF x hx).ne hxp)).same s5, tF5.same s5, free_but hP5 bH5 hD, (fun e => by rw [e, hlq5] at hD; cases hD), (fun e => by rw [e, hwq5] at hD; cases hD), upd_same, (nT.but hxp b45).same s5, fun x hx => ((nF x hx).but hxp b45).same s5⟩
  -- a rail that is no truth
  rintro σ7 HG ⟨rq, g0, r0, rfl, dG, xG, tG, frq, nrl, nrw, hrq, nTG, nG⟩
  have nrp : rq ≠ p := nep hP frq
  refine ⟨fun σ H' => ∃ (G R : V) (gb pb : Bool), σ = stD p (some (.ref lq4)) (some (.ref wq)) o3 (some TT) (some (.ref rq)) none ∧ DS H H' p l cs (n + 16) lq4 wq xs w0 w1 w2 w3 w4 ∧ Xs K ks H' xs w0 w1 w2 ∧ TopIs K H' TT (!w3) ∧ H' rq = some (.lst [G, R]) ∧ RailIs K H' G gb ∧ RailIs K H' R pb ∧ (gb && pb) = (!w4), ?_, ?_⟩
  · refine ⟨_, rfl, wq, _, 4, .bl w4, rfl, rfl, SqL.of dG.hwq, rfl, w4, rfl, ?_⟩
    obtain ⟨xsp, hxp⟩ := dG.pen.at'
    cases w4 with
    | false => exact iteF ⟨_, _, true, true, rfl, ⟨dG.flq, dG.fwq, dG.ne, dG.hlq, dG.hwq, dG.pen.mono (by omega), dG.but⟩, xG, tG, hrq, railB, railB, rfl⟩
    | true =>
      refine iteT ⟨_, rfl, by show 0 ≤ sizeLine; decide, fun tp htp => ⟨by show 0 ≤ sizeLine; decide, fun lp hlp => ⟨by show 7 ≤ sizeLine; decide, fun D hD => ?_⟩⟩⟩
      have s1 := same_upd (o := .tup []) htp
      obtain ⟨H2, e2⟩ : ∃ H2, H2 = upd HG tp (.tup []) := ⟨_, rfl⟩
      rw [← e2] at hlp hD s1
      obtain ⟨H3, e3⟩ : ∃ H3, H3 = upd H2 lp (.lst []) := ⟨_, rfl⟩
      rw [← e3] at hD
      obtain ⟨H4, e4⟩ : ∃ H4, H4 = upd H3 D (.lst [.int 0, .int 1, .non, .str "", .str "ground", .ref tp, .ref lp]) := ⟨_, rfl⟩
      have s2 : Same H2 H3 := by rw [e3]; exact same_upd hlp
      have s3 : Same H3 H4 := by rw [e4]; exact same_upd hD
      have s13 := (s1.trans s2).trans s3
      have htp4 : H4 tp = some (.tup []) := s3 _ _ (s2 _ _ (by rw [e2, upd_same]))
      have hlp4 : H4 lp = some (.lst []) := s3 _ _ (by rw [e3, upd_same])
      have hD4 : H4 D = some (.lst [.int 0, .int 1, .non, .str "", .str "ground", .ref tp, .ref lp]) := by rw [e4, upd_same]
      have hP4 := dG.pen.same s13
      have fD : H D = none := free_but (dG.pen.same (s1.trans s2)) (dG.but.same (s1.trans s2)) hD
      have flp : H lp = none := free_but (dG.pen.same s1) (dG.but.same s1) hlp
      have nlpp : lp ≠ p := nep hP flp
      have ntp : tp ≠ p := ne_of htp4 (s13 _ _ hxp) (by intro w; cases w)
      refine ⟨p, l, D, cs, n + 14, [.int 0, .int 1, .non, .str "", .str "ground", .ref tp, .ref lp], rfl, ?_, ?_, nep hP fD, Nat.succ_pos _, by show 7 < 1000; decide, by omega, fun j x H5 hx hP5 b5 => ?_⟩
      · rw [← e2, ← e3, ← e4]
        exact hP4
      · exact upd_same
      rw [← e2, ← e3, ← e4] at b5
      obtain ⟨xsp5, hxp5⟩ := hP5.at'
      refine ⟨_, rfl, _, rfl, p, l, cs, n + 15, 2, rfl, hP5, by decide, by decide, by omega, fun d i g H6 d0 d1 i0 i1 hp6 b6 => ?_⟩
      have hP6 := hP5.next i0 i1 hp6 b6
      have bG6 : But HG H6 p := fun b o hb e => b6 _ _ hb (b5 _ _ hb (s13 _ _ e))
      have htp6 := b6 _ _ ntp (b5 _ _ ntp htp4)
      have hlp6 := b6 _ _ nlpp (b5 _ _ nlpp hlp4)
      have hrq6 := bG6 _ _ nrp hrq
      have hx6 : ∀ H' : Hp, (∀ b o, b ≠ rq → H6 b = some o → H' b = some o) → RailIs K H' x false := by
        intro H' bb
        have htp' := bb _ _ (ne_of htp6 hrq6 (by intro w; cases w)) htp6
        have hlp' := bb _ _ (ne_of hlp6 hrq6 (by intro w; cases w)) hlp6
        clear k
        match j, hx with
        | 0, hx => obtain rfl := Option.some.inj hx; exact railO (.base (.int _)) (by decide +kernel)
        | 1, hx => obtain rfl := Option.some.inj hx; exact railO (.base (.int _)) (by decide +kernel)
        | 2, hx => obtain rfl := Option.some.inj hx; exact railO (.base .non) (by decide +kernel)
        | 3, hx => obtain rfl := Option.some.inj hx; exact railO (.base (.str _)) (by decide +kernel)
        | 4, hx => obtain rfl := Option.some.inj hx; exact railO (.base (.str _)) (by decide +kernel)
        | 5, hx => obtain rfl := Option.some.inj hx; exact railO (.base (.tup htp')) (by decide +kernel)
        | 6, hx => obtain rfl := Option.some.inj hx; exact railO (.base (.lst hlp')) (by decide +kernel)
        | j + 7, hx => cases hx
      have tG6 : TopIs K H6 TT (!w3) := by
        rcases tG with h | ⟨t, m, c, ty, h⟩
        · exact .inl h
        · exact .inr ⟨t, m, c, tyx_but ty hxp bG6 (nTG.ne hxp), h⟩
      have nT6 := nTG.but hxp bG6
      have nG6 : ∀ x ∈ xs, NL H6 x := fun x hx => (nG x hx).but hxp bG6
      have x6 : Xs K ks H6 xs w0 w1 w2 := xG.but hxp bG6 fun x hx => (nG x hx).ne hxp
      have fin : ∀ (jj : Nat) (G R : V) (gb pb : Bool), seqIndex? d 2 = some jj → [V.bl g0, V.bl r0].set jj x = [G, R] → (∀ H' : Hp, (∀ b o, b ≠ rq → H6 b = some o → H' b = some o) → RailIs K H' G gb ∧ RailIs K H' R pb) → (gb && pb) = false →
          ∃ (G R : V) (gb pb : Bool), stD p (some (.ref lq4)) (some (.ref wq)) o3 (some TT) (some (.ref rq)) none = stD p (some (.ref lq4)) (some (.ref wq)) o3 (some TT) (some (.ref rq)) none ∧ DS H (upd H6 rq (.lst ([V.bl g0, V.bl r0].set jj x))) p l cs (n + 16) lq4 wq xs w0 w1 w2 w3 true ∧
            Xs K ks (upd H6 rq (.lst ([V.bl g0, V.bl r0].set jj x))) xs w0 w1 w2 ∧ TopIs K (upd H6 rq (.lst ([V.bl g0, V.bl r0].set jj x))) TT (!w3) ∧ upd H6 rq (.lst ([V.bl g0, V.bl r0].set jj x)) rq = some (.lst [G, R]) ∧ RailIs K (upd H6 rq (.lst ([V.bl g0, V.bl r0].set jj x))) G gb ∧ RailIs K (upd H6 rq (.lst ([V.bl g0, V.bl r0].set jj x))) R pb ∧ (gb && pb) = (!true) := by
        intro jj G R gb pb hj hset hrail hand
        rw [hset]
        have bq : But H6 (upd H6 rq (.lst [G, R])) rq := .upd _ _ _
        obtain ⟨r1, r2⟩ := hrail _ bq
        refine ⟨G, R, gb, pb, rfl, ⟨dG.flq, dG.fwq, dG.ne, bq _ _ (Ne.symm nrl) (bG6 _ _ nlp dG.hlq), bq _ _ (Ne.symm nrw) (bG6 _ _ nwp dG.hwq), ?_, ?_⟩, x6.but hrq6 bq fun x hx => (nG6 x hx).ne hrq6, ?_, upd_same, r1, r2, hand⟩
        · obtain ⟨ia, ga, h1, h2, h3⟩ := hP6
          have nll : rq ≠ l := fun e => by
            obtain ⟨_, _, _, z, _⟩ := hP
            rw [e, z] at frq
            cases frq
          exact ⟨ia, ga, bq _ _ (Ne.symm nrp) h1, bq _ _ (Ne.symm nll) h2, h3⟩
        · intro b o hb e
          rw [upd_ne (ne_of_none e frq)]
          exact bG6 _ _ hb (dG.but _ _ hb e)
        · rcases tG6 with h | ⟨t, m, c, ty, h⟩
          · exact .inl h
          · exact .inr ⟨t, m, c, tyx_but ty hrq6 bq (nT6.ne hrq6), h⟩
      have hd : d = 0 ∨ d = 1 := by omega
      rcases hd with rfl | rfl
      · exact ⟨rq, [.bl g0, .bl r0], 0, 0, rfl, rfl, hrq6, rfl, fin 0 x (.bl r0) false true rfl rfl (fun H' bb => ⟨hx6 H' bb, railB⟩) rfl⟩
      · exact ⟨rq, [.bl g0, .bl r0], 1, 1, rfl, rfl, hrq6, rfl, fin 1 (.bl g0) x true false rfl rfl (fun H' bb => ⟨railB, hx6 H' bb⟩) rfl⟩
  -- the words of it
  rintro σ8 HI ⟨G, R, gb, pb, rfl, dI, xI, tI, hrqI, gI, rI, hand⟩
  refine ⟨fun σ H' => ∃ (sq : Addr), σ = stD p (some (.ref lq4)) (some (.ref wq)) o3 (some TT) (some (.ref rq)) (some (.ref sq)) ∧ Same HI H' ∧ H' sq = some (.lst (fltW [w0, w1, w2, w3, w4] 5)), ?_, ?_⟩
  · refine ⟨by show 5 ≤ sizeLine; decide, fun zq hz => ?_⟩
    have s1 := same_upd (o := .lst (wd5.map V.str)) hz
    obtain ⟨H1, e1⟩ : ∃ H1, H1 = upd HI zq (.lst (wd5.map V.str)) := ⟨_, rfl⟩
    have hz1 : H1 zq = some (.lst (wd5.map V.str)) := by rw [e1, upd_same]
    rw [← e1] at s1
    have hw1 : H1 wq = some (.lst ([w0, w1, w2, w3, w4].map V.bl)) := s1 _ _ dI.hwq
    rw [show upd HI zq (.lst [.str "legs", .str "many", .str "name", .str "top", .str "rails"]) = H1 from e1.symm]
    refine ⟨_, rfl, zq, wq, _, _, rfl, SqL.of hz1, SqL.of hw1, fun D hD => ?_⟩
    refine lc_it (walk_zip (K := K) (a := zq) (b := wq) (xs := wd5.map V.str) (ys := [w0, w1, w2, w3, w4].map V.bl) (n := 5) rfl) (fun i H' => Same H1 H' ∧ H' D = some (.lst (fltW [w0, w1, w2, w3, w4] i))) ⟨same_upd hD, upd_same⟩ (fun i H' _ p => ⟨SqL.of (p.1 _ _ hz1), SqL.of (p.1 _ _ hw1)⟩) ?_ ?_
    · rintro i v H2 H3 hi ⟨s2, d2⟩ ⟨t, x, y, rfl, ht, rfl, hx, hy⟩
      have hx' : x = .str (wd5.getD i "") := by
        match i, hi, hx with
        | 0, _, hx => exact (Option.some.inj hx).symm
        | 1, _, hx => exact (Option.some.inj hx).symm
        | 2, _, hx => exact (Option.some.inj hx).symm
        | 3, _, hx => exact (Option.some.inj hx).symm
        | 4, _, hx => exact (Option.some.inj hx).symm
      have hy' : y = .bl ([w0, w1, w2, w3, w4].getD i false) := by
        match i, hi, hy with
        | 0, _, hy => exact (Option.some.inj hy).symm
        | 1, _, hy => exact (Option.some.inj hy).symm
        | 2, _, hy => exact (Option.some.inj hy).symm
        | 3, _, hy => exact (Option.some.inj hy).symm
        | 4, _, hy => exact (Option.some.inj hy).symm
      subst hx' hy'
      have s3 := same_upd (o := .tup [.str (wd5.getD i ""), .bl ([w0, w1, w2, w3, w4].getD i false)]) ht
      refine ⟨t, _, rfl, SqT.of upd_same, rfl, _, _, rfl, _, _, rfl, rfl, rfl, _, rfl, _, rfl, ?_⟩
      cases hb : [w0, w1, w2, w3, w4].getD i false with
      | true =>
        rw [hb] at s3
        refine iteT ⟨_, rfl, _, s3 _ _ d2, ?_, ?_, ?_⟩
        · exact Nat.lt_of_le_of_lt (fltW_len _ _) (Nat.lt_trans hi (by decide))
        · exact fun b o e => by
            rw [upd_ne (ne_of_none e hD)]
            exact s3 _ _ (s2 _ _ e)
        · rw [upd_same, fltW_succ, if_pos hb]
      | false =>
        rw [hb] at s3
        refine iteF ⟨s2.trans s3, ?_⟩
        rw [fltW_succ, if_neg (by rw [hb]; exact Bool.false_ne_true), List.append_nil]
        exact s3 _ _ d2
    · rintro H2 ⟨s2, d2⟩
      exact ⟨D, rfl, s1.trans s2, d2⟩
  -- what is told
  rintro σ9 HJ ⟨sq, rfl, sJ, hsq⟩
  refine ⟨_, rfl, _, rfl, _, rfl, _, rfl, by show 1 ≤ sizeLine; decide, fun nq hnq => ?_⟩
  have s1 := same_upd (o := .lst [.non]) hnq
  obtain ⟨H1, e1⟩ : ∃ H1, H1 = upd HJ nq (.lst [.non]) := ⟨_, rfl⟩
  rw [← e1] at s1
  refine ⟨sq, nq, fltW [w0, w1, w2, w3, w4] 5, [.non], rfl, rfl, ?_, upd_same, ?_, fun cq hcq => ?_⟩
  · rw [← e1]
    exact s1 _ _ hsq
  · have := fltW_len [w0, w1, w2, w3, w4] 5
    exact Nat.le_trans (show (fltW [w0, w1, w2, w3, w4] 5).length + 1 ≤ 6 by omega) (by decide)
  rw [← e1] at hcq ⊢
  have s2 := same_upd (o := .lst (fltW [w0, w1, w2, w3, w4] 5 ++ [.non])) hcq
  refine ⟨cq, fltW [w0, w1, w2, w3, w4] 5 ++ [.non], 0, dueW w0 w1 w2 w3 w4, rfl, rfl, SqL.of upd_same, flt_due w0 w1 w2 w3 w4, by show 4 ≤ sizeLine; decide, fun t ht => ?_⟩
  have s3 := same_upd (o := .tup [.ref lq4, TT, .ref rq, dueW w0 w1 w2 w3 w4]) ht
  have sa := ((sJ.trans s1).trans s2).trans s3
  exact k _ t lq4 rq xs TT G R w0 w1 w2 w3 w4 gb pb upd_same (sa _ _ dI.hlq) (sa _ _ hrqI) lenE (xI.same sa) (tI.same sa) (gI.same sa) (rI.same sa) hand ((dI.pen.same sa).mono (by omega)) (dI.but.same sa)
end
end Sj
namespace Sj
open PySem L2 Sup StK KepE LamX
open NdefX (NF NScope ncx envF startF nscope_by)
open C8 (pss_cut tCut)
/-! ### behind a lambda: all but the tables stays -/
theorem tyx_ext {K : PySem.W.Frag} {H H' : Hp} {x : V} {t : Value} (h : TyX K H x t) (s : ExtN H H') : TyX K H' x t := by
  cases h with
  | base b =>
    refine .base ?_
    cases b with
    | non => exact .non
    | bl x => exact .bl x
    | int i => exact .int i
    | str x => exact .str x
    | flt x => exact .flt x
    | lst e => exact .lst (s _ _ e fun ps z => by cases z)
    | frz e => exact .frz (s _ _ e fun ps z => by cases z)
    | tup e => exact .tup (s _ _ e fun ps z => by cases z)
    | dK e => exact .dK (s _ _ e fun ps z => by cases z)
    | dT e => exact .dT (s _ _ e fun ps z => by cases z)
    | ins e c h1 h2 h3 h4 => exact .ins (s _ _ e fun ps z => by cases z) c h1 h2 h3 h4
  | byt b => exact .byt b
  | set e => exact .set (s _ _ e fun ps z => by cases z)
  | kList e c => exact .kList e c
  | kTuple e c => exact .kTuple e c
  | kDict e c => exact .kDict e c
  | fTuple e => exact .fTuple (s _ _ e fun ps z => by cases z)
  | fDict e => exact .fDict (s _ _ e fun ps z => by cases z)
section
variable {K : PySem.W.Frag} {ks : Kinds} {H H' : Hp}
theorem lst_ext {a : Addr} {xs : List V} (h : H a = some (.lst xs)) (s : ExtN H H') : H' a = some (.lst xs) := s _ _ h fun ps z => by cases z
theorem IsL.ext {x : V} {b : Bool} (h : IsL K ks H x b) (s : ExtN H H') : IsL K ks H' x b := h.imp fun _ ⟨a, e⟩ => ⟨tyx_ext a s, e⟩
theorem LegR.ok.ext {r : LegR} (h : r.ok ks H) (s : ExtN H H') : r.ok ks H' := by
  obtain ⟨h1, dx, e⟩ := h
  exact ⟨h1, dx, s _ _ e fun ps z => by cases z⟩
theorem TopIs.ext {T : V} {b : Bool} (h : TopIs K H T b) (s : ExtN H H') : TopIs K H' T b := h.imp id fun ⟨t, m, c, a, r⟩ => ⟨t, m, c, tyx_ext a s, r⟩
theorem RailIs.ext {T : V} {b : Bool} (h : RailIs K H T b) (s : ExtN H H') : RailIs K H' T b := h.imp fun _ ⟨a, r⟩ => ⟨tyx_ext a s, r⟩
theorem Xs.ext {xs : List V} {w0 w1 w2 : Bool} (h : Xs K ks H xs w0 w1 w2) (s : ExtN H H') : Xs K ks H' xs w0 w1 w2 := by
  rcases h with ⟨h0, bs, h1, h2, h3⟩ | ⟨h0, rs, h1, h2, h3⟩
  · exact .inl ⟨h0, bs, h1, h2, fun i x b e1 e2 => (h3 i x b e1 e2).ext s⟩
  · exact .inr ⟨h0, rs, h1, fun r hr => (h2 r hr).ext s, h3⟩
theorem Pen.ext {p l : Addr} {cs : List Int} {n : Nat} (h : Pen H p l cs n) (s : ExtN H H') : Pen H' p l cs n := by
  obtain ⟨i, g, h1, h2, h3⟩ := h
  exact ⟨i, g, lst_ext h1 s, lst_ext h2 s, h3⟩
theorem tabs_but {T : List (Addr × Str)} {p : Addr} {xs : List V} (h : Tabs T H) (hp : H p = some (.lst xs)) (b : But H H' p) : Tabs T H' := fun q hq => by
  obtain ⟨ps, h1, h2, h3⟩ := h q hq
  refine ⟨ps, b _ _ (ne_of h1 hp (by intro z; cases z)) h1, h2, fun pos cv hc => ?_⟩
  obtain ⟨c, e1, e2⟩ := h3 pos cv hc
  refine ⟨c, e1, b _ _ (ne_of e2 hp fun z => ?_) e2⟩
  unfold CodeO at z
  cases z
end
theorem due_eq {rs : List LegR} {w1 w2 w3 w4 : Bool} (h1 : w1 = true → 40 < rs.length) (h2 : w1 = false → rs.length ≤ 5 ∧ (w2 = true → ¬ (names rs).Nodup) ∧ (w2 = false → (names rs).Nodup)) : due (names rs) (!w3) (!w4) = dueW false w1 w2 w3 w4 := by
  have hl : (names rs).length = rs.length := by unfold names; rw [List.length_map]
  unfold due
  rw [hl]
  cases w1 with
  | true =>
    rw [if_pos (h1 rfl)]
    rfl
  | false =>
    obtain ⟨a, b, c⟩ := h2 rfl
    rw [if_neg (by omega)]
    cases w2 with
    | true =>
      rw [if_neg (b rfl)]
      rfl
    | false =>
      rw [if_pos (c rfl)]
      cases w3 <;> cases w4 <;> rfl
theorem dueW_cases (w0 w1 w2 w3 w4 : Bool) : dueW w0 w1 w2 w3 w4 = .non ∨ ∃ z : Str, dueW w0 w1 w2 w3 w4 = .str z ∧ z.length ≤ 10 := by
  cases w0 <;> cases w1 <;> cases w2 <;> cases w3 <;> cases w4 <;> first | exact .inl rfl | exact .inr ⟨_, rfl, by decide +kernel⟩
/-- what is asked of the lambda's reading, v heard -/
def Asks (CI : Addr) (v : V) (H1 : Hp) (Q' : VK) (E : XK) : Prop := (v = .non → ∀ y H', Same H1 H' → Q' y H') ∧ ∀ z, v = .str z → ∀ d H', errH H1 H' d "reason" (.str z) → E (.ref CI) (some d) H'
/-- what is drawn is told as it is due -/
theorem outc_of {K : PySem.W.Frag} {ks : Kinds} {CI CF : Addr} {xs : List V} {T G R : V} {w0 w1 w2 w3 w4 : Bool} {H : Hp} {Q : VK} {E : XK} (h : Xs K ks H xs w0 w1 w2) (a : Asks CI (dueW w0 w1 w2 w3 w4) H Q E) : Outc K ks CI CF xs T G R (!w3) (!w4) H Q E := by
  rcases h with ⟨rfl, bs, h1, h2, h3⟩ | ⟨rfl, rs, h1, h2, h3, h4⟩
  · exact .inl ⟨bs, h1, h2, h3, a.2 _ rfl⟩
  · have e := due_eq (w3 := w3) (w4 := w4) h3 h4
    refine .inr ⟨rs, h1, h2, fun z hz => a.2 z (e.symm.trans hz), fun hn b H' ys _ _ _ s => a.1 (e.symm.trans hn) _ _ s⟩
theorem heard_rd {T : List (Addr × Str)} {CI : Addr} {t : XK → TE} {σ : L2.St} {H : Hp} {Q : VK} {v : V} (hT : Tabs T H) (hv : v = .non ∨ ∃ z : Str, v = .str z) (h : ∀ H1, ExtN H H1 → Tabs T H1 → ∀ (Q' : VK) (E : XK), Asks CI v H1 Q' E → t E σ H1 Q')
    (k : ∀ H2, ExtN H H2 → Tabs T H2 → Q v H2) : tLam T (TTheard CI) t σ H Q := by
  refine ⟨hT, fun H1 x1 T1 Q' hQ' => h H1 x1 T1 Q' _ ⟨fun e y H' s => hQ' y H' ?_, fun z e d H' er => ⟨d, z, rfl, rfl, er.2.1, fun H2 s2 => ?_⟩⟩⟩
  · have q := k H' (x1.trans (.of s)) (T1.ext s)
    rw [e] at q
    exact q
  · have s := er.2.2.trans s2
    have q := k H2 (x1.trans (.of s)) (T1.ext s)
    rw [e] at q
    exact q
theorem vals_rev : ∀ {vs : List V} {us : List Value}, Vals vs us → Vals vs.reverse us.reverse
  | _, _, .nil => .nil
  | _, _, .cons r t => by
    rw [List.reverse_cons, List.reverse_cons]
    exact (vals_rev t).append (.cons r .nil)
/-! ### Frame.of by words -/
section
variable {P : Program} {w : World} {K : PySem.W.Frag} {mg : Str → Option Value} {base : Heap} {f : Addr} {fd : FuncData} {ks : Kinds} {CI CF : Addr}
abbrev psO : List Str := ["cls", "legs", "top", "ground", "power"]
theorem of_kwB (F : FunD K "of" "Frame.of" (defArgs sOf) (defBody sOf) (defScope sOf) [] kwsF f fd) (G : FnOk P w K mg base (L2.CX P w) 6 f fd psO (spOf K ks CI CF)) :
    FnK P w K mg base (L2.CX P w) 6 f ksB (fun vs zs H Q E => vs.length = 2 ∧ spOf K ks CI CF (vs ++ zs) H Q E) := by
  obtain ⟨mv, hb⟩ := F.kbinds0 (ps := psO) 2 ksB [] (fun us mv ws => us ++ ws) (by decide) (fun q h => nomatch h) (fun r1 _ r3 => r1.append r3)
    (fun D doc pm an cdv ct us mv ws h1 h2 h3 => match us, mv, ws, h1, h2, h3 with
      | [a, b], [], [x, y, z], _, _, _ => rfl)
  exact fnK_of G hb
theorem of_kwC (F : FunD K "of" "Frame.of" (defArgs sOf) (defBody sOf) (defScope sOf) [] kwsF f fd) (G : FnOk P w K mg base (L2.CX P w) 6 f fd psO (spOf K ks CI CF)) :
    FnK P w K mg base (L2.CX P w) 6 f ksC (fun vs zs H Q E => vs.length = 2 ∧ spOf K ks CI CF (vs ++ zs.reverse) H Q E) := by
  obtain ⟨mv, hb⟩ := F.kbinds0 (ps := psO) 2 ksC [] (fun us mv ws => us ++ ws.reverse) (by decide) (fun q h => nomatch h) (fun {vs mz zs us mv ws} r1 _ r3 => r1.append (vals_rev r3))
    (fun D doc pm an cdv ct us mv ws h1 h2 h3 => match us, mv, ws, h1, h2, h3 with
      | [a, b], [], [x, y, z], _, _, _ => rfl)
  exact fnK_of G hb
theorem of_kwA (F : FunD K "of" "Frame.of" (defArgs sOf) (defBody sOf) (defScope sOf) [] kwsF f fd) (G : FnOk P w K mg base (L2.CX P w) 6 f fd psO (spOf K ks CI CF)) :
    FnK P w K mg base (L2.CX P w) 6 f ksA (fun vs zs H Q E => vs.length = 2 ∧ spOf K ks CI CF (vs ++ (zs ++ [.bl false, .bl false])) H Q E) := by
  obtain ⟨mv, hb⟩ := F.kbinds0 (ps := psO) 2 ksA [("ground", .bl false), ("power", .bl false)] (fun us mv ws => us ++ (ws ++ mv)) (by decide) (fun q h => List.mem_cons_of_mem _ h) (fun r1 r2 r3 => r1.append (r3.append r2))
    (fun D doc pm an cdv ct us mv ws h1 h2 h3 => match us, mv, ws, h1, h2, h3 with
      | [a, b], [p, q], [x], _, _, _ => ⟨_, _, _, _, _, _, rfl, rfl, _, _, _, _, _, _, rfl, rfl, rfl⟩)
  exact fnK_of G hb
end
/-! ### a list and the empty list -/
def rNeNil : R2 := fun x y H Q => ∃ a b xs, x = .ref a ∧ y = .ref b ∧ H a = some (.lst xs) ∧ H b = some (.lst []) ∧ Q (.bl (!xs.isEmpty)) H
theorem op_neNil {X : Cx} (hu : X.A.units + 64 < cLine) : OpR X (compareOp .NotEq) rNeNil := by
  intro pins s σ H x y v u Q I rx ry h
  obtain ⟨a, b, xs, rfl, rfl, ha, hb, q⟩ := h
  cases xs with
  | nil => exact op_neD hu pins s σ H _ _ v u Q I rx ry ⟨.list [], .list [], .lst (SqL.of ha) .nil, .lst (SqL.of hb) .nil, rfl, rfl, q⟩
  | cons y ys =>
    obtain rfl : v = Value.ref a := rx
    obtain rfl : u = Value.ref b := ry
    obtain ⟨its, r1, p1, _⟩ := I.list (SqL.of ha)
    obtain ⟨it2, r2, p2, _⟩ := I.list (SqL.of hb)
    have e1 : its.toArray.size ≠ it2.toArray.size := by
      rw [List.size_toArray, List.size_toArray, ← r1.length, ← r2.length]
      exact Nat.succ_ne_zero _
    exact SeqAt.RcNeAt.lists_lengths p1.isList p2.isList (by simpa using e1) (Nat.lt_of_le_of_lt (Nat.le_add_right _ _) hu) _ _ _ _ ⟨.bl true, H, I, rfl, q⟩
end Sj
namespace Sj
open PySem L2 Sup StK KepE LamX
open NdefX (NF NScope ncx envF startF nscope_by)
open C8 (pss_cut tCut)
abbrev sLaw4 : Stmt := top 27
abbrev nLaw : List Str := ["_law_script", "_law_pen_here", "_law_turn", "_law_legs_so", "_law_far", "_law_rails_so", "_law_due", "_law_told", "_law_pair", "_law_is_wrong", "_law_odd", "_law_one"]
theorem scLaw4 : FnScope nLaw ["_law_script"] (defScope sLaw4) := ⟨rfl, rfl, rfl, by decide +kernel, rfl, by decide +kernel, by decide +kernel⟩
abbrev qLam : Str := (("law" : Str) ++ ".<locals>.") ++ "<lambda>"
abbrev tabT (Pt : Addr) : List (Addr × Str) := [(Pt, qLam)]
structure LaT (P : Program) (w : World) (K : PySem.W.Frag) (mg : Str → Option Value) (base : Heap) (ks : Kinds) (CI CJ CF fF : Addr) : Prop where
  he : HeT K mg CI CJ
  kd : KdT K ks
  d : MkL P w K mg base CI ks.drv "Driver"
  i : MkL P w K mg base CI ks.lis "Listener"
  k2d : PySem.W.kitAny K (.ref ks.drv) [.type "list", .type "tuple"] = some false
  mF : mg "Frame" = some (.ref CF)
  range : mg "range" = none
  tuple : mg "tuple" = none
  isi : mg "isinstance" = none
  pen : ∃ f fd, mg "_law_pen" = some (.ref f) ∧ PySem.W.keepIn K (.ref f) = true ∧ Binds K fd ["_law_script"] [] ∧ FnOk P w K mg base CX0 1 f fd ["_law_script"] (spPen K)
  drawn : ∃ f fd, mg "_law_drawn" = some (.ref f) ∧ PySem.W.keepIn K (.ref f) = true ∧ Binds K fd ["_law_pen_here"] [] ∧ FnOk P w K mg base CX0 6 f fd ["_law_pen_here"] (spDrawn K ks)
  heard : ∃ g fd, mg "_law_heard" = some (.ref g) ∧ Fun K "_law_heard" "_law_heard" sHeard g fd ∧ Binds K fd ["_law_ask"] []
  mkc : Mk K CF fF
  init : FnK P w K mg base (L2.CX P w) 4 fF ksA (spStarK 1 (fun vs zs => vs ++ (zs ++ [.bl false, .bl false])) (spFrI K ks CI CF))
  of : ∃ mc q gO, ClX.CRead K CF mc ∧ ClX.CMet K CF mc "of" q gO ∧ FnK P w K mg base (L2.CX P w) 6 gO ksA (fun vs zs H Q E => vs.length = 2 ∧ spOf K ks CI CF (vs ++ (zs ++ [.bl false, .bl false])) H Q E) ∧
    FnK P w K mg base (L2.CX P w) 6 gO ksB (fun vs zs H Q E => vs.length = 2 ∧ spOf K ks CI CF (vs ++ zs) H Q E) ∧ FnK P w K mg base (L2.CX P w) 6 gO ksC (fun vs zs H Q E => vs.length = 2 ∧ spOf K ks CI CF (vs ++ zs.reverse) H Q E)
theorem xs_known {K : PySem.W.Frag} {ks : Kinds} {H : Hp} {xs : List V} {w0 w1 w2 : Bool} {x : V} (KT : KdT K ks) (h : Xs K ks H xs w0 w1 w2) (hx : x ∈ xs) : ∃ b, IsL K ks H x b := by
  rcases h with ⟨_, bs, h1, _, h3⟩ | ⟨_, rs, rfl, h2, _⟩
  · obtain ⟨i, hi, e⟩ := List.getElem_of_mem hx
    have hb : i < bs.length := by omega
    exact ⟨bs[i], h3 i x bs[i] (by rw [List.getElem?_eq_getElem hi, e]) (List.getElem?_eq_getElem hb)⟩
  · obtain ⟨r, hr, rfl⟩ := List.mem_map.mp hx
    exact ⟨true, (h2 r hr).isl2 KT⟩
theorem due_data (w0 w1 w2 w3 w4 : Bool) : ∃ pd, (∀ (K : PySem.W.Frag) (H : Hp), Dp K H (dueW w0 w1 w2 w3 w4) pd) ∧ SeqAt.shaped (.list [pd, pd]) = true ∧ PyData.eqv (.list [pd, pd]) (.list [pd, pd]) = true := by
  cases w0 <;> cases w1 <;> cases w2 <;> cases w3 <;> cases w4 <;> first | exact ⟨.none, fun _ _ => .non, by decide +kernel, by decide +kernel⟩ | exact ⟨.str _, fun _ _ => .str _, by decide +kernel, by decide +kernel⟩
theorem dueW_str (w0 w1 w2 w3 w4 : Bool) : dueW w0 w1 w2 w3 w4 = .non ∨ ∃ z : Str, dueW w0 w1 w2 w3 w4 = .str z := by
  rcases dueW_cases w0 w1 w2 w3 w4 with h | ⟨z, h, _⟩
  · exact .inl h
  · exact .inr ⟨z, h⟩
theorem ext_upd {H H1 : Hp} {q : Addr} {o : HO} (x : ExtN H H1) (hq : ∀ b u, H b = some u → (∀ ps, u ≠ .tbl ps) → b ≠ q) : ExtN H (upd H1 q o) := fun b u e n => by
  rw [upd_ne (hq b u e n)]
  exact x b u e n
theorem new_apart {H H1 : Hp} {q : Addr} (x : ExtN H H1) (hq : H1 q = none) : ∀ b u, H b = some u → (∀ ps, u ≠ .tbl ps) → b ≠ q := fun b u e n z => by
  have w := x b u e n
  rw [z, hq] at w
  cases w
theorem cut_two (x y : V) (zs : List V) : cutV (x :: y :: zs) none (some 2) = [x, y] := by
  unfold cutV
  rw [HT.sIx_none, show (2 : Int) = ((2 : Nat) : Int) from rfl, HT.sIx_nat, List.length_cons, List.length_cons, Nat.min_eq_left (by omega), Nat.sub_zero, List.drop_zero]
  rfl
abbrev stL (sc p : Addr) (o2 o3 o4 o5 o6 o7 o8 o9 o10 o11 : Option V) : L2.St := [some (.ref sc), some (.ref p), o2, o3, o4, o5, o6, o7, o8, o9, o10, o11]
def teIsL11 (K : PySem.W.Frag) (ks : Kinds) : TE := tCB (rIsiT K) (tCons (tVar 11) (tCons (tTup (tCons (tC (.ref ks.drv)) (tCons (tC (.ref ks.lis)) tNil))) tNil))
/-- Frame.of(legs_so, top = .., ground = .., power = ..), of the tuple too, of an odd value; Frame(Driver("a"), Listener("a"), top = 0) -/
def teOf1 (K : PySem.W.Frag) (ks : Kinds) (CI CF : Addr) : XK → TE := fun E => tCMethK CF ksB.length (fun vs zs H Q E => vs.length = 2 ∧ spOf K ks CI CF (vs ++ zs) H Q E) E (tC (.ref CF)) (tCons (tVar 3) tNil) (tCons (tVar 4) (tCons (tOp (rIxL K) (tVar 5) (tC (.int 0))) (tCons (tOp (rIxL K) (tVar 5) (tC (.int 1))) tNil)))
def rTupOf (K : PySem.W.Frag) : List V → Hp → VK → Prop := fun xs H Q => ∃ p ys, xs = [.ref p] ∧ ((SqL K H p ys ∧ ∀ l, H l = none → Q (.ref l) (upd H l (.tup ys))) ∨ (SqT K H p ys ∧ Q (.ref p) H))
def teOf2 (K : PySem.W.Frag) (ks : Kinds) (CI CF : Addr) : XK → TE := fun E => tCMethK CF ksC.length (fun vs zs H Q E => vs.length = 2 ∧ spOf K ks CI CF (vs ++ zs.reverse) H Q E) E (tC (.ref CF)) (tCons (tCB (rTupOf K) (tCons (tVar 3) tNil)) tNil) (tCons (tOp (rIxL K) (tVar 5) (tC (.int 1))) (tCons (tOp (rIxL K) (tVar 5) (tC (.int 0))) (tCons (tVar 4) tNil)))
def teOf3 (K : PySem.W.Frag) (ks : Kinds) (CI CF : Addr) : XK → TE := fun E => tCMethK CF ksA.length (fun vs zs H Q E => vs.length = 2 ∧ spOf K ks CI CF (vs ++ (zs ++ [.bl false, .bl false])) H Q E) E (tC (.ref CF)) (tCons (tVar 10) tNil) (tCons (tC (.int 0)) tNil)
def teTwo (K : PySem.W.Frag) (ks : Kinds) (CI CF : Addr) : XK → TE := fun E => tMakeS CF ksA.length (spStarK 1 (fun vs zs => vs ++ (zs ++ [.bl false, .bl false])) (spFrI K ks CI CF)) E (tCons (tMk K CI ks.drv (tC (.str "a"))) (tCons (tMk K CI ks.lis (tC (.str "a"))) tNil)) (tCons (tC (.int 0)) tNil)
/-- Frame(pair[0], pair[1], top = far) -/
def tePair (K : PySem.W.Frag) (ks : Kinds) (CI CF : Addr) : XK → TE := fun E => tMakeS CF ksA.length (spStarK 1 (fun vs zs => vs ++ (zs ++ [.bl false, .bl false])) (spFrI K ks CI CF)) E (tCons (tOp (rIxL K) (tVar 8) (tC (.int 0))) (tCons (tOp (rIxL K) (tVar 8) (tC (.int 1))) tNil)) (tCons (tVar 4) tNil)
theorem kit2 {K : PySem.W.Frag} {t : String} (h1 : kitB t "list" = some false) (h2 : kitB t "tuple" = some false) : PySem.W.kitAny K (.type t) [.type "list", .type "tuple"] = some false := by
  unfold PySem.W.kitAny
  rw [kit_ty h1]
  unfold PySem.W.kitAny
  dsimp only
  rw [kit_ty h2]
  rfl
theorem due_aa : due ([("a" : Str), "a"] : List Str) false true = .str "name" := by decide +kernel
/-- the six odd things -/
theorem six_rd {K : PySem.W.Frag} {CI : Addr} {ks : Kinds} {σ : L2.St} {H : Hp} {Q : VK}
    (k : ∀ a dp tp H', LegAt H' a ks.drv "a" → H' dp = some (.dK []) → H' tp = some (.tup [.non, .str "a", .ref a, .ref dp, .int 3, .bl true]) → Same H H' → Q (.ref tp) H') :
    tTup (tCons (tC .non) (tCons (tC (.str "a")) (tCons (tMk K CI ks.drv (tC (.str "a"))) (tCons tDNewK (tCons (tC (.int 3)) (tCons (tC (.bl true)) tNil)))))) σ H Q := by
  show tMk K CI ks.drv (tC (.str "a")) σ H (fun v1 H1 => ∀ dp, H1 dp = none → 6 ≤ sizeLine ∧ ∀ tp, upd H1 dp (.dK []) tp = none → Q (.ref tp) (upd (upd H1 dp (.dK [])) tp (.tup [.non, .str "a", v1, .ref dp, .int 3, .bl true])))
  refine mk_rd (fun Q'' q => q) (by decide +kernel) (by decide +kernel) fun a H3 ha la s3 => fun dp hdp => ⟨by decide, fun tp htp => ?_⟩
  have s4 := same_upd (o := .dK []) hdp
  have s5 := same_upd (o := .tup [.non, .str "a", .ref a, .ref dp, .int 3, .bl true]) htp
  exact k a dp tp _ (la.same (s4.trans s5)) (s5 _ _ upd_same) upd_same ((s3.trans s4).trans s5)
/-- a driver and a listener of one name, as arguments -/
theorem two_mk {K : PySem.W.Frag} {CI : Addr} {ks : Kinds} {σ : L2.St} {H : Hp} {Q : List V → Hp → Prop} (k : ∀ a b H', LegAt H' a ks.drv "a" → LegAt H' b ks.lis "a" → Same H H' → Q [.ref a, .ref b] H') :
    tCons (tMk K CI ks.drv (tC (.str "a"))) (tCons (tMk K CI ks.lis (tC (.str "a"))) tNil) σ H Q := by
  show tMk K CI ks.drv (tC (.str "a")) σ H (fun v1 H1 => tMk K CI ks.lis (tC (.str "a")) σ H1 fun v2 H2 => Q [v1, v2] H2)
  refine mk_rd (fun Q'' q => q) (by decide +kernel) (by decide +kernel) fun a H3 ha la s3 => ?_
  refine mk_rd (fun Q'' q => q) (by decide +kernel) (by decide +kernel) fun b H4 hb lb s4 => ?_
  exact k a b _ (la.same s4) lb (s3.trans s4)
theorem isl_rd11 {K : PySem.W.Frag} {ks : Kinds} {σ : L2.St} {H : Hp} {x : V} {b : Bool} {Q : VK} (hx : σ[11]? = some (some x)) (h : IsL K ks H x b) (k : ∀ H', Same H H' → Q (.bl b) H') : teIsL11 K ks σ H Q := by
  obtain ⟨t, ty, e⟩ := h
  refine ⟨x, hx, by show 2 ≤ sizeLine; decide, fun p hp => ?_⟩
  have s1 := same_upd (o := .tup [.ref ks.drv, .ref ks.lis]) hp
  exact ⟨x, p, [.ref ks.drv, .ref ks.lis], t, [.ref ks.drv, .ref ks.lis], b, rfl, upd_same, .cons (.own _) (.cons (.own _) .nil), tyx_same ty s1, e, k _ s1⟩
section
variable {P : Program} {w : World} {K : PySem.W.Frag} {mg : Str → Option Value} {base : Heap}
theorem body_law {f c Pt CI CJ CF fF : Addr} {ks : Kinds} (T : LaT P w K mg base ks CI CJ CF fF) (TB : TabB base mg c Pt) (A : Around) (outer : List Env) (s : Shared) (H : Hp) (E : XK) (Q : VK) (sc : Addr) (ns : List Int) (hr : Room 9 (A.deeper (PyProof.Rows.envOfC "law" (defScope sLaw4) s.heap.objs.size f (.ref c))))
    (hT : Tabs (tabT Pt) H) (hs : SqL K H sc (ns.map V.int)) (hl : ns.length ≤ 63) (hQ : ∀ H', Q (.bl true) H') :
    ∃ t, PSs (cxOf CX0 P w K mg base nLaw "law" (defScope sLaw4) f (.ref c) A outer s H E).nox (defBody sLaw4) t ∧ t { nx := fun _ H' => Q .non H', rt := Q } (start nLaw [.ref sc]) H := by
  obtain ⟨⟨fD, fdD, MD, GD, bD⟩, mD⟩ := T.d
  obtain ⟨⟨fI, fdI, MI, GI, bI⟩, mI⟩ := T.i
  obtain ⟨fp, fdp, mp, kp, bp, Gp⟩ := T.pen
  obtain ⟨fw, fdw, mw, kw, bw, Gw⟩ := T.drawn
  obtain ⟨g, fdg, mh, Fh, bh⟩ := T.heard
  obtain ⟨mc, q, gO, cr, cm, GA, GB, GC⟩ := T.of
  obtain ⟨oc, od, kV, doc, pm, an, cdv, ct, osl, rfl, lk, hcg⟩ := Fh.ex
  have hr8 := hr.mono (show 8 ≤ 9 by decide)
  have hr6 := hr.mono (show 6 ≤ 9 by decide)
  have hr5 := hr.mono (show 5 ≤ 9 by decide)
  have hr1 := hr.mono (show 1 ≤ 9 by decide)
  have huT : ∀ p ∈ tabT Pt, p.1 = Pt → p.2 = qLam := fun p hp _ => by
    obtain rfl := List.mem_singleton.mp hp
    rfl
  have HG := heard_gives (X := (cxOf CX0 P w K mg base nLaw "law" (defScope sLaw4) f (.ref c) A outer s H E).nox) (g := g) (CI := CI) (CJ := CJ) (cdg := cdv) (q := qLam) T.he
  refine ⟨_, pss_cons (ps_set (i := 1) scLaw4.nd rfl (Or.inl rfl) (pe_call Gp hr1 rfl mp kp bp .nil pass0 (pa_cons (pv 0) pa_nil)))
    (pss_cut (ps_for PassesOwn.never rfl (pi_range1 rfl T.range (pa_cons pe_int pa_nil)) (pg_name (i := 2) scLaw4.nd rfl (Or.inl rfl))
      (pss_cons (ps_asg (pe_call Gw hr6 rfl mw kw bw .nil pass0 (pa_cons (pv 1) pa_nil)) (pg_tup rfl (pgs_cons (pg_name (i := 3) scLaw4.nd rfl (Or.inr rfl)) (pgs_cons (pg_name (i := 4) scLaw4.nd rfl (Or.inr rfl)) (pgs_cons (pg_name (i := 5) scLaw4.nd rfl (Or.inr rfl)) (pgs_cons (pg_name (i := 6) scLaw4.nd rfl (Or.inl rfl)) pgs_nil))))))
      (pss_cons (ps_set (i := 7) scLaw4.nd rfl (Or.inl rfl) (pe_lst (pa_cons (pe_lamcall (t := teOf1 K ks CI CF) (T := tabT Pt) (Ng := nHe) (k := 6) (c := c) (P := Pt) rfl mh Fh.kp lk hcg bh scHe rfl (Or.inl rfl) HG TB rfl (List.mem_singleton.mpr rfl) huT hr8 (lamS_by (sc := defScope sLaw4) (by decide +kernel)) rfl (fun _ _ _ _ _ => rfl)
          (fun A' outer' s' H' E' f' c' hr' => pe_cmethK (pe_glob rfl T.mF (v := .ref CF) rfl) cr cm GB hr' (passes_call (takes_of rfl rfl rfl rfl) fun _ _ _ _ h => h) (pa_cons (pv 3) pa_nil) (pk_cons (pv 4) (pk_cons (pe_ix ix_list (pv 5) pe_int (fun _ _ => rfl)) (pk_cons (pe_ix ix_list (pv 5) pe_int (fun _ _ => rfl)) pk_nil))))) pa_nil)))
      (pss_cons (ps_expr (pe_bm PySem.F.plainAttrs_list PySem.F.slot_list_append PySem.F.type_list_append mt_append (pv 7) (pa_cons (pe_lamcall (t := teOf2 K ks CI CF) (T := tabT Pt) (Ng := nHe) (k := 6) (c := c) (P := Pt) rfl mh Fh.kp lk hcg bh scHe rfl (Or.inl rfl) HG TB rfl (List.mem_singleton.mpr rfl) huT hr8 (lamS_by (sc := defScope sLaw4) (by decide +kernel)) rfl (fun _ _ _ _ _ => rfl)
          (fun A' outer' s' H' E' f' c' hr' => pe_cmethK (pe_glob rfl T.mF (v := .ref CF) rfl) cr cm GC hr' (passes_call (takes_of rfl rfl rfl rfl) fun _ _ _ _ h => h) (pa_cons (pe_callTy (T := "tuple") call_tuple_of (by rfl) T.tuple (by decide +kernel) (pa_cons (pv 3) pa_nil)) pa_nil) (pk_cons (pe_ix ix_list (pv 5) pe_int (fun _ _ => rfl)) (pk_cons (pe_ix ix_list (pv 5) pe_int (fun _ _ => rfl)) (pk_cons (pv 4) pk_nil))))) pa_nil)))
      (pss_cons (ps_if (pt_cmpR (op_neD hr.units) (pv 7) (pe_op op_rep (pe_lst (pa_cons (pv 6) pa_nil)) pe_int) (nomark _)) (pss_one (ps_ret pe_bl)) pss_nil)
      (pss_cons (ps_set (i := 8) scLaw4.nd rfl (Or.inr rfl) (pe_slice sl_list (pe_op op_cat (pv 3) (pe_lst (pa_cons pe_non (pa_cons pe_non pa_nil)))) po_none (po_some pe_int)))
      (pss_cons (ps_set (i := 9) scLaw4.nd rfl (Or.inl rfl) (pe_cmpR (op_neNil hr.units) (pe_lc (te := tVar 11) (tt := tNot (tB (teIsL11 K ks))) (own := [("_law_one", 11)]) (g := gName 11) rfl scLaw4.nd (pi_list (pv 8)) (blkOk_by (N := nLaw) (sc := defScope sLaw4) (by decide +kernel))
          (fun _ _ _ _ _ => pg_name (i := 11) scLaw4.nd rfl (Or.inl rfl)) (fun _ _ _ _ _ => pts_one (pt_not (pt_val (pe_callB call_isiT (by rfl) T.isi (by decide +kernel) (pa_cons (pv 11) (pa_cons (pe_tup (pa_cons (pe_glob rfl mD (v := .ref ks.drv) rfl) (pa_cons (pe_glob rfl mI (v := .ref ks.lis) rfl) pa_nil))) pa_nil))))))
          (fun _ _ _ _ _ => pv 11)) (pe_lst pa_nil) (nomark _)))
      (pss_one (ps_if (PW.pt (pw_and (pt_val (pv 9)) (pw_and1 (pt_cmpR op_ne (pe_lamcall (t := tePair K ks CI CF) (T := tabT Pt) (Ng := nHe) (k := 6) (c := c) (P := Pt) rfl mh Fh.kp lk hcg bh scHe rfl (Or.inl rfl) HG TB rfl (List.mem_singleton.mpr rfl) huT hr8 (lamS_by (sc := defScope sLaw4) (by decide +kernel)) rfl (fun _ _ _ _ _ => rfl)
          (fun A' outer' s' H' E' f' c' hr' => pe_makeS T.mkc T.init (hr'.mono (show 5 ≤ 6 by decide)) rfl T.mF (passes_call (takes_of rfl rfl rfl rfl) fun _ _ _ _ h => h) (pa_cons (pe_ix ix_list (pv 8) pe_int (fun _ _ => rfl)) (pa_cons (pe_ix ix_list (pv 8) pe_int (fun _ _ => rfl)) pa_nil)) (pk_cons (pv 4) pk_nil))) pe_str (nomark _))))) (pss_one (ps_ret pe_bl)) pss_nil)))))))))
    (pss_cut (ps_for PassesOwn.never rfl (pi_tup (pe_tup (pa_cons pe_non (pa_cons pe_str (pa_cons (pe_make MD GD hr5 rfl mD bD .nil (passNo rfl rfl) (pa_cons pe_str pa_nil)) (pa_cons pe_dnewK (pa_cons pe_int (pa_cons pe_bl pa_nil)))))))) (pg_name (i := 10) scLaw4.nd rfl (Or.inr rfl))
      (pss_one (ps_if (pt_cmpR op_ne (pe_lamcall (t := teOf3 K ks CI CF) (T := tabT Pt) (Ng := nHe) (k := 6) (c := c) (P := Pt) rfl mh Fh.kp lk hcg bh scHe rfl (Or.inl rfl) HG TB rfl (List.mem_singleton.mpr rfl) huT hr8 (lamS_by (sc := defScope sLaw4) (by decide +kernel)) rfl (fun _ _ _ _ _ => rfl)
          (fun A' outer' s' H' E' f' c' hr' => pe_cmethK (pe_glob rfl T.mF (v := .ref CF) rfl) cr cm GA hr' (passes_call (takes_of rfl rfl rfl rfl) fun _ _ _ _ h => h) (pa_cons (pv 10) pa_nil) (pk_cons pe_int pk_nil))) pe_str (nomark _)) (pss_one (ps_ret pe_bl)) pss_nil)))
    (pss_one (ps_ret (pe_cmpR op_eq (pe_lamcall (t := teTwo K ks CI CF) (T := tabT Pt) (Ng := nHe) (k := 6) (c := c) (P := Pt) rfl mh Fh.kp lk hcg bh scHe rfl (Or.inl rfl) HG TB rfl (List.mem_singleton.mpr rfl) huT hr8 (lamS_by (sc := defScope sLaw4) (by decide +kernel)) rfl (fun _ _ _ _ _ => rfl)
          (fun A' outer' s' H' E' f' c' hr' => pe_makeS T.mkc T.init (hr'.mono (show 5 ≤ 6 by decide)) rfl T.mF (passes_call (takes_of rfl rfl rfl rfl) fun _ _ _ _ h => h) (pa_cons (pe_make MD GD (hr'.mono (show 5 ≤ 6 by decide)) rfl mD bD .nil (passNo rfl rfl) (pa_cons pe_str pa_nil)) (pa_cons (pe_make MI GI (hr'.mono (show 5 ≤ 6 by decide)) rfl mI bI .nil (passNo rfl rfl) (pa_cons pe_str pa_nil)) pa_nil)) (pk_cons pe_int pk_nil))) pe_str (nomark _)))))), ?_⟩
  refine ⟨_, rfl, sc, ns, rfl, hs, hl, fun p l cs H1 hP s1 => ?_⟩
  have T1 := hT.ext s1
  refine ⟨fun σ H' => (∃ o2 o3 o4 o5 o6 o7 o8 o9 o10 o11, σ = stL sc p o2 o3 o4 o5 o6 o7 o8 o9 o10 o11) ∧ Tabs (tabT Pt) H', ?_, ?_⟩
  · refine ⟨10, rfl, by decide, by decide, for_range (n := 10) (fun i σ H' => (∃ o2 o3 o4 o5 o6 o7 o8 o9 o10 o11, σ = stL sc p o2 o3 o4 o5 o6 o7 o8 o9 o10 o11) ∧ Pen H' p l cs (40 * i) ∧ Tabs (tabT Pt) H') ⟨⟨_, _, _, _, _, _, _, _, _, _, rfl⟩, hP, T1⟩ ?_ (fun σ H' h => ⟨h.1, h.2.2⟩)⟩
    rintro i σ H2 hi ⟨⟨o2, o3, o4, o5, o6, o7, o8, o9, o10, o11, rfl⟩, hP2, T2⟩
    refine ⟨_, rfl, p, l, cs, 40 * i, rfl, hP2, by omega, fun H3 t lq rq xs TT G R w0 w1 w2 w3 w4 gb pb ht hlq hrq hlen hx hT3 hG hR hand hP3 b3 => ?_⟩
    obtain ⟨xsp, hxp⟩ := hP2.at'
    have T3 := tabs_but T2 hxp b3
    refine ⟨t, _, rfl, SqT.of ht, rfl, _, _, rfl, _, _, rfl, _, _, rfl, _, _, rfl, rfl, ?_⟩
    have outc : ∀ {H4 : Hp}, ExtN H3 H4 → ∀ {Q' : VK} {E' : XK}, Asks CI (dueW w0 w1 w2 w3 w4) H4 Q' E' → Outc K ks CI CF xs TT G R (!w3) (gb && pb) H4 Q' E' := fun {H4} x4 {Q' E'} a => by
      rw [hand]
      exact outc_of (hx.ext x4) a
    -- by the list
    refine heard_rd (v := dueW w0 w1 w2 w3 w4) T3 (dueW_str w0 w1 w2 w3 w4) (fun H4 x4 T4 Q' E' a => ?_) fun H4 x4 T4 => ?_
    · exact ⟨rfl, _, rfl, _, rfl, _, rfl, rq, _, 0, G, rfl, rfl, SqL.of (lst_ext hrq x4), rfl, _, rfl, rq, _, 1, R, rfl, rfl, SqL.of (lst_ext hrq x4), rfl, rfl, rfl, .ref lq, TT, G, R, !w3, gb, pb, rfl, hT3.ext x4, hG.ext x4, hR.ext x4, .inr ⟨lq, xs, rfl, .inl (lst_ext hlq x4), by omega, outc x4 a⟩⟩
    refine ⟨by show 1 ≤ sizeLine; decide, fun tq htq => ?_⟩
    have apart := new_apart x4 htq
    have s5 := same_upd (o := .lst [dueW w0 w1 w2 w3 w4]) htq
    obtain ⟨H5, e5⟩ : ∃ H5, H5 = upd H4 tq (.lst [dueW w0 w1 w2 w3 w4]) := ⟨_, rfl⟩
    have htq5 : H5 tq = some (.lst [dueW w0 w1 w2 w3 w4]) := by rw [e5, upd_same]
    rw [← e5] at s5 ⊢
    have x5 : ExtN H3 H5 := x4.trans (.of s5)
    have T5 := T4.ext s5
    -- by the tuple
    refine ⟨_, rfl, .inl ⟨rfl, _, SqL.of htq5⟩, ?_⟩
    refine heard_rd (v := dueW w0 w1 w2 w3 w4) T5 (dueW_str w0 w1 w2 w3 w4) (fun H6 x6 T6 Q' E' a => ?_) fun H6 x6 T6 => ?_
    · have x36 := x5.trans x6
      refine ⟨rfl, _, rfl, lq, xs, rfl, .inl ⟨SqL.of (lst_ext hlq x36), fun q hq => ?_⟩⟩
      have s7 := same_upd (o := .tup xs) hq
      have x37 := x36.trans (.of s7)
      have a7 : Asks CI (dueW w0 w1 w2 w3 w4) (upd H6 q (.tup xs)) Q' E' := ⟨fun e y H' s => a.1 e y H' (s7.trans s), fun z e d H' er => a.2 z e d H' (er.of s7)⟩
      exact ⟨_, rfl, rq, _, 1, R, rfl, rfl, SqL.of (lst_ext hrq x37), rfl, _, rfl, rq, _, 0, G, rfl, rfl, SqL.of (lst_ext hrq x37), rfl, _, rfl, rfl, rfl, .ref q, TT, G, R, !w3, gb, pb, rfl, hT3.ext x37, hG.ext x37, hR.ext x37, .inr ⟨q, xs, rfl, .inr upd_same, by omega, outc x37 a7⟩⟩
    obtain ⟨pd, hpd, hsh, heq⟩ := due_data w0 w1 w2 w3 w4
    have htq6 := lst_ext htq5 x6
    refine ⟨tq, _, _, rfl, rfl, htq6, by show 1 < sizeLine; decide, ?_⟩
    obtain ⟨H7, e7⟩ : ∃ H7, H7 = upd H6 tq (.lst ([dueW w0 w1 w2 w3 w4] ++ [dueW w0 w1 w2 w3 w4])) := ⟨_, rfl⟩
    have htq7 : H7 tq = some (.lst [dueW w0 w1 w2 w3 w4, dueW w0 w1 w2 w3 w4]) := by rw [e7, upd_same]; rfl
    have x7 : ExtN H3 H7 := by rw [e7]; exact ext_upd (x5.trans x6) apart
    have T7 : Tabs (tabT Pt) H7 := by rw [e7]; exact tabs_but T6 htq6 (.upd _ _ _)
    rw [← e7]
    -- compared
    refine ⟨_, rfl, _, rfl, by show 1 ≤ sizeLine; decide, fun l2 hl2 => ⟨l2, 2, _, rfl, rfl, upd_same, by decide, by decide, by show 1 * 2 ≤ sizeLine; decide, fun l3 hl3 => ?_⟩⟩
    have s8 := same_upd (o := .lst [dueW w0 w1 w2 w3 w4]) hl2
    have s9 := same_upd (o := .lst (List.replicate (2 : Int).toNat [dueW w0 w1 w2 w3 w4]).flatten) hl3
    have s89 := s8.trans s9
    obtain ⟨H9, e9⟩ : ∃ H9, H9 = upd (upd H7 l2 (.lst [dueW w0 w1 w2 w3 w4])) l3 (.lst (List.replicate (2 : Int).toNat [dueW w0 w1 w2 w3 w4]).flatten) := ⟨_, rfl⟩
    have hl39 : H9 l3 = some (.lst [dueW w0 w1 w2 w3 w4, dueW w0 w1 w2 w3 w4]) := by rw [e9, upd_same]; rfl
    rw [← e9] at s89 ⊢
    refine ⟨.list [pd, pd], .list [pd, pd], .lst (SqL.of (s89 _ _ htq7)) (.cons (hpd _ _) (.cons (hpd _ _) .nil)), .lst (SqL.of hl39) (.cons (hpd _ _) (.cons (hpd _ _) .nil)), hsh, hsh, _, rfl, ?_⟩
    rw [heq]
    have x9 : ExtN H3 H9 := x7.trans (.of s89)
    have T9 := T7.ext s89
    -- the pair
    refine iteF ⟨_, rfl, by show 2 ≤ sizeLine; decide, fun l4 hl4 => ?_⟩
    have s10 := same_upd (o := .lst [.non, .non]) hl4
    refine ⟨lq, l4, xs, [.non, .non], rfl, rfl, s10 _ _ (lst_ext hlq x9), upd_same, Nat.le_trans (show xs.length + 2 ≤ 102 by omega) (by decide), fun l5 hl5 => ?_⟩
    have s11 := same_upd (o := .lst (xs ++ [.non, .non])) hl5
    refine ⟨2, rfl, l5, _, rfl, SqL.of upd_same, fun l6 hl6 => ?_⟩
    have s12 := same_upd (o := .lst (cutV (xs ++ [.non, .non]) none (some 2))) hl6
    obtain ⟨H12, e12⟩ : ∃ H12, H12 = upd (upd (upd H9 l4 (.lst [.non, .non])) l5 (.lst (xs ++ [.non, .non]))) l6 (.lst (cutV (xs ++ [.non, .non]) none (some 2))) := ⟨_, rfl⟩
    have s92 := (s10.trans s11).trans s12
    rw [← e12] at s92 ⊢
    have x12 : ExtN H3 H12 := x9.trans (.of s92)
    have T12 := T9.ext s92
    obtain ⟨x0, x1, b0, b1, hcut, hb0, hb1⟩ : ∃ x0 x1 b0 b1, cutV (xs ++ [.non, .non]) none (some 2) = [x0, x1] ∧ IsL K ks H12 x0 b0 ∧ IsL K ks H12 x1 b1 := by
      have hk : ∀ x ∈ xs, ∃ b, IsL K ks H12 x b := fun x hxm => xs_known T.kd (hx.ext x12) hxm
      have hn : IsL K ks H12 .non false := ⟨_, .base .non, T.kd.none⟩
      match xs, hk with
      | [], _ => exact ⟨.non, .non, false, false, cut_two _ _ _, hn, hn⟩
      | [x], hk =>
        obtain ⟨b, hb⟩ := hk x List.mem_cons_self
        exact ⟨x, .non, b, false, cut_two _ _ _, hb, hn⟩
      | x :: y :: zs, hk =>
        obtain ⟨b, hb⟩ := hk x List.mem_cons_self
        obtain ⟨b', hb'⟩ := hk y (List.mem_cons_of_mem _ List.mem_cons_self)
        exact ⟨x, y, b, b', cut_two _ _ _, hb, hb'⟩
    have hl612 : H12 l6 = some (.lst [x0, x1]) := by rw [e12, upd_same, hcut]
    -- what of it is no leg
    have odd_turn : ∀ (i : Nat) (x : V) (b : Bool) (D : Addr) (acc acc' : List V) (HX HY : Hp) (σ' : L2.St), IsL K ks HX x b → H12 D = none → Same H12 HX → HX D = some (.lst acc) → acc.length ≤ 1 → acc' = acc ++ (if b = true then [] else [x]) → σ'[11]? = some (some x) →
        tNot (tB (teIsL11 K ks)) σ' HX fun bb H3 => if bb = true then tVar 11 σ' H3 fun y H4 => ∃ a, H4 D = some (.lst a) ∧ a.length < sizeLine ∧ (Same H12 (upd H4 D (.lst (a ++ [y]))) ∧ (upd H4 D (.lst (a ++ [y]))) D = some (.lst acc')) else Same H12 H3 ∧ H3 D = some (.lst acc') := by
      intro i x b D acc acc' HX HY σ' hb hD sX hacc hal he hσ
      refine isl_rd11 hσ hb fun HZ sZ => ⟨_, rfl, ?_⟩
      cases b with
      | true =>
        refine iteF ⟨sX.trans sZ, ?_⟩
        rw [he, if_pos rfl, List.append_nil]
        exact sZ _ _ hacc
      | false =>
        refine iteT ⟨_, hσ, acc, sZ _ _ hacc, Nat.lt_of_le_of_lt hal (by decide), fun c o e => ?_, ?_⟩
        · rw [upd_ne (ne_of_none e hD)]
          exact sZ _ _ (sX _ _ e)
        · rw [upd_same, he, if_neg Bool.false_ne_true]
    refine ⟨_, rfl, l6, rfl, ⟨_, SqL.of hl612⟩, fun D hD => ?_⟩
    obtain ⟨a1, ea1⟩ : ∃ a1 : List V, a1 = [] ++ (if b0 = true then [] else [x0]) := ⟨_, rfl⟩
    obtain ⟨a2, ea2⟩ : ∃ a2 : List V, a2 = a1 ++ (if b1 = true then [] else [x1]) := ⟨_, rfl⟩
    have hal1 : a1.length ≤ 1 := by rw [ea1]; cases b0 <;> simp
    have hemp : (!a2.isEmpty) = !(b0 && b1) := by rw [ea2, ea1]; cases b0 <;> cases b1 <;> rfl
    refine lc_it (walk_list (K := K) (a := l6) (xs := [x0, x1])) (fun i H' => Same H12 H' ∧ H' D = some (.lst (match i with | 0 => [] | 1 => a1 | _ => a2))) ⟨same_upd hD, upd_same⟩ (fun i H' _ p => SqL.of (p.1 _ _ hl612)) ?_ ?_
    · rintro j x H13 H14 hj ⟨s13, d13⟩ ⟨rfl, hxj⟩
      refine ⟨rfl, ?_⟩
      match j, hj, hxj, d13 with
      | 0, _, hxj, d13 =>
        obtain rfl := Option.some.inj hxj
        exact odd_turn 0 _ b0 D [] a1 H14 H14 _ (hb0.same s13) hD s13 d13 (Nat.zero_le _) ea1 rfl
      | 1, _, hxj, d13 =>
        obtain rfl := Option.some.inj hxj
        exact odd_turn 1 _ b1 D a1 a2 H14 H14 _ (hb1.same s13) hD s13 d13 hal1 ea2 rfl
    rintro H13 ⟨s13, d13⟩
    refine ⟨by show 0 ≤ sizeLine; decide, fun l7 hl7 => ?_⟩
    have s14 := same_upd (o := .lst []) hl7
    obtain ⟨H14, e14⟩ : ∃ H14, H14 = upd H13 l7 (.lst []) := ⟨_, rfl⟩
    have hl714 : H14 l7 = some (.lst []) := by rw [e14, upd_same]
    rw [← e14] at s14 ⊢
    have s124 := s13.trans s14
    have x14 : ExtN H3 H14 := x12.trans (.of s124)
    have T14 := T12.ext s124
    have hP14 : Pen H14 p l cs (40 * (i + 1)) := (hP3.ext x14).mono (by omega)
    refine ⟨D, l7, _, rfl, rfl, s14 _ _ d13, hl714, ?_⟩
    refine ⟨_, rfl, !a2.isEmpty, rfl, ?_⟩
    rw [hemp]
    cases hbb : (b0 && b1) with
    | true =>
      exact iteF (iteF ⟨⟨_, _, _, _, _, _, _, _, _, _, rfl⟩, hP14, T14⟩)
    | false =>
      refine iteT ?_
      refine heard_rd (v := .str "legs") T14 (.inr ⟨_, rfl⟩) (fun H15 x15 T15 Q' E' a => ?_) fun H15 x15 T15 => ?_
      · have hl615 := lst_ext (s124 _ _ hl612) x15
        have hbs : (∀ (j : Nat) (x : V) (b : Bool), [x0, x1][j]? = some x → [b0, b1][j]? = some b → IsL K ks H15 x b) := by
          have h0 := (hb0.same s124).ext x15
          have h1 := (hb1.same s124).ext x15
          intro j x b e1 e2
          match j, e1, e2 with
          | 0, e1, e2 =>
            obtain rfl := Option.some.inj e1
            obtain rfl := Option.some.inj e2
            exact h0
          | 1, e1, e2 =>
            obtain rfl := Option.some.inj e1
            obtain rfl := Option.some.inj e2
            exact h1
        refine ⟨_, rfl, l6, _, 0, x0, rfl, rfl, SqL.of hl615, rfl, _, rfl, l6, _, 1, x1, rfl, rfl, SqL.of hl615, rfl, _, rfl, rfl, ?_⟩
        refine mk_outc (T := TT) (G := .bl false) (R := .bl false) (tb := !w3) (gb := true) (pb := true) (fun x => rfl) (Same.refl H15) (by show 2 ≤ 1000; decide) ((hT3.ext x14).ext x15) railB railB (.inl ⟨[b0, b1], rfl, ?_, hbs, a.2 _ rfl⟩)
        show (b0 && (b1 && true)) = false
        rw [Bool.and_true]
        exact hbb
      · refine ⟨rfl, _, rfl, ?_⟩
        exact iteF ⟨⟨_, _, _, _, _, _, _, _, _, _, rfl⟩, hP14.ext x15, T15⟩
  -- what is no list and no tuple
  rintro σJ HJ ⟨⟨o2, o3, o4, o5, o6, o7, o8, o9, o10, o11, rfl⟩, TJ⟩
  refine ⟨fun σ H' => (∃ o2 o3 o4 o5 o6 o7 o8 o9 o10 o11, σ = stL sc p o2 o3 o4 o5 o6 o7 o8 o9 o10 o11) ∧ Tabs (tabT Pt) H', ?_, ?_⟩
  · unfold tFor iTup
    refine six_rd (K := K) (CI := CI) (ks := ks) fun a dp tp H1 la hdp htp s1 => ?_
    refine ⟨tp, rfl, ⟨_, SqT.of htp⟩, for_it (walk_tup (K := K) (a := tp) (xs := [.non, .str "a", .ref a, .ref dp, .int 3, .bl true])) (fun i σ H' => (∃ o2 o3 o4 o5 o6 o7 o8 o9 o10 o11, σ = stL sc p o2 o3 o4 o5 o6 o7 o8 o9 o10 o11) ∧ Tabs (tabT Pt) H' ∧ ExtN H1 H') ⟨⟨_, _, _, _, _, _, _, _, _, _, rfl⟩, TJ.ext s1, ExtN.refl H1⟩ (fun i σ H' _ h => SqT.of (h.2.2 _ _ htp fun ps z => by cases z)) ?_ fun σ H' h => ⟨h.1, h.2.1⟩⟩
    rintro i x σ H2 H3 hi ⟨⟨q2, q3, q4, q5, q6, q7, q8, q9, q10, q11, rfl⟩, T2, x2⟩ ⟨rfl, hx⟩
    have known : ∃ t, TyX K H3 x t ∧ PySem.W.kitAny K t [.type "list", .type "tuple"] = some false := by
      match i, hi, hx with
      | 0, _, hx => obtain rfl := Option.some.inj hx; exact ⟨_, .base .non, kit2 (by decide +kernel) (by decide +kernel)⟩
      | 1, _, hx => obtain rfl := Option.some.inj hx; exact ⟨_, .base (.str _), kit2 (by decide +kernel) (by decide +kernel)⟩
      | 2, _, hx => obtain rfl := Option.some.inj hx; exact ⟨_, tyx_ext (la.ty T.kd.icD) x2, T.k2d⟩
      | 3, _, hx => obtain rfl := Option.some.inj hx; exact ⟨_, tyx_ext (.base (.dK hdp)) x2, kit2 (by decide +kernel) (by decide +kernel)⟩
      | 4, _, hx => obtain rfl := Option.some.inj hx; exact ⟨_, .base (.int _), kit2 (by decide +kernel) (by decide +kernel)⟩
      | 5, _, hx => obtain rfl := Option.some.inj hx; exact ⟨_, .base (.bl _), kit2 (by decide +kernel) (by decide +kernel)⟩
    obtain ⟨t, ty, e⟩ := known
    refine heard_rd (v := .str "legs") T2 (.inr ⟨_, rfl⟩) (fun H4 x4 T4 Q' E' as => ?_) fun H4 x4 T4 => ?_
    · exact ⟨rfl, _, rfl, rfl, rfl, x, .int 0, .bl false, .bl false, false, true, true, rfl, topInt (by decide), railB, railB, .inl ⟨t, tyx_ext ty x4, e, as.2 _ rfl⟩⟩
    · exact ⟨rfl, _, rfl, iteF ⟨⟨_, _, _, _, _, _, _, _, _, _, rfl⟩, T4, x2.trans x4⟩⟩
  -- a name twice
  rintro σK HK ⟨⟨q2, q3, q4, q5, q6, q7, q8, q9, q10, q11, rfl⟩, TK⟩
  refine heard_rd (v := .str "name") TK (.inr ⟨_, rfl⟩) (fun H4 x4 T4 Q' E' as => ?_) fun H4 x4 T4 => ⟨rfl, hQ _⟩
  unfold teTwo tMakeS
  refine two_mk (K := K) (CI := CI) (ks := ks) fun a b H5 la lb s5 => ⟨rfl, ?_⟩
  refine mk_outc (T := .int 0) (G := .bl false) (R := .bl false) (tb := false) (gb := true) (pb := true) (fun x => rfl) (Same.refl H5) (by show 2 ≤ 1000; decide) (topInt (by decide)) railB railB (.inr ⟨[⟨a, ks.drv, "a"⟩, ⟨b, ks.lis, "a"⟩], rfl, fun r hr => ?_, fun z hz d H' er => ?_, fun hn => ?_⟩)
  · rcases List.mem_cons.mp hr with rfl | hr
    · exact ⟨.inl rfl, la⟩
    · obtain rfl := List.mem_singleton.mp hr
      exact ⟨.inr rfl, lb⟩
  · have e : due (names [⟨a, ks.drv, "a"⟩, ⟨b, ks.lis, "a"⟩]) false (true && true) = .str "name" := due_aa
    rw [e] at hz
    obtain rfl := V.str.inj hz
    exact as.2 _ rfl d H' (er.of s5)
  · have e : due (names [⟨a, ks.drv, "a"⟩, ⟨b, ks.lis, "a"⟩]) false (true && true) = .str "name" := due_aa
    rw [e] at hn
    cases hn
end
end Sj
namespace Sj
open PySem L2 Sup StK KepE LamX
def spL (K : PySem.W.Frag) (Pt : Addr) : Sp := fun vs H Q _ => ∃ (sc : Addr) (ns : List Int), vs = [.ref sc] ∧ SqL K H sc (ns.map V.int) ∧ ns.length ≤ 63 ∧ Tabs (tabT Pt) H ∧ ∀ H', Q (.bl true) H'
theorem all_mk4 {l : PySem.W.OpenLaw} {P : Program} {w : World} {K : PySem.W.Frag} {h : Heap} {mg : Str → Option Value} {fa : Addr} (X : K.In h) (G : h.Ns mainGlobals mg) (hfa : mg "law" = some (.ref fa)) (own : OwnTab K fa h) (hP : l.prog = P)
    {CI : Addr}
    {CJ : Addr}
    {CL : Addr}
    {CD : Addr}
    {CS : Addr}
    {CF : Addr}
    {tL tN : Tok} {aR : Addr} {dR : Option Addr} {itsR : Array Value} {nR : Nat} {slR : Array (Option Value)}
    {fN : Addr} {odN anN : Option Addr} {slN : Array (Option Value)} {ocN kVN dcN pmN cdN ctN : Value}
    {fIi : Addr} {odIi anIi : Option Addr} {slIi : Array (Option Value)} {ocIi kVIi dcIi pmIi cdIi ctIi : Value}
    {fBt : Addr} {odBt anBt : Option Addr} {slBt : Array (Option Value)} {ocBt kVBt dcBt pmBt cdBt ctBt : Value}
    {fWr : Addr} {odWr anWr : Option Addr} {slWr : Array (Option Value)} {ocWr kVWr dcWr pmWr cdWr ctWr : Value}
    {fLI : Addr} {odLI anLI : Option Addr} {slLI : Array (Option Value)} {ocLI kVLI dcLI pmLI cdLI ctLI : Value}
    {fPn : Addr} {odPn anPn : Option Addr} {slPn : Array (Option Value)} {ocPn kVPn dcPn pmPn cdPn ctPn : Value}
    {fDr : Addr} {odDr anDr : Option Addr} {slDr : Array (Option Value)} {ocDr kVDr dcDr pmDr cdDr ctDr : Value}
    {fPk : Addr} {odPk anPk : Option Addr} {slPk : Array (Option Value)} {ocPk kVPk dcPk pmPk cdPk ctPk : Value}
    {fTg : Addr} {odTg anTg : Option Addr} {slTg : Array (Option Value)} {ocTg kVTg dcTg pmTg cdTg ctTg : Value}
    {fHe : Addr} {odHe anHe : Option Addr} {slHe : Array (Option Value)} {ocHe kVHe dcHe pmHe cdHe ctHe : Value}
    {fDn : Addr} {odDn anDn : Option Addr} {slDn : Array (Option Value)} {ocDn kVDn dcDn pmDn cdDn ctDn : Value}
    {fFI DFI : Addr} {odFI anFI : Option Addr} {slFI : Array (Option Value)} {ocFI dcFI pmFI cdFI ctFI x1FI x2FI x3FI : Value}
    {fO DO : Addr} {odO anO : Option Addr} {slO : Array (Option Value)} {ocO dcO pmO cdO ctO x1O x2O x3O : Value}
    {pO : Addr} {rsO : List Value} {mcF uM : Value}
    {fIE xIE yIE : Addr} {odIE anIE : Option Addr} {slIE : Array (Option Value)} {ocIE kVIE dcIE pmIE ctIE : Value}
    {u1IE u2IE : Value} {v1IE v2IE : Option Addr} {vsIE : Array Value} {w1IE w2IE : Array (Option Value)} {flIE : Str} {tfIE : Tok}
    {fDI xDI yDI : Addr} {odDI anDI : Option Addr} {slDI : Array (Option Value)} {ocDI kVDI dcDI pmDI ctDI : Value}
    {u1DI u2DI : Value} {v1DI v2DI : Option Addr} {vsDI : Array Value} {w1DI w2DI : Array (Option Value)} {flDI : Str} {tfDI : Tok}
    {fSI xSI ySI : Addr} {odSI anSI : Option Addr} {slSI : Array (Option Value)} {ocSI kVSI dcSI pmSI ctSI : Value}
    {u1SI u2SI : Value} {v1SI v2SI : Option Addr} {vsSI : Array Value} {w1SI w2SI : Array (Option Value)} {flSI : Str} {tfSI : Tok}
    {fLw cLw PtL : Addr} {odLw anLw : Option Addr} {slLw : Array (Option Value)} {ocLw kVLw dcLw pmLw ctLw : Value} {eC : Value} {ddC : Option Addr} {vsC : Array Value} {slC : Array (Option Value)}
    {cdCI : ClassData}
    {cdCD : ClassData}
    {cdCS : ClassData}
    {cdCL : ClassData}
    {nm q : Str} {Ns : Addr} {bs bm sub : List Value} {sn : List Str} {ab : Bool} {col : Option Bool} {dd : Option Addr} {k0 k1 k2 k3 k5 : Option Value}
    (gCI : PySem.W.nsIn K mainGlobals "InvalidFrame" = some (some (.ref CI)))
    (gCJ : PySem.W.nsIn K mainGlobals "JoinError" = some (some (.ref CJ)))
    (gCL : PySem.W.nsIn K mainGlobals "Leg" = some (some (.ref CL)))
    (gCD : PySem.W.nsIn K mainGlobals "Driver" = some (some (.ref CD)))
    (gCS : PySem.W.nsIn K mainGlobals "Listener" = some (some (.ref CS)))
    (gCF : PySem.W.nsIn K mainGlobals "Frame" = some (some (.ref CF)))
    (gLet : PySem.W.nsIn K mainGlobals "LETTERS" = some (some (.str lettersS tL)))
    (gLon : PySem.W.nsIn K mainGlobals "LONGEST" = some (some (.int 8 tN)))
    (gRes : PySem.W.nsIn K mainGlobals "RESERVED" = some (some (.ref aR)))
    (lRes : K.lookup aR = some ⟨.type "tuple", dR, .seq itsR nR, slR⟩)
    (sRes : itsR.size ≤ sizeLine)
    (vRes : Vals reservedV itsR.toList)
    (z_isinstance : PySem.W.nsIn K mainGlobals "isinstance" = some none)
    (z_str : PySem.W.nsIn K mainGlobals "str" = some none)
    (z_len : PySem.W.nsIn K mainGlobals "len" = some none)
    (z_all : PySem.W.nsIn K mainGlobals "all" = some none)
    (z_bool : PySem.W.nsIn K mainGlobals "bool" = some none)
    (z_int : PySem.W.nsIn K mainGlobals "int" = some none)
    (z_abs : PySem.W.nsIn K mainGlobals "abs" = some none)
    (z_range : PySem.W.nsIn K mainGlobals "range" = some none)
    (z_list : PySem.W.nsIn K mainGlobals "list" = some none)
    (z_tuple : PySem.W.nsIn K mainGlobals "tuple" = some none)
    (z_zip : PySem.W.nsIn K mainGlobals "zip" = some none)
    (z_sorted : PySem.W.nsIn K mainGlobals "sorted" = some none)
    (z_super : PySem.W.nsIn K mainGlobals "super" = some none)
    (z_ValueError : PySem.W.nsIn K mainGlobals "ValueError" = some none)
    (aN : PySem.W.nsIn K mainGlobals "is_name" = some (some (.ref fN)))
    (lN : K.lookup fN = some ⟨ocN, odN, .func (PySem.W.fnOf "is_name" "is_name" (defArgs sIsName) (defBody sIsName) (defScope sIsName) .none kVN dcN pmN anN cdN ctN), slN⟩)
    (cN : PySem.W.codeIn K cdN "is_name" = true)
    (kN : PySem.W.keepIn K (.ref fN) = true)
    (aIi : PySem.W.nsIn K mainGlobals "is_integer" = some (some (.ref fIi)))
    (lIi : K.lookup fIi = some ⟨ocIi, odIi, .func (PySem.W.fnOf "is_integer" "is_integer" (defArgs sIsInt) (defBody sIsInt) (defScope sIsInt) .none kVIi dcIi pmIi anIi cdIi ctIi), slIi⟩)
    (cIi : PySem.W.codeIn K cdIi "is_integer" = true)
    (kIi : PySem.W.keepIn K (.ref fIi) = true)
    (aBt : PySem.W.nsIn K mainGlobals "is_between" = some (some (.ref fBt)))
    (lBt : K.lookup fBt = some ⟨ocBt, odBt, .func (PySem.W.fnOf "is_between" "is_between" (defArgs sBetw) (defBody sBetw) (defScope sBetw) .none kVBt dcBt pmBt anBt cdBt ctBt), slBt⟩)
    (cBt : PySem.W.codeIn K cdBt "is_between" = true)
    (kBt : PySem.W.keepIn K (.ref fBt) = true)
    (aWr : PySem.W.nsIn K mainGlobals "wrong_frame" = some (some (.ref fWr)))
    (lWr : K.lookup fWr = some ⟨ocWr, odWr, .func (PySem.W.fnOf "wrong_frame" "wrong_frame" (defArgs sWrong) (defBody sWrong) (defScope sWrong) .none kVWr dcWr pmWr anWr cdWr ctWr), slWr⟩)
    (cWr : PySem.W.codeIn K cdWr "wrong_frame" = true)
    (kWr : PySem.W.keepIn K (.ref fWr) = true)
    (aLI : PySem.W.findIn K (.ref CL) "__init__" = some (some (.ref fLI)))
    (iLI : PySem.W.isFn K (.ref fLI) = true)
    (lLI : K.lookup fLI = some ⟨ocLI, odLI, .func (PySem.W.fnOf "__init__" "Leg.__init__" (defArgs sLegI) (defBody sLegI) (defScope sLegI) .none kVLI dcLI pmLI anLI cdLI ctLI), slLI⟩)
    (cLI : PySem.W.codeIn K cdLI "Leg.__init__" = true)
    (kLI : PySem.W.keepIn K (.ref fLI) = true)
    (aPn : PySem.W.nsIn K mainGlobals "_law_pen" = some (some (.ref fPn)))
    (lPn : K.lookup fPn = some ⟨ocPn, odPn, .func (PySem.W.fnOf "_law_pen" "_law_pen" (defArgs sPen) (defBody sPen) (defScope sPen) .none kVPn dcPn pmPn anPn cdPn ctPn), slPn⟩)
    (cPn : PySem.W.codeIn K cdPn "_law_pen" = true)
    (kPn : PySem.W.keepIn K (.ref fPn) = true)
    (aDr : PySem.W.nsIn K mainGlobals "_law_draw" = some (some (.ref fDr)))
    (lDr : K.lookup fDr = some ⟨ocDr, odDr, .func (PySem.W.fnOf "_law_draw" "_law_draw" (defArgs sDraw) (defBody sDraw) (defScope sDraw) .none kVDr dcDr pmDr anDr cdDr ctDr), slDr⟩)
    (cDr : PySem.W.codeIn K cdDr "_law_draw" = true)
    (kDr : PySem.W.keepIn K (.ref fDr) = true)
    (aPk : PySem.W.nsIn K mainGlobals "_law_pick" = some (some (.ref fPk)))
    (lPk : K.lookup fPk = some ⟨ocPk, odPk, .func (PySem.W.fnOf "_law_pick" "_law_pick" (defArgs sPick) (defBody sPick) (defScope sPick) .none kVPk dcPk pmPk anPk cdPk ctPk), slPk⟩)
    (cPk : PySem.W.codeIn K cdPk "_law_pick" = true)
    (kPk : PySem.W.keepIn K (.ref fPk) = true)
    (aTg : PySem.W.nsIn K mainGlobals "_law_tags" = some (some (.ref fTg)))
    (lTg : K.lookup fTg = some ⟨ocTg, odTg, .func (PySem.W.fnOf "_law_tags" "_law_tags" (defArgs sTags) (defBody sTags) (defScope sTags) .none kVTg dcTg pmTg anTg cdTg ctTg), slTg⟩)
    (cTg : PySem.W.codeIn K cdTg "_law_tags" = true)
    (kTg : PySem.W.keepIn K (.ref fTg) = true)
    (aHe : PySem.W.nsIn K mainGlobals "_law_heard" = some (some (.ref fHe)))
    (lHe : K.lookup fHe = some ⟨ocHe, odHe, .func (PySem.W.fnOf "_law_heard" "_law_heard" (defArgs sHeard) (defBody sHeard) (defScope sHeard) .none kVHe dcHe pmHe anHe cdHe ctHe), slHe⟩)
    (cHe : PySem.W.codeIn K cdHe "_law_heard" = true)
    (kHe : PySem.W.keepIn K (.ref fHe) = true)
    (aDn : PySem.W.nsIn K mainGlobals "_law_drawn" = some (some (.ref fDn)))
    (lDn : K.lookup fDn = some ⟨ocDn, odDn, .func (PySem.W.fnOf "_law_drawn" "_law_drawn" (defArgs sDrawn) (defBody sDrawn) (defScope sDrawn) .none kVDn dcDn pmDn anDn cdDn ctDn), slDn⟩)
    (cDn : PySem.W.codeIn K cdDn "_law_drawn" = true)
    (kDn : PySem.W.keepIn K (.ref fDn) = true)
    (aFI : PySem.W.findIn K (.ref CF) "__init__" = some (some (.ref fFI)))
    (iFI : PySem.W.isFn K (.ref fFI) = true)
    (lFI : K.lookup fFI = some ⟨ocFI, odFI, .func (PySem.W.fnOf "__init__" "Frame.__init__" (defArgs sFrI) (defBody sFrI) (defScope sFrI) .none (.ref DFI) dcFI pmFI anFI cdFI ctFI), slFI⟩)
    (cFI : PySem.W.codeIn K cdFI "Frame.__init__" = true)
    (kFI : PySem.W.keepIn K (.ref fFI) = true)
    (n1FI : PySem.W.nsIn K DFI "top" = some (some x1FI))
    (r1FI : RelV (.int 1) x1FI)
    (n2FI : PySem.W.nsIn K DFI "ground" = some (some x2FI))
    (r2FI : RelV (.bl false) x2FI)
    (n3FI : PySem.W.nsIn K DFI "power" = some (some x3FI))
    (r3FI : RelV (.bl false) x3FI)
    (tyF : PySem.W.typeIn K (.ref CF) = some mcF)
    (rdF : PySem.W.readsIn K CF mcF = true)
    (gaF : PySem.W.specialIn K (.ref CF) "__getattribute__" = some (some (.builtin "type.__getattribute__")))
    (moF : PySem.W.findCls K (.ref CF) mcF "MOST" = some (.val uM))
    (rmF : RelV (.int 40) uM)
    (aO : PySem.W.findCls K (.ref CF) mcF "of" = some (.get (.builtin "classmethod.__get__") (.ref pO) .none (.ref CF)))
    (rO : PySem.W.recIn K pO "classmethod" = some (.ref fO :: rsO))
    (fO_ : PySem.W.fnIn K fO = true)
    (lO : K.lookup fO = some ⟨ocO, odO, .func (PySem.W.fnOf "of" "Frame.of" (defArgs sOf) (defBody sOf) (defScope sOf) .none (.ref DO) dcO pmO anO cdO ctO), slO⟩)
    (cO : PySem.W.codeIn K cdO "Frame.of" = true)
    (kO : PySem.W.keepIn K (.ref fO) = true)
    (n1O : PySem.W.nsIn K DO "top" = some (some x1O))
    (r1O : RelV (.int 1) x1O)
    (n2O : PySem.W.nsIn K DO "ground" = some (some x2O))
    (r2O : RelV (.bl false) x2O)
    (n3O : PySem.W.nsIn K DO "power" = some (some x3O))
    (r3O : RelV (.bl false) x3O)
    (aIE : PySem.W.findIn K (.ref CI) "__init__" = some (some (.ref fIE)))
    (iIE : PySem.W.isFn K (.ref fIE) = true)
    (tIE : PySem.W.typeIn K (.ref fIE) = some (.type "function"))
    (lIE : K.lookup fIE = some ⟨ocIE, odIE, .func (PySem.W.fnX "__init__" "InvalidFrame.__init__" (defArgs sInv) (defBody sInv) (defScope sInv) [("__class__", yIE)] .none kVIE dcIE pmIE anIE (.ref xIE) ctIE), slIE⟩)
    (cIE : PySem.W.codeIn K (.ref xIE) "InvalidFrame.__init__" = true)
    (mIE : K.lookup xIE = some ⟨u1IE, v1IE, .fields vsIE, w1IE⟩)
    (nIE : vsIE[2]? = some (.str flIE tfIE))
    (pIE : ((P.main.file : Str) == flIE) = true)
    (qIE : K.lookup yIE = some ⟨u2IE, v2IE, .cell (some (.ref CI)), w2IE⟩)
    (kIE : PySem.W.keepIn K (.ref fIE) = true)
    (aDI : PySem.W.findIn K (.ref CD) "__init__" = some (some (.ref fDI)))
    (iDI : PySem.W.isFn K (.ref fDI) = true)
    (tDI : PySem.W.typeIn K (.ref fDI) = some (.type "function"))
    (lDI : K.lookup fDI = some ⟨ocDI, odDI, .func (PySem.W.fnX "__init__" "Driver.__init__" (defArgs sDrvI) (defBody sDrvI) (defScope sDrvI) [("__class__", yDI)] .none kVDI dcDI pmDI anDI (.ref xDI) ctDI), slDI⟩)
    (cDI : PySem.W.codeIn K (.ref xDI) "Driver.__init__" = true)
    (mDI : K.lookup xDI = some ⟨u1DI, v1DI, .fields vsDI, w1DI⟩)
    (nDI : vsDI[2]? = some (.str flDI tfDI))
    (pDI : ((P.main.file : Str) == flDI) = true)
    (qDI : K.lookup yDI = some ⟨u2DI, v2DI, .cell (some (.ref CD)), w2DI⟩)
    (kDI : PySem.W.keepIn K (.ref fDI) = true)
    (aSI : PySem.W.findIn K (.ref CS) "__init__" = some (some (.ref fSI)))
    (iSI : PySem.W.isFn K (.ref fSI) = true)
    (tSI : PySem.W.typeIn K (.ref fSI) = some (.type "function"))
    (lSI : K.lookup fSI = some ⟨ocSI, odSI, .func (PySem.W.fnX "__init__" "Listener.__init__" (defArgs sLisI) (defBody sLisI) (defScope sLisI) [("__class__", ySI)] .none kVSI dcSI pmSI anSI (.ref xSI) ctSI), slSI⟩)
    (cSI : PySem.W.codeIn K (.ref xSI) "Listener.__init__" = true)
    (mSI : K.lookup xSI = some ⟨u1SI, v1SI, .fields vsSI, w1SI⟩)
    (nSI : vsSI[2]? = some (.str flSI tfSI))
    (pSI : ((P.main.file : Str) == flSI) = true)
    (qSI : K.lookup ySI = some ⟨u2SI, v2SI, .cell (some (.ref CS)), w2SI⟩)
    (kSI : PySem.W.keepIn K (.ref fSI) = true)
    (aLw : PySem.W.nsIn K mainGlobals "law" = some (some (.ref fLw)))
    (lLw : K.lookup fLw = some ⟨ocLw, odLw, .func (PySem.W.fnOf "law" "law" (defArgs sLaw4) (defBody sLaw4) (defScope sLaw4) .none kVLw dcLw pmLw anLw (.ref cLw) ctLw), slLw⟩)
    (cLw_ : PySem.W.codeIn K (.ref cLw) "law" = true)
    (lC : K.lookup cLw = some ⟨eC, ddC, .fields vsC, slC⟩)
    (vC : vsC[11]? = some (.ref PtL))
    (hC : PySem.W.codeHdIn K cLw PtL = true)
    (nT : K.lookup PtL = none)
    (top_ : (P.main.scope.names.lookup ("super" : Str)).isSome = false)
    (third : PySem.W.nsIn K cStatics "thirdparty.any" = some none)
    (clsCI : PySem.W.clsIn K CI = some cdCI)
    (mrCI : PySem.W.mroIn K CI (.ref CI) = some true)
    (clsCD : PySem.W.clsIn K CD = some cdCD)
    (mrCD : PySem.W.mroIn K CD (.ref CD) = some true)
    (clsCS : PySem.W.clsIn K CS = some cdCS)
    (mrCS : PySem.W.mroIn K CS (.ref CS) = some true)
    (clsCL : PySem.W.clsIn K CL = some cdCL)
    (mrCL : PySem.W.mroIn K CL (.ref CL) = some true)
    (exL : K.lookup CI = some (excClassObj nm q CI Ns bs bm true sn sub ab col dd k0 k1 k2 k3 k5 "ValueError.__new__"))
    (exR : PySem.HandSPX.refsVE bm = true)
    (exS : PySem.W.findIn K (.ref CI) "__setattr__" = some (some (.builtin "object.__setattr__")))
    (exB : PySem.W.subIn K (.ref CI) (.type "BaseException") = some true)
    (exV : PySem.W.subIn K (.ref CI) (.type "ValueError") = some true)
    (exT : PySem.W.typeIn K (.ref CI) = some (.type "type"))
    (exK : PySem.W.keepIn K (.ref CI) = true)
    (exN : PySem.W.findIn K (.ref CI) "reason" = some none)
    (exU : PySem.W.ks_superIn K CI CI "__init__" = some (some (.builtin "ValueError.__init__")))
    (exJ : PySem.W.exmOne K (.ref CI) (.ref CJ) = some true)
    (exG : PySem.W.findIn K (.ref CI) "__getattribute__" = some (some (.builtin "BaseException.__getattribute__")))
    (exA : PySem.W.findIn K (.ref CI) "__getattr__" = some none)
    (exH : PySem.W.hasDictIn K CI = true)
    (exC : PySem.W.findIn K (.ref CI) "__class__" = some (some (.builtin "object.__class__")))
    (exO : PySem.W.mroIn K CI (.type "object") = some true)
    (exI : PySem.W.kitOne K (.ref CI) (.ref CI) = some true)
    (exW : PySem.W.kitOne K (.ref CI) (.type "ValueError") = some true)
    (fnLI : PySem.W.fnIn K fLI = true)
    (tyLI : PySem.W.typeIn K (.ref fLI) = some (.type "function"))
    (suCD : PySem.W.ks_superIn K CD CD "__init__" = some (some (.ref fLI)))
    (suCS : PySem.W.ks_superIn K CS CS "__init__" = some (some (.ref fLI)))
    (pgCL : PySem.W.plainGet K CL Str.empty = true)
    (hdCL : PySem.W.hasDictIn K CL = true)
    (poCL : PySem.W.plainOver K CL = true)
    (saCL : PySem.W.findIn K (.ref CL) "__setattr__" = some (some (.builtin "object.__setattr__")))
    (mkCL : PySem.W.makesIn K CL = true)
    (kcCL : PySem.W.keepIn K (.ref CL) = true)
    (nnCL : PySem.W.findIn K (.ref CL) "name" = some none)
    (caCL : PySem.W.findIn K (.ref CL) "__class__" = some (some (.builtin "object.__class__")))
    (obCL : PySem.W.mroIn K CL (.type "object") = some true)
    (pgCD : PySem.W.plainGet K CD Str.empty = true)
    (hdCD : PySem.W.hasDictIn K CD = true)
    (poCD : PySem.W.plainOver K CD = true)
    (saCD : PySem.W.findIn K (.ref CD) "__setattr__" = some (some (.builtin "object.__setattr__")))
    (mkCD : PySem.W.makesIn K CD = true)
    (kcCD : PySem.W.keepIn K (.ref CD) = true)
    (nnCD : PySem.W.findIn K (.ref CD) "name" = some none)
    (caCD : PySem.W.findIn K (.ref CD) "__class__" = some (some (.builtin "object.__class__")))
    (obCD : PySem.W.mroIn K CD (.type "object") = some true)
    (pgCS : PySem.W.plainGet K CS Str.empty = true)
    (hdCS : PySem.W.hasDictIn K CS = true)
    (poCS : PySem.W.plainOver K CS = true)
    (saCS : PySem.W.findIn K (.ref CS) "__setattr__" = some (some (.builtin "object.__setattr__")))
    (mkCS : PySem.W.makesIn K CS = true)
    (kcCS : PySem.W.keepIn K (.ref CS) = true)
    (nnCS : PySem.W.findIn K (.ref CS) "name" = some none)
    (caCS : PySem.W.findIn K (.ref CS) "__class__" = some (some (.builtin "object.__class__")))
    (obCS : PySem.W.mroIn K CS (.type "object") = some true)
    (pgCF : PySem.W.plainGet K CF Str.empty = true)
    (hdCF : PySem.W.hasDictIn K CF = true)
    (poCF : PySem.W.plainOver K CF = true)
    (saCF : PySem.W.findIn K (.ref CF) "__setattr__" = some (some (.builtin "object.__setattr__")))
    (mkCF : PySem.W.makesIn K CF = true)
    (kcCF : PySem.W.keepIn K (.ref CF) = true)
    (nf_legs : PySem.W.findIn K (.ref CF) "_legs" = some none)
    (nftop : PySem.W.findIn K (.ref CF) "top" = some none)
    (nfground : PySem.W.findIn K (.ref CF) "ground" = some none)
    (nfpower : PySem.W.findIn K (.ref CF) "power" = some none)
    (cn : PySem.W.specialIn K (.builtin "object.__class__") "__get__" = some (some (.builtin "getset_descriptor.__get__")))
    (ct : PySem.W.takesIn K (.builtin "object.__class__") = some true)
    (kdd : PySem.W.kitAny K (.ref CD) [.ref CD, .ref CS] = some true)
    (kii : PySem.W.kitAny K (.ref CS) [.ref CD, .ref CS] = some true)
    (kll : PySem.W.kitAny K (.ref CL) [.ref CD, .ref CS] = some false)
    (kno : PySem.W.kitAny K (.type "NoneType") [.ref CD, .ref CS] = some false)
    (kst : PySem.W.kitAny K (.type "str") [.ref CD, .ref CS] = some false)
    (kin : PySem.W.kitAny K (.type "int") [.ref CD, .ref CS] = some false)
    (ktu : PySem.W.kitAny K (.type "tuple") [.ref CD, .ref CS] = some false)
    (klt : PySem.W.kitAny K (.type "list") [.type "list", .type "tuple"] = some true)
    (ktt : PySem.W.kitAny K (.type "tuple") [.type "list", .type "tuple"] = some true)
    (kdt : PySem.W.kitAny K (.ref CD) [.type "list", .type "tuple"] = some false) :
    LawAtS l w K CX0 10 63 "_law_script" mg fa h := by
  have e := hfa.symm.trans (PySem.W.mg_of X G aLw)
  cases e
  subst hP
  have mCI := PySem.W.mg_of X G gCI
  have mCJ := PySem.W.mg_of X G gCJ
  have mCL := PySem.W.mg_of X G gCL
  have mCD := PySem.W.mg_of X G gCD
  have mCS := PySem.W.mg_of X G gCS
  have mCF := PySem.W.mg_of X G gCF
  have y_isinstance := PySem.W.mg_none_of X G z_isinstance
  have y_str := PySem.W.mg_none_of X G z_str
  have y_len := PySem.W.mg_none_of X G z_len
  have y_all := PySem.W.mg_none_of X G z_all
  have y_bool := PySem.W.mg_none_of X G z_bool
  have y_int := PySem.W.mg_none_of X G z_int
  have y_abs := PySem.W.mg_none_of X G z_abs
  have y_range := PySem.W.mg_none_of X G z_range
  have y_list := PySem.W.mg_none_of X G z_list
  have y_tuple := PySem.W.mg_none_of X G z_tuple
  have y_zip := PySem.W.mg_none_of X G z_zip
  have y_sorted := PySem.W.mg_none_of X G z_sorted
  have y_super := PySem.W.mg_none_of X G z_super
  have y_ValueError := PySem.W.mg_none_of X G z_ValueError
  have FN := fun_mk (x := "is_name") (qual := "is_name") (st := sIsName) lN cN kN
  have mN := PySem.W.mg_of X G aN
  have bN_ := FN.binds (ps := ["value"]) fun _ _ _ _ _ _ us hl => match us, hl with | [_], _ => rfl
  have FIi := fun_mk (x := "is_integer") (qual := "is_integer") (st := sIsInt) lIi cIi kIi
  have mIi := PySem.W.mg_of X G aIi
  have bIi_ := FIi.binds (ps := ["value"]) fun _ _ _ _ _ _ us hl => match us, hl with | [_], _ => rfl
  have FBt := fun_mk (x := "is_between") (qual := "is_between") (st := sBetw) lBt cBt kBt
  have mBt := PySem.W.mg_of X G aBt
  have bBt_ := FBt.binds (ps := ["value", "least", "most"]) fun _ _ _ _ _ _ us hl => match us, hl with | [_, _, _], _ => rfl
  have FWr := fun_mk (x := "wrong_frame") (qual := "wrong_frame") (st := sWrong) lWr cWr kWr
  have mWr := PySem.W.mg_of X G aWr
  have bWr_ := FWr.binds (ps := ["legs", "top", "ground", "power"]) fun _ _ _ _ _ _ us hl => match us, hl with | [_, _, _, _], _ => rfl
  have FLI := fun_mk (x := "__init__") (qual := "Leg.__init__") (st := sLegI) lLI cLI kLI
  have bLI_ := FLI.binds (ps := ["self", "name"]) fun _ _ _ _ _ _ us hl => match us, hl with | [_, _], _ => rfl
  have FPn := fun_mk (x := "_law_pen") (qual := "_law_pen") (st := sPen) lPn cPn kPn
  have mPn := PySem.W.mg_of X G aPn
  have bPn_ := FPn.binds (ps := ["_law_script"]) fun _ _ _ _ _ _ us hl => match us, hl with | [_], _ => rfl
  have FDr := fun_mk (x := "_law_draw") (qual := "_law_draw") (st := sDraw) lDr cDr kDr
  have mDr := PySem.W.mg_of X G aDr
  have bDr_ := FDr.binds (ps := ["_law_pen_here", "_law_many"]) fun _ _ _ _ _ _ us hl => match us, hl with | [_, _], _ => rfl
  have FPk := fun_mk (x := "_law_pick") (qual := "_law_pick") (st := sPick) lPk cPk kPk
  have mPk := PySem.W.mg_of X G aPk
  have bPk_ := FPk.binds (ps := ["_law_pen_here", "_law_some"]) fun _ _ _ _ _ _ us hl => match us, hl with | [_, _], _ => rfl
  have FTg := fun_mk (x := "_law_tags") (qual := "_law_tags") (st := sTags) lTg cTg kTg
  have mTg := PySem.W.mg_of X G aTg
  have bTg_ := FTg.binds (ps := ["_law_pen_here", "_law_many"]) fun _ _ _ _ _ _ us hl => match us, hl with | [_, _], _ => rfl
  have FHe := fun_mk (x := "_law_heard") (qual := "_law_heard") (st := sHeard) lHe cHe kHe
  have mHe := PySem.W.mg_of X G aHe
  have bHe_ := FHe.binds (ps := ["_law_ask"]) fun _ _ _ _ _ _ us hl => match us, hl with | [_], _ => rfl
  have FDn := fun_mk (x := "_law_drawn") (qual := "_law_drawn") (st := sDrawn) lDn cDn kDn
  have mDn := PySem.W.mg_of X G aDn
  have bDn_ := FDn.binds (ps := ["_law_pen_here"]) fun _ _ _ _ _ _ us hl => match us, hl with | [_], _ => rfl
  have FIE : FunS l.prog K "__init__" "InvalidFrame.__init__" sInv fIE _ xIE yIE CI := ⟨⟨ocIE, odIE, kVIE, dcIE, pmIE, anIE, ctIE, slIE, rfl, lIE⟩, cIE, ⟨u1IE, v1IE, vsIE, w1IE, flIE, tfIE, mIE, nIE, pIE⟩, ⟨u2IE, v2IE, w2IE, qIE⟩, kIE⟩
  have bIE_ : Binds K (PySem.W.fnX "__init__" "InvalidFrame.__init__" (defArgs sInv) (defBody sInv) (defScope sInv) [("__class__", yIE)] .none kVIE dcIE pmIE anIE (.ref xIE) ctIE) ["self", "reason"] [] := .all fun us hl => match us, hl with | [_, _], _ => rfl
  have FDI : FunS l.prog K "__init__" "Driver.__init__" sDrvI fDI _ xDI yDI CD := ⟨⟨ocDI, odDI, kVDI, dcDI, pmDI, anDI, ctDI, slDI, rfl, lDI⟩, cDI, ⟨u1DI, v1DI, vsDI, w1DI, flDI, tfDI, mDI, nDI, pDI⟩, ⟨u2DI, v2DI, w2DI, qDI⟩, kDI⟩
  have bDI_ : Binds K (PySem.W.fnX "__init__" "Driver.__init__" (defArgs sDrvI) (defBody sDrvI) (defScope sDrvI) [("__class__", yDI)] .none kVDI dcDI pmDI anDI (.ref xDI) ctDI) ["self", "name"] [] := .all fun us hl => match us, hl with | [_, _], _ => rfl
  have FSI : FunS l.prog K "__init__" "Listener.__init__" sLisI fSI _ xSI ySI CS := ⟨⟨ocSI, odSI, kVSI, dcSI, pmSI, anSI, ctSI, slSI, rfl, lSI⟩, cSI, ⟨u1SI, v1SI, vsSI, w1SI, flSI, tfSI, mSI, nSI, pSI⟩, ⟨u2SI, v2SI, w2SI, qSI⟩, kSI⟩
  have bSI_ : Binds K (PySem.W.fnX "__init__" "Listener.__init__" (defArgs sLisI) (defBody sLisI) (defScope sLisI) [("__class__", ySI)] .none kVSI dcSI pmSI anSI (.ref xSI) ctSI) ["self", "name"] [] := .all fun us hl => match us, hl with | [_, _], _ => rfl
  have FFI : FunD K "__init__" "Frame.__init__" (defArgs sFrI) (defBody sFrI) (defScope sFrI) [] kwsF fFI _ := ⟨⟨ocFI, odFI, _, _, dcFI, pmFI, anFI, cdFI, ctFI, slFI, rfl, lFI, cFI, .inl ⟨rfl, rfl⟩, .inr ⟨DFI, rfl, fun p hp => by
      rcases List.mem_cons.mp hp with rfl | hp
      · exact ⟨_, n1FI, r1FI⟩
      rcases List.mem_cons.mp hp with rfl | hp
      · exact ⟨_, n2FI, r2FI⟩
      obtain rfl := List.mem_singleton.mp hp
      exact ⟨_, n3FI, r3FI⟩⟩⟩, kFI⟩
  have FO : FunD K "of" "Frame.of" (defArgs sOf) (defBody sOf) (defScope sOf) [] kwsF fO _ := ⟨⟨ocO, odO, _, _, dcO, pmO, anO, cdO, ctO, slO, rfl, lO, cO, .inl ⟨rfl, rfl⟩, .inr ⟨DO, rfl, fun p hp => by
      rcases List.mem_cons.mp hp with rfl | hp
      · exact ⟨_, n1O, r1O⟩
      rcases List.mem_cons.mp hp with rfl | hp
      · exact ⟨_, n2O, r2O⟩
      obtain rfl := List.mem_singleton.mp hp
      exact ⟨_, n3O, r3O⟩⟩⟩, kO⟩
  have NT : NmT K mg := ⟨y_isinstance, y_str, y_len, y_all, ⟨tL, PySem.W.mg_of X G gLet⟩, ⟨tN, PySem.W.mg_of X G gLon⟩, ⟨aR, PySem.W.mg_of X G gRes, fun H => .inr ⟨_, itsR, nR, lRes, rfl, rfl, sRes, vRes⟩⟩⟩
  have suCI_ : SupT l.prog K mg CI := ⟨top_, y_super, ⟨cdCI, clsCI⟩, third⟩
  have suCD_ : SupT l.prog K mg CD := ⟨top_, y_super, ⟨cdCD, clsCD⟩, third⟩
  have suCS_ : SupT l.prog K mg CS := ⟨top_, y_super, ⟨cdCS, clsCS⟩, third⟩
  have OE : OexC K CI := ⟨⟨nm, q, Ns, bs, bm, sn, sub, ab, col, dd, k0, k1, k2, k3, k5, exL, exR⟩, exS, exB, exT, exK⟩
  have ET : ExT l.prog K mg CI "reason" := ⟨suCI_, OE, exU, exV, mrCI, exN⟩
  have LT : LgT l.prog K mg CI fIE fLI fN := ⟨ET, aIE, tIE, mCI, mN⟩
  have clCL : Cls K CL := ⟨pgCL, hdCL, poCL, saCL⟩
  have isCL : IsiC K CL := ⟨clCL, caCL, cn, ct, obCL⟩
  have clCD : Cls K CD := ⟨pgCD, hdCD, poCD, saCD⟩
  have isCD : IsiC K CD := ⟨clCD, caCD, cn, ct, obCD⟩
  have clCS : Cls K CS := ⟨pgCS, hdCS, poCS, saCS⟩
  have isCS : IsiC K CS := ⟨clCS, caCS, cn, ct, obCS⟩
  have clCF : Cls K CF := ⟨pgCF, hdCF, poCF, saCF⟩
  let ks : Kinds := ⟨CD, CS, CL⟩
  have KDT : KdT K ks := { icD := isCD, icI := isCS, dd := kdd, ii := kii, icL := isCL, none := kno, str := kst, int := kin, tup := ktu, leg := kll }
  have BI : Bi mg := ⟨y_int, y_len, y_abs⟩
  have HET : HeT K mg CI CJ := ⟨mCJ, mCI, y_ValueError, y_isinstance, exJ, ⟨by rw [clsCI]; rfl, exG, exA, exB, exH, exC, cn, ct, exO⟩, exN, exI, exW⟩
  have tab : h.get? PtL = some { cls := .none, data := .fields #[] } := own cLw PtL _ _ _ _ _ _ lLw rfl rfl lC vC
  refine ⟨PySem.W.fnOf "law" "law" (defArgs sLaw4) (defBody sLaw4) (defScope sLaw4) .none kVLw dcLw pmLw anLw (.ref cLw) ctLw, [(cLw, PtL)], spL K PtL, fun p hp => ?_, fun p hp => ?_, fun p hp => ?_, fun s u => .of_eq rfl, fun H a ns hl hb ht hS => ⟨a, ns, rfl, hS, hl, fun p hp => ?_, fun _ => rfl⟩, fun base KB GB TB => ?_⟩
  · obtain rfl := List.mem_singleton.mp hp
    exact tab
  · obtain rfl := List.mem_singleton.mp hp
    exact nT
  · obtain rfl := List.mem_singleton.mp hp
    exact PySem.W.codeHd_of_K X hC
  · obtain rfl := List.mem_singleton.mp hp
    exact TabS.nil (ht (cLw, PtL) (List.mem_singleton.mpr rfl))
  have TB1 := TB (cLw, PtL) (List.mem_singleton.mpr rfl)
  have glCL : FnOk l.prog w K mg base (L2.CX l.prog w) 3 fLI _ ["self", "name"] (spLegI K CI CL) := ok_legI FLI LT NT ⟨clCL, nnCL⟩ FN bN_ FIE bIE_
  have glCD : FnOk l.prog w K mg base (L2.CX l.prog w) 3 fLI _ ["self", "name"] (spLegI K CI CD) := ok_legI FLI LT NT ⟨clCD, nnCD⟩ FN bN_ FIE bIE_
  have glCS : FnOk l.prog w K mg base (L2.CX l.prog w) 3 fLI _ ["self", "name"] (spLegI K CI CS) := ok_legI FLI LT NT ⟨clCS, nnCS⟩ FN bN_ FIE bIE_
  have gD := ok_drvI FDI ⟨suCD_, suCD, tyLI, fnLI, mrCD⟩ bLI_ glCD
  have gS := ok_lisI FSI ⟨suCS_, suCS, tyLI, fnLI, mrCS⟩ bLI_ glCS
  have MD : MkL l.prog w K mg base CI CD "Driver" := ⟨⟨fDI, _, ⟨mkCD, aDI, iDI, kcCD⟩, gD, bDI_⟩, mCD⟩
  have MS : MkL l.prog w K mg base CI CS "Listener" := ⟨⟨fSI, _, ⟨mkCS, aSI, iSI, kcCS⟩, gS, bSI_⟩, mCS⟩
  have ML : MkL l.prog w K mg base CI CL "Leg" := ⟨⟨fLI, _, ⟨mkCL, aLI, iLI, kcCL⟩, glCL.mono (by decide), bLI_⟩, mCL⟩
  have gI : FnOk l.prog w K mg base CX0 1 fIE _ ["self", "reason"] (spInv K CI) := ok_inv FIE ET
  have gII : FnOk l.prog w K mg base CX0 1 fIi _ ["value"] (spIsInt K) := ok_isint FIi y_isinstance y_int y_bool
  have gBt : FnOk l.prog w K mg base CX0 2 fBt _ ["value", "least", "most"] (spBetw K) := ok_betw FBt gII mIi kIi bIi_
  have WT : WrT l.prog w K mg base ks CF := { isi := y_isinstance, all := y_all, len := y_len, bool := y_bool, mD := mCD, mI := mCS, mF := mCF, most := ⟨mcF, uM, ⟨rdF, gaF⟩, ⟨moF, rmF⟩⟩, icD := isCD, icI := isCS, nD := nnCD, nI := nnCS, dd := kdd, ii := kii, betw := ⟨fBt, _, mBt, kBt, bBt_, gBt⟩ }
  have gWr : FnOk l.prog w K mg base CX0 3 fWr _ ["legs", "top", "ground", "power"] (spWrong K ks) := ok_wrong FWr WT
  have FT : FrT l.prog w K mg base ks CI fIE CF := { wr := WT, sorted := y_sorted, mI := mCI, ex := ET, iC := aIE, tI := tIE, inv := ⟨_, bIE_, gI⟩, wrong := ⟨fWr, _, mWr, kWr, bWr_, gWr⟩, cl := clCF, nL := nf_legs, nT := nftop, nG := nfground, nP := nfpower }
  have kB := fr_kwB (w := w) (base := base) FFI FT
  have kA := fr_kwA (w := w) (base := base) FFI FT
  have MF : Mk K CF fFI := ⟨mkCF, aFI, iFI, kcCF⟩
  have OT : OfT l.prog w K mg base ks CI fIE CF fFI := { isi := y_isinstance, list := y_list, tuple := y_tuple, mI := mCI, ex := ET, iC := aIE, tI := tIE, inv := ⟨_, bIE_, gI⟩, mkc := MF, kt := klt, kt2 := ktt }
  have gO := ok_of FO OT kB
  have gDr : FnOk l.prog w K mg base CX0 1 fDr _ ["_law_pen_here", "_law_many"] spDraw := ok_draw FDr BI
  have DT : DrT l.prog w K mg base ks CI := { d := MD, i := MS, l := ML, bi := BI, range := y_range, zip := y_zip, draw := ⟨fDr, _, mDr, kDr, bDr_, gDr⟩, pick := ⟨fPk, _, mPk, kPk, bPk_, ok_pick FPk BI FDr bDr_ mDr⟩, tags := ⟨fTg, _, mTg, kTg, bTg_, ok_tags FTg BI y_range FDr bDr_ mDr⟩ }
  have gDn : FnOk l.prog w K mg base CX0 6 fDn _ ["_law_pen_here"] (spDrawn K ks) := FDn.ok scDr (fun vs H Q E h => by obtain ⟨p, l, cs, n, rfl, _⟩ := h; rfl) fun cdv A outer s H vs Q E hr h => body_dr DT KDT cdv A outer s H vs Q E hr h
  have LT4 : LaT l.prog w K mg base ks CI CJ CF fFI := { he := HET, kd := KDT, d := MD, i := MS, k2d := kdt, mF := mCF, range := y_range, tuple := y_tuple, isi := y_isinstance, pen := ⟨fPn, _, mPn, kPn, bPn_, ok_pen FPn y_list⟩, drawn := ⟨fDn, _, mDn, kDn, bDn_, gDn⟩, heard := ⟨fHe, _, mHe, FHe, bHe_⟩, mkc := MF, init := kA, of := ⟨mcF, pO, fO, ⟨rdF, gaF⟩, ⟨aO, ⟨rsO, rO⟩, fO_⟩, of_kwA FO gO, of_kwB FO gO, of_kwC FO gO⟩ }
  refine fn_of lLw cLw_ scLaw4 (fun vs H Q E h => by obtain ⟨sc, ns, rfl, _⟩ := h; rfl) fun A outer s H vs Q E hr h => ?_
  obtain ⟨sc, ns, rfl, hS, hl, hT, hQ⟩ := h
  obtain ⟨t, ht, hq⟩ := body_law LT4 TB1 A outer s H E Q sc ns hr hT hS hl hQ
  exact ⟨t, ht.nox, hq⟩
end Sj
open PySem PySem.W PyProof.Rows in
set_option maxRecDepth 100000 in
set_option maxHeartbeats 0 in
theorem PySem.Challenge.cw_strayjoins_k04_frames_refused_holds : PySem.Challenge.rw_strayjoins_k04_frames_refused.Holds := by
  w_on; o_law; k_head; (case hw => w_witness2)
  k_fill
  refine LamX.walk_ofOwn (l := PySem.Challenge.rw_strayjoins_k04_frames_refused) (n := 63) (k := 10) (x := "_law_script") (CX := fun _ => L2.CX0) rfl (by decide) rfl ⟨rfl, by decide, by decide⟩ (by decide +kernel) (fun w h Y => PySem.W.km_in_of Y) ?F (fun _ _ _ _ _ z => z)
  case F =>
    intro w mg f h Y KX G hmg own
    refine' Sj.all_mk4 KX G hmg own rfl ?gCI ?gCJ ?gCL ?gCD ?gCS ?gCF ?gLet ?gLon ?gRes ?lRes ?sRes ?vRes ?z_isinstance ?z_str ?z_len ?z_all ?z_bool ?z_int ?z_abs ?z_range ?z_list ?z_tuple ?z_zip ?z_sorted ?z_super ?z_ValueError ?aN ?lN ?cN ?kN ?aIi ?lIi ?cIi ?kIi ?aBt ?lBt ?cBt ?kBt ?aWr ?lWr ?cWr ?kWr ?aLI ?iLI ?lLI ?cLI ?kLI ?aPn ?lPn ?cPn ?kPn ?aDr ?lDr ?cDr ?kDr ?aPk ?lPk ?cPk ?kPk ?aTg ?lTg ?cTg ?kTg ?aHe ?lHe ?cHe ?kHe ?aDn ?lDn ?cDn ?kDn ?aFI ?iFI ?lFI ?cFI ?kFI ?n1FI ?r1FI ?n2FI ?r2FI ?n3FI ?r3FI ?tyF ?rdF ?gaF ?moF ?rmF ?aO ?rO ?fO_ ?lO ?cO ?kO ?n1O ?r1O ?n2O ?r2O ?n3O ?r3O ?aIE ?iIE ?tIE ?lIE ?cIE ?mIE ?nIE ?pIE ?qIE ?kIE ?aDI ?iDI ?tDI ?lDI ?cDI ?mDI ?nDI ?pDI ?qDI ?kDI ?aSI ?iSI ?tSI ?lSI ?cSI ?mSI ?nSI ?pSI ?qSI ?kSI ?aLw ?lLw ?cLw_ ?lC ?vC ?hC ?nT ?top_ ?third ?clsCI ?mrCI ?clsCD ?mrCD ?clsCS ?mrCS ?clsCL ?mrCL ?exL ?exR ?exS ?exB ?exV ?exT ?exK ?exN ?exU ?exJ ?exG ?exA ?exH ?exC ?exO ?exI ?exW ?fnLI ?tyLI ?suCD ?suCS ?pgCL ?hdCL ?poCL ?saCL ?mkCL ?kcCL ?nnCL ?caCL ?obCL ?pgCD ?hdCD ?poCD ?saCD ?mkCD ?kcCD ?nnCD ?caCD ?obCD ?pgCS ?hdCS ?poCS ?saCS ?mkCS ?kcCS ?nnCS ?caCS ?obCS ?pgCF ?hdCF ?poCF ?saCF ?mkCF ?kcCF ?nf_legs ?nftop ?nfground ?nfpower ?cn ?ct ?kdd ?kii ?kll ?kno ?kst ?kin ?ktu ?klt ?ktt ?kdt
    case gCI => k_is
    case gCJ => k_is
    case gCL => k_is
    case gCD => k_is
    case gCS => k_is
    case gCF => k_is
    case gLet => k_is
    case gLon => k_is
    case gRes => k_is
    case lRes => k_is
    case sRes => decide
    case vRes => exact .cons ⟨_, rfl⟩ (.cons ⟨_, rfl⟩ (.cons ⟨_, rfl⟩ .nil))
    case z_isinstance => k_is
    case z_str => k_is
    case z_len => k_is
    case z_all => k_is
    case z_bool => k_is
    case z_int => k_is
    case z_abs => k_is
    case z_range => k_is
    case z_list => k_is
    case z_tuple => k_is
    case z_zip => k_is
    case z_sorted => k_is
    case z_super => k_is
    case z_ValueError => k_is
    case aN => k_is
    case lN => k_is
    case cN => k_is
    case kN => k_is
    case aIi => k_is
    case lIi => k_is
    case cIi => k_is
    case kIi => k_is
    case aBt => k_is
    case lBt => k_is
    case cBt => k_is
    case kBt => k_is
    case aWr => k_is
    case lWr => k_is
    case cWr => k_is
    case kWr => k_is
    case aLI => k_is
    case iLI => k_is
    case lLI => k_is
    case cLI => k_is
    case kLI => k_is
    case aPn => k_is
    case lPn => k_is
    case cPn => k_is
    case kPn => k_is
    case aDr => k_is
    case lDr => k_is
    case cDr => k_is
    case kDr => k_is
    case aPk => k_is
    case lPk => k_is
    case cPk => k_is
    case kPk => k_is
    case aTg => k_is
    case lTg => k_is
    case cTg => k_is
    case kTg => k_is
    case aHe => k_is
    case lHe => k_is
    case cHe => k_is
    case kHe => k_is
    case aDn => k_is
    case lDn => k_is
    case cDn => k_is
    case kDn => k_is
    case aFI => k_is
    case iFI => k_is
    case lFI => k_is
    case cFI => k_is
    case kFI => k_is
    case n1FI => k_is
    case r1FI => exact ⟨_, rfl⟩
    case n2FI => k_is
    case r2FI => rfl
    case n3FI => k_is
    case r3FI => rfl
    case tyF => k_is
    case rdF => k_is
    case gaF => k_is
    case moF => k_is
    case rmF => exact ⟨_, rfl⟩
    case aO => k_is
    case rO => k_is
    case fO_ => k_is
    case lO => k_is
    case cO => k_is
    case kO => k_is
    case n1O => k_is
    case r1O => exact ⟨_, rfl⟩
    case n2O => k_is
    case r2O => rfl
    case n3O => k_is
    case r3O => rfl
    case aIE => k_is
    case iIE => k_is
    case tIE => k_is
    case lIE => k_is
    case cIE => k_is
    case mIE => k_is
    case nIE => rfl
    case pIE => first | rfl | decide +kernel
    case qIE => k_is
    case kIE => k_is
    case aDI => k_is
    case iDI => k_is
    case tDI => k_is
    case lDI => k_is
    case cDI => k_is
    case mDI => k_is
    case nDI => rfl
    case pDI => first | rfl | decide +kernel
    case qDI => k_is
    case kDI => k_is
    case aSI => k_is
    case iSI => k_is
    case tSI => k_is
    case lSI => k_is
    case cSI => k_is
    case mSI => k_is
    case nSI => rfl
    case pSI => first | rfl | decide +kernel
    case qSI => k_is
    case kSI => k_is
    case aLw => k_is
    case lLw => k_is
    case cLw_ => k_is
    case lC => k_is
    case vC => rfl
    case hC => kernel_rfl
    case nT => kernel_rfl
    case top_ => first | rfl | decide +kernel
    case third => k_is
    case clsCI => k_is
    case mrCI => k_is
    case clsCD => k_is
    case mrCD => k_is
    case clsCS => k_is
    case mrCS => k_is
    case clsCL => k_is
    case mrCL => k_is
    case exL => k_is
    case exR => decide +kernel
    case exS => k_is
    case exB => k_is
    case exV => k_is
    case exT => k_is
    case exK => k_is
    case exN => k_is
    case exU => kernel_rfl
    case exJ => kernel_rfl
    case exG => k_is
    case exA => k_is
    case exH => k_is
    case exC => k_is
    case exO => k_is
    case exI => kernel_rfl
    case exW => kernel_rfl
    case fnLI => k_is
    case tyLI => k_is
    case suCD => kernel_rfl
    case suCS => kernel_rfl
    case pgCL => k_is
    case hdCL => k_is
    case poCL => k_is
    case saCL => k_is
    case mkCL => k_is
    case kcCL => k_is
    case nnCL => k_is
    case caCL => k_is
    case obCL => k_is
    case pgCD => k_is
    case hdCD => k_is
    case poCD => k_is
    case saCD => k_is
    case mkCD => k_is
    case kcCD => k_is
    case nnCD => k_is
    case caCD => k_is
    case obCD => k_is
    case pgCS => k_is
    case hdCS => k_is
    case poCS => k_is
    case saCS => k_is
    case mkCS => k_is
    case kcCS => k_is
    case nnCS => k_is
    case caCS => k_is
    case obCS => k_is
    case pgCF => k_is
    case hdCF => k_is
    case poCF => k_is
    case saCF => k_is
    case mkCF => k_is
    case kcCF => k_is
    case nf_legs => k_is
    case nftop => k_is
    case nfground => k_is
    case nfpower => k_is
    case cn => k_is
    case ct => k_is
    case kdd => kernel_rfl
    case kii => kernel_rfl
    case kll => kernel_rfl
    case kno => kernel_rfl
    case kst => kernel_rfl
    case kin => kernel_rfl
    case ktu => kernel_rfl
    case klt => kernel_rfl
    case ktt => kernel_rfl
    case kdt => kernel_rfl
