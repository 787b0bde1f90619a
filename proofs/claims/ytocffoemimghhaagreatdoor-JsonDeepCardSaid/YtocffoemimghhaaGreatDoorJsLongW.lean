/-
  entrepotlaw7.JsonLong answers true.
-/
import Derived.Test.YtocffoemimghhaaGreatDoorJsLongD
namespace Go.Proofs.YtocffoemimghhaaGreatDoor
open Go.RowKit Go.Shelf
set_option linter.unusedVariables false
attribute [local go_sem ↓] eql_nat neq_nat

theorem long_k (z : Int) : ∃ K : Int, wrap64 (wrap64 ((IntKind.u64.wrap z).tmod 5) - 2) = K ∧ (K = -2 ∨ K = -1 ∨ K = 0 ∨ K = 1 ∨ K = 2) := by
  refine ⟨_, rfl, ?_⟩
  have h0 : 0 ≤ IntKind.u64.wrap z := by
    show 0 ≤ z % 18446744073709551616
    omega
  obtain ⟨y, hy⟩ : ∃ y, IntKind.u64.wrap z = y := ⟨_, rfl⟩
  rw [hy] at h0 ⊢
  have h1 : y.tmod 5 = y % 5 := Int.tmod_eq_emod_of_nonneg h0
  rw [h1]
  have h2 : wrap64 (y % 5) = y % 5 := by unfold wrap64; omega
  rw [h2]
  have h3 : wrap64 (y % 5 - 2) = y % 5 - 2 := by unfold wrap64; omega
  rw [h3]
  omega
theorem made_u8 (N : Nat) : madeCells #[.int .u8 0] N = (U8s (List.replicate N 0)).toArray := by
  apply Array.ext'
  apply List.ext_getElem
  · simp [madeCells, U8s]
  · intro i h1 h2
    simp [madeCells, U8s, Nat.mod_one]
theorem make_u8 (N : Nat) (hN : N ≤ 100000) (z : Int) (e : (N : Int) = z) (W : World) :
    (Instr.makeSlice 33 (.int .i64 z) (.int .i64 z)).run Tryz.prog W = .ok (.slice (some ⟨W.heap.size, 0, none⟩) N N) (W.alloc (.cells (U8s (List.replicate N 0)).toArray 5)) := by
  obtain ⟨i0, hi, hz0, hz1, hz2⟩ := info_at info_u8
  rw [← e, ← made_u8]
  exact run_make_row' 33 5 (.int .u8 0) 1 und_u8s info_u8 rfl .i64 .i64 N (by omega) (by omega) W
/-- A row of k bytes that are written and n that are not. -/
def Lk (c : UInt8) (k n : Nat) : List UInt8 := List.replicate k c ++ List.replicate n 0
theorem Lk_len (c : UInt8) (k n : Nat) : (Lk c k n).length = k + n := by unfold Lk; simp
theorem Lk_at (c : UInt8) (k n : Nat) (hn : 0 < n) : (Lk c k n)[k]? = some 0 := by
  unfold Lk
  rw [List.getElem?_append_right (by simp), List.length_replicate, Nat.sub_self, List.getElem?_replicate, if_pos hn]
theorem Lk_set (c : UInt8) (k n : Nat) : (Lk c k (n + 1)).set k c = Lk c (k + 1) n := by
  unfold Lk
  rw [List.set_append_right _ _ (by simp), List.length_replicate, Nat.sub_self, List.replicate_succ, List.set_cons_zero, List.replicate_succ' (n := k), List.append_assoc]
  rfl
def Ro (W : World) (g : Nat) (l : List UInt8) : Prop := W.heap[g]? = some (.cells (U8s l).toArray 5)
theorem by_world (W : World) (l : List UInt8) : BytesAt (Lib.bytesWorld W 5 (str l)) W.heap.size 0 l := by
  intro i b hi
  have hlt := (List.getElem?_eq_some_iff.1 hi).1
  have := Lib.bytesWorld_cell W 5 (str l) i (by rw [str_size]; exact hlt)
  rw [str_data, List.getD_eq_getElem?_getD, hi] at this
  rw [Nat.zero_add]
  exact this
theorem hnewL {W : World} {o : Obj} {B : Nat} (h : W.heap.size = B) : (W.alloc o).heap[B]? = some o := by subst h; exact heap_alloc_new W o
theorem Ro.bytes {W : World} {g : Nat} {l : List UInt8} (h : Ro W g l) : BytesAt W g 0 l := by
  intro i b hi
  rw [Nat.zero_add, cell_of_row _ g i _ _ _ h]
  unfold U8s
  simp [hi]
theorem Ro.set {W : World} {g k : Nat} {l : List UInt8} {c : UInt8} (h : Ro W g l) : Ro (W.setCell ⟨g, k, none⟩ (.int .u8 (c.toNat : Int))) g (l.set k c) := by
  have := heap_setCell_same W g k _ _ (.int .u8 (c.toNat : Int)) h
  unfold Ro
  rw [this]
  unfold U8s
  simp [List.map_set]
theorem Ro.other {W : World} {g b k : Nat} {l : List UInt8} {u : Value} (h : Ro W g l) (hne : g ≠ b) : Ro (W.setCell ⟨b, k, none⟩ u) g l := (Below.heap_setCell W ⟨b, k, none⟩ u g hne).trans h
set_option maxRecDepth 100000 in
set_option maxHeartbeats 8000000 in
theorem jlong_core (z K : Int) (hK : wrap64 (wrap64 ((IntKind.u64.wrap z).tmod 5) - 2) = K) (hK5 : -2 ≤ K ∧ K ≤ 2) (N M L : Nat) (hN : (N : Int) = 4096 + K) (hM : (M : Int) = 398 + K) (hL : (L : Int) = 65536 + K) (E1 E2 E3 X : Int) (hE : (K ≤ 0 ∧ E1 = 0 ∧ E2 = 0 ∧ E3 = 3 ∧ X = 1) ∨ (0 < K ∧ E1 = 8 ∧ E2 = 8 ∧ E3 = 8 ∧ X = 0)) (w : World) (hT : Tabs w)
    (k1 : ∀ W g cap, Below w.heap.size w W → BytesAt W g 0 (qx N) → Calls Tryz.prog 12 #[.slice (some ⟨g, 0, none⟩) (str (qx N)).size cap] W fun e w' => ∃ (kd1 : Int) (bg1 : Bool) (y1 p1a p1b p1c bi1 : Int) (s1 : ByteArray) (la1 : Option Addr) (n1 lc1 : Nat) (ka1 : Option Addr) (m1 kc1 : Nat), e = .returned (.tuple #[V10 kd1 bg1 y1 p1a p1b p1c bi1 s1 la1 n1 lc1 ka1 m1 kc1, .int .i64 E1]) ∧ Below W.heap.size W w')
    (k2 : ∀ W g cap, Below w.heap.size w W → BytesAt W g 0 (on M) → Calls Tryz.prog 12 #[.slice (some ⟨g, 0, none⟩) (str (on M)).size cap] W fun e w' => ∃ (kd2 : Int) (bg2 : Bool) (bi2 : Int) (s2 : ByteArray) (la2 : Option Addr) (n2 lc2 : Nat) (ka2 : Option Addr) (m2 kc2 : Nat), e = .returned (.tuple #[V10 kd2 bg2 X 0 0 0 bi2 s2 la2 n2 lc2 ka2 m2 kc2, .int .i64 E2]) ∧ Below W.heap.size W w')
    (k3 : ∀ W g, Below w.heap.size w W → BytesAt W g 0 (List.replicate L 0) → Calls Tryz.prog 12 #[.slice (some ⟨g, 0, none⟩) L L] W fun e w' => ∃ (kd3 : Int) (bg3 : Bool) (y3 p3a p3b p3c bi3 : Int) (s3 : ByteArray) (la3 : Option Addr) (n3 lc3 : Nat) (ka3 : Option Addr) (m3 kc3 : Nat), e = .returned (.tuple #[V10 kd3 bg3 y3 p3a p3b p3c bi3 s3 la3 n3 lc3 ka3 m3 kc3, .int .i64 E3]) ∧ Below W.heap.size W w') :
    Calls Tryz.prog 6 #[.int .i64 z] w fun e w' => e = .returned (.bool true) ∧ Below w.heap.size w w' := by
  have K1 := Lib.hid k1; have K2 := Lib.hid k2; have K3 := Lib.hid k3; have HE := Lib.hid hE
  have HL3 := Lib.hid hL
  clear k1 k2 k3 hE
  have hs1 : wrap64 (4096 + K) = 4096 + K := by unfold wrap64; omega
  have hs2 : wrap64 (398 + K) = 398 + K := by unfold wrap64; omega
  have hs3 : IntKind.i64.wrap (4096 + K) = 4096 + K := by rw [IntKind.wrap_i64]; omega
  have hs4 : IntKind.i64.wrap (398 + K) = 398 + K := by rw [IntKind.wrap_i64]; omega
  have hm1 := make_u8 N (by omega) _ hN
  have hm2 := make_u8 M (by omega) _ hM
  go_enter Tryz.func6, Tryz.ntmps6
  go_wp2
  rw [hK]
  go_cut [4, 5] from 22 to 27 (fun v4 v5 wx => ∃ ga gb : Nat, v4 = .slice (some ⟨ga, 0, none⟩) N N ∧ v5 = .slice (some ⟨gb, 0, none⟩) M M ∧ ga ≠ gb ∧ w.heap.size ≤ ga ∧ w.heap.size ≤ gb ∧ Hid (wx.heap[ga]? = some (.cells (U8s (List.replicate N 0)).toArray 5)) ∧ Hid (wx.heap[gb]? = some (.cells (U8s (List.replicate M 0)).toArray 5)) ∧ Hid (Below w.heap.size w wx))
  case first =>
    go_region_with (fail)
    all_goals
      go_wp2_with fail
      try simp only [Act.put, List.getElem_toArray, List.getElem_cons_succ, List.getElem_cons_zero, List.setIfInBounds_toArray, List.set_cons_zero, List.set_cons_succ]
      go_meet
      first
        | (refine ⟨w.heap.size, w.heap.size + 1, rfl, rfl, by omega, by omega, by omega, Lib.hid ?_, Lib.hid ?_, Lib.hid ?_⟩)
        | (refine ⟨w.heap.size + 1, w.heap.size, rfl, rfl, by omega, by omega, by omega, Lib.hid ?_, Lib.hid ?_, Lib.hid ?_⟩)
      · first | exact hnewV (by simp) | exact (Below.heap_alloc _ _ _ (by simp)).trans (hnewV (by simp))
      · first | exact hnewV (by simp) | exact (Below.heap_alloc _ _ _ (by simp)).trans (hnewV (by simp))
      · repeat (first | (with_reducible exact Below.refl _ _) | (with_reducible refine bal ?_ _) | (with_reducible refine Below.drew ?_))
  obtain ⟨ga, gb, rfl, rfl, hab, hga, hgb, HA, HB, BW⟩ := hcut
  clear hs1 hs2 hs3 hs4 hm1 hm2 hL
  have hK1 := hK5.1
  have hK2 := hK5.2
  have HT := Lib.hid hT
  have HN := Lib.hid hN; have HM := Lib.hid hM
  have RA : Hid (Ro wc ga (Lk 120 0 N)) := Lib.hid HA.out
  have RB : Hid (Ro wc gb (Lk 48 0 M)) := Lib.hid HB.out
  clear hT HA HB
  have hN9 : N ≤ 4098 := by omega
  have hM9 : M ≤ 400 := by omega
  go_wp2
  go_loopw [6] (fun iv wr => ∃ k : Nat, k ≤ N ∧ iv = .int .i64 k ∧ Hid (Ro wr ga (Lk 120 k (N - k))) ∧ Hid (Ro wr gb (Lk 48 0 M)) ∧ Hid (Below w.heap.size w wr)) (fun i _ => N - (intOf i).toNat)
  case atStart => exact ⟨0, Nat.zero_le _, rfl, RA, RB, BW⟩
  case round =>
    obtain ⟨k, hk, rfl, HA, HB, BR⟩ := hrel
    clear RA RB BW
    rename World => wr
    by_cases hlt : k < N
    · have hlt2 : (k : Int) < (N : Int) := by omega
      have hc := (HA.out.bytes) k 0 (Lk_at 120 k (N - k) (by omega))
      rw [Nat.zero_add] at hc
      have hf : wr.frozen? ⟨ga, k, none⟩ = false := frozen_of_row wr ga k _ _ HA.out
      go_wp2
      go_roundw
      case rel =>
        refine ⟨k + 1, by omega, by go_num, ?_, Lib.hid (HB.out.other (by omega)), Lib.hid (bsc BR.out hga _)⟩
        have h9 := HA.out.set (k := k) (c := 120)
        rw [show N - k = (N - (k + 1)) + 1 by omega, Lk_set] at h9
        exact Lib.hid h9
      case measure => simp [intOf]; omega
    · obtain rfl : k = N := by omega
      have hge : ¬ (k : Int) < (k : Int) := by omega
      rw [Nat.sub_self] at HA
      go_wp2
      go_loopw [7] (fun iv wq => ∃ j : Nat, j ≤ M ∧ iv = .int .i64 j ∧ Hid (Ro wq ga (Lk 120 k 0)) ∧ Hid (Ro wq gb (Lk 48 j (M - j))) ∧ Hid (Below w.heap.size w wq)) (fun i _ => M - (intOf i).toNat)
      case atStart => exact ⟨0, Nat.zero_le _, rfl, HA, HB, BR⟩
      case round =>
        obtain ⟨j, hj, rfl, HA2, HB2, BR2⟩ := hrel
        clear HA HB BR
        rename World => wq
        by_cases hlt3 : j < M
        · have hlt4 : (j : Int) < (M : Int) := by omega
          have hc := (HB2.out.bytes) j 0 (Lk_at 48 j (M - j) (by omega))
          rw [Nat.zero_add] at hc
          have hf : wq.frozen? ⟨gb, j, none⟩ = false := frozen_of_row wq gb j _ _ HB2.out
          go_wp2
          go_roundw
          case rel =>
            refine ⟨j + 1, by omega, by go_num, Lib.hid (HA2.out.other (by omega)), ?_, Lib.hid (bsc BR2.out hgb _)⟩
            have h9 := HB2.out.set (k := j) (c := 48)
            rw [show M - j = (M - (j + 1)) + 1 by omega, Lk_set] at h9
            exact Lib.hid h9
          case measure => simp [intOf]; omega
        · obtain rfl : j = M := by omega
          have hge2 : ¬ (j : Int) < (j : Int) := by omega
          rw [Nat.sub_self] at HB2
          have hcvA := conv_bytes wq ga 0 k (Lk 120 k 0) HA2.out.bytes k (Lk_len 120 k 0)
          have HRB := Lib.hid HB2.out.bytes
          obtain ⟨SA, hSA⟩ : ∃ SA, str (Lk 120 k 0) = SA := ⟨_, rfl⟩
          obtain ⟨QA, hQA⟩ : ∃ QA, ⟨#[34]⟩ ++ SA = QA := ⟨_, rfl⟩
          have hQ9 : QA = str (34 :: List.replicate k 120) := by rw [← hQA, ← hSA, show (⟨#[34]⟩ : ByteArray) = str [34] from rfl, str_app]; unfold Lk; simp
          have hq1 : QA ++ ⟨#[34]⟩ = str (qx k) := by
            rw [hQ9, show (⟨#[34]⟩ : ByteArray) = str [34] from rfl, str_app]
            unfold qx
            rfl
          have hSs : (SA.size : Int) ≤ 8388608 := by rw [← hSA, str_size, Lk_len]; omega
          have hQs : (QA.size : Int) ≤ 8388608 := by rw [hQ9, str_size, List.length_cons, List.length_replicate]; omega
          have h34 : ((⟨#[34]⟩ : ByteArray).size : Int) ≤ 8388608 := by decide
          rw [hSA] at hcvA
          have hc1 := Lib.run_convert_string_bytes (P := Tryz.prog) wq 9 33 5 (str (qx k)) (u := .string) (by kernel_rfl) (by kernel_rfl) (by kernel_rfl)
          have HY1 := Lib.hid (by_world wq (qx k))
          have HZ1 := Lib.hid (below_bytes wq 5 (str (qx k)))
          obtain ⟨cp1, hcp1⟩ : ∃ cp, grownCap wq (str (qx k)).size 0 5 = cp := ⟨_, rfl⟩
          obtain ⟨W1, hW1⟩ : ∃ W1, Lib.bytesWorld wq 5 (str (qx k)) = W1 := ⟨_, rfl⟩
          rw [hcp1, hW1] at hc1
          rw [hW1] at HY1 HZ1
          have BQ := Lib.hid BR2.out
          have KD1 := Lib.hid (K1.out W1 wq.heap.size cp1 (btr BQ.out HZ1.out) HY1.out)
          obtain ⟨SQ, hSQ⟩ : ∃ SQ, str (qx k) = SQ := ⟨_, rfl⟩
          rw [hSQ] at hq1 hc1 KD1
          clear hSA hQ9 hcp1 hW1 HY1 hSQ K1
          go_wp2_with fail
          ((with_reducible refine (KD1.out).mono ?_); rintro e w1 ⟨kd1, bg1, y1, p1a, p1b, p1c, bi1, s1, la1, n1, lc1, ka1, m1, kc1, rfl, hb1⟩)
          have BW1 : Hid (Below wq.heap.size wq (w1.alloc (.cells #[.int .i64 kd1, .bool bg1, .int .u64 y1, .int .u64 p1a, .int .u64 p1b, .int .u64 p1c, .int .u64 bi1, .string s1, .slice la1 n1 lc1, .slice ka1 m1 kc1] 30))) := Lib.hid (bal (btr HZ1.out hb1) _)
          have hcvB := conv_bytes (w1.alloc (.cells #[.int .i64 kd1, .bool bg1, .int .u64 y1, .int .u64 p1a, .int .u64 p1b, .int .u64 p1c, .int .u64 bi1, .string s1, .slice la1 n1 lc1, .slice ka1 m1 kc1] 30)) gb 0 j (Lk 48 j 0) (HRB.out.keep BW1.out) j (Lk_len 48 j 0)
          clear hb1 hcvA hc1 hq1 KD1 hQA HZ1 hQs hSs
          obtain ⟨SB, hSB⟩ : ∃ SB, str (Lk 48 j 0) = SB := ⟨_, rfl⟩
          have hq2 : ⟨#[49, 46]⟩ ++ SB = str (on j) := by rw [← hSB, show (⟨#[49, 46]⟩ : ByteArray) = str [49, 46] from rfl, str_app]; unfold Lk on; simp
          have hSs : (SB.size : Int) ≤ 8388608 := by rw [← hSB, str_size, Lk_len]; omega
          have h49 : ((⟨#[49, 46]⟩ : ByteArray).size : Int) ≤ 8388608 := by decide
          rw [hSB] at hcvB
          have hc2 := Lib.run_convert_string_bytes (P := Tryz.prog) (w1.alloc (.cells #[.int .i64 kd1, .bool bg1, .int .u64 y1, .int .u64 p1a, .int .u64 p1b, .int .u64 p1c, .int .u64 bi1, .string s1, .slice la1 n1 lc1, .slice ka1 m1 kc1] 30)) 9 33 5 (str (on j)) (u := .string) (by kernel_rfl) (by kernel_rfl) (by kernel_rfl)
          have HY2 := Lib.hid (by_world (w1.alloc (.cells #[.int .i64 kd1, .bool bg1, .int .u64 y1, .int .u64 p1a, .int .u64 p1b, .int .u64 p1c, .int .u64 bi1, .string s1, .slice la1 n1 lc1, .slice ka1 m1 kc1] 30)) (on j))
          have HZ2 := Lib.hid (below_bytes (w1.alloc (.cells #[.int .i64 kd1, .bool bg1, .int .u64 y1, .int .u64 p1a, .int .u64 p1b, .int .u64 p1c, .int .u64 bi1, .string s1, .slice la1 n1 lc1, .slice ka1 m1 kc1] 30)) 5 (str (on j)))
          obtain ⟨cp2, hcp2⟩ : ∃ cp, grownCap (w1.alloc (.cells #[.int .i64 kd1, .bool bg1, .int .u64 y1, .int .u64 p1a, .int .u64 p1b, .int .u64 p1c, .int .u64 bi1, .string s1, .slice la1 n1 lc1, .slice ka1 m1 kc1] 30)) (str (on j)).size 0 5 = cp := ⟨_, rfl⟩
          obtain ⟨W2, hW2⟩ : ∃ W2, Lib.bytesWorld (w1.alloc (.cells #[.int .i64 kd1, .bool bg1, .int .u64 y1, .int .u64 p1a, .int .u64 p1b, .int .u64 p1c, .int .u64 bi1, .string s1, .slice la1 n1 lc1, .slice ka1 m1 kc1] 30)) 5 (str (on j)) = W2 := ⟨_, rfl⟩
          rw [hcp2, hW2] at hc2
          rw [hW2] at HY2 HZ2
          have KD2 := Lib.hid (K2.out W2 (w1.alloc (.cells #[.int .i64 kd1, .bool bg1, .int .u64 y1, .int .u64 p1a, .int .u64 p1b, .int .u64 p1c, .int .u64 bi1, .string s1, .slice la1 n1 lc1, .slice ka1 m1 kc1] 30)).heap.size cp2 (btr (btr BQ.out BW1.out) HZ2.out) HY2.out)
          obtain ⟨SQ2, hSQ2⟩ : ∃ SQ, str (on j) = SQ := ⟨_, rfl⟩
          rw [hSQ2] at hq2 hc2 KD2
          rw [World.size_alloc] at KD2
          clear hSB hcp2 hW2 HY2 hSQ2 K2
          go_wp2_with fail
          ((with_reducible refine (KD2.out).mono ?_); rintro e w2 ⟨kd2, bg2, bi2, s2, la2, n2, lc2, ka2, m2, kc2, rfl, hb2⟩)
          have BW2 : Hid (Below wq.heap.size wq (w2.alloc (.cells #[.int .i64 kd2, .bool bg2, .int .u64 X, .int .u64 0, .int .u64 0, .int .u64 0, .int .u64 bi2, .string s2, .slice la2 n2 lc2, .slice ka2 m2 kc2] 30))) := Lib.hid (bal (btr (btr BW1.out HZ2.out) hb2) _)
          have R2 := Lib.hid (Row10.new w2 (.int .i64 kd2) (.bool bg2) (.int .u64 X) (.int .u64 0) (.int .u64 0) (.int .u64 0) (.int .u64 bi2) (.string s2) (.slice la2 n2 lc2) (.slice ka2 m2 kc2))
          have hs5 : wrap64 (65536 + K) = 65536 + K := by unfold wrap64; omega
          have hm3 := make_u8 L (by have := HL3.out; omega) _ HL3.out
          have KD3 := Lib.hid (K3.out ((w2.alloc (.cells #[.int .i64 kd2, .bool bg2, .int .u64 X, .int .u64 0, .int .u64 0, .int .u64 0, .int .u64 bi2, .string s2, .slice la2 n2 lc2, .slice ka2 m2 kc2] 30)).alloc (.cells (U8s (List.replicate L 0)).toArray 5)) (w2.heap.size + 1) (bal (btr BQ.out BW2.out) _) (Ro.bytes (hnewL (by rw [World.size_alloc]))))
          clear hb2 hcvB hc2 hq2 KD2 HZ2 hSs HRB K3
          go_wp2_with fail
          ((with_reducible refine (KD3.out).mono ?_); rintro e w3 ⟨kd3, bg3, y3, p3a, p3b, p3c, bi3, s3, la3, n3, lc3, ka3, m3, kc3, rfl, hb3⟩)
          have BW3 : Hid (Below wq.heap.size wq (w3.alloc (.cells #[.int .i64 kd3, .bool bg3, .int .u64 y3, .int .u64 p3a, .int .u64 p3b, .int .u64 p3c, .int .u64 bi3, .string s3, .slice la3 n3 lc3, .slice ka3 m3 kc3] 30))) := Lib.hid (bal (btr (bal BW2.out _) hb3) _)
          have R3 := Lib.hid ((Row10.keep hb3 (R2.out.alloc (.cells (U8s (List.replicate L 0)).toArray 5))).alloc (.cells #[.int .i64 kd3, .bool bg3, .int .u64 y3, .int .u64 p3a, .int .u64 p3b, .int .u64 p3c, .int .u64 bi3, .string s3, .slice la3 n3 lc3, .slice ka3 m3 kc3] 30))
          have KT := Lib.hid (told7_true (w3.alloc (.cells #[.int .i64 kd3, .bool bg3, .int .u64 y3, .int .u64 p3a, .int .u64 p3b, .int .u64 p3c, .int .u64 bi3, .string s3, .slice la3 n3 lc3, .slice ka3 m3 kc3] 30)) (tabs_on HT.out (btr BQ.out BW3.out)))
          clear hb3 hm3 KD3
          rcases HE.out with ⟨hk0, rfl, rfl, rfl, rfl⟩ | ⟨hk0, rfl, rfl, rfl, rfl⟩
          · have hk1 : ¬ 0 < K := by omega
            clear HE
            go_wp2_with (go_at_call 8; ((with_reducible refine (KT.out).mono ?_); rintro e w4 ⟨rfl, hb4⟩; have R4 := Row10.keep hb4 R3.out; have B4 := Lib.hid (btr (btr BQ.out BW3.out) hb4); obtain ⟨p0, p1, p2, p3, p4, p5, p6, p7, p8, p9⟩ := R4.parts; clear hb4))
            go_ret
            exact ⟨rfl, B4.out⟩
          · clear HE
            go_wp2_with (go_at_call 8; ((with_reducible refine (KT.out).mono ?_); rintro e w4 ⟨rfl, hb4⟩; have R4 := Row10.keep hb4 R3.out; have B4 := Lib.hid (btr (btr BQ.out BW3.out) hb4); obtain ⟨p0, p1, p2, p3, p4, p5, p6, p7, p8, p9⟩ := R4.parts; clear hb4))
            go_ret
            exact ⟨rfl, B4.out⟩
end Go.Proofs.YtocffoemimghhaaGreatDoor
