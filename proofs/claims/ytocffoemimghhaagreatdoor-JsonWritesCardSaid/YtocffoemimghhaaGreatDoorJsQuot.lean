/-
  entrepotref6.quoted: a text as JSON writes it, for every text.
-/
import Derived.Test.YtocffoemimghhaaGreatDoorJsStr
import Derived.Laws.OwnMore
namespace Go.Proofs.YtocffoemimghhaaGreatDoor
open Go.RowKit Go.Shelf
set_option linter.unusedVariables false

theorem bo_lit (W : World) (l : List UInt8) (cs : Array Value) (hl : cs.toList = U8s l) (h : l.length ≤ 1000) : Bo (W.alloc (.cells cs 5)) W.heap.size (.slice (some ⟨W.heap.size, 0, none⟩) l.length l.length) l := by
  have := World.ownsRow_lit (e := 5) (size := 1) (base := W.heap.size) W cs l.length (Nat.le_refl _) (by unfold maxLen; omega) (by rw [← Array.length_toList, hl, U8s_len, Nat.mul_one])
  rw [hl] at this
  exact this
theorem bo_bytes {W : World} {base q N cap : Nat} {l : List UInt8} (h : Bo W base (.slice (some ⟨q, 0, none⟩) N cap) l) : BytesAt W q 0 l := by
  intro i b hi
  have := World.ownsRow.cells h (g := q) rfl i (.int .u8 (b.toNat : Int)) (by unfold U8s; rw [List.getElem?_map, hi]; rfl)
  rwa [addr_add] at this
theorem jesc_is {c : UInt8} (d x : UInt8) (h : c = d) (hj : jesc d = [92, x]) : jesc c = [92, x] := by rw [h]; exact hj
theorem jesc_cases (c : UInt8) : (c = 34 ∨ c = 92) ∨ c = 8 ∨ c = 9 ∨ c = 10 ∨ c = 12 ∨ c = 13 ∨ (c.toNat < 32 ∧ c.toNat ≠ 34 ∧ c.toNat ≠ 92 ∧ c.toNat ≠ 8 ∧ c.toNat ≠ 9 ∧ c.toNat ≠ 10 ∧ c.toNat ≠ 12 ∧ c.toNat ≠ 13) ∨ (32 ≤ c.toNat ∧ c.toNat ≠ 34 ∧ c.toNat ≠ 92 ∧ c.toNat ≠ 8 ∧ c.toNat ≠ 9 ∧ c.toNat ≠ 10 ∧ c.toNat ≠ 12 ∧ c.toNat ≠ 13) := by
  have nn : ∀ (k : UInt8), c ≠ k → c.toNat ≠ k.toNat := fun k h hc => h (UInt8.toNat_inj.1 hc)
  by_cases h1 : c = 34
  · exact Or.inl (Or.inl h1)
  by_cases h2 : c = 92
  · exact Or.inl (Or.inr h2)
  by_cases h3 : c = 8
  · exact Or.inr (Or.inl h3)
  by_cases h4 : c = 9
  · exact Or.inr (Or.inr (Or.inl h4))
  by_cases h5 : c = 10
  · exact Or.inr (Or.inr (Or.inr (Or.inl h5)))
  by_cases h6 : c = 12
  · exact Or.inr (Or.inr (Or.inr (Or.inr (Or.inl h6))))
  by_cases h7 : c = 13
  · exact Or.inr (Or.inr (Or.inr (Or.inr (Or.inr (Or.inl h7)))))
  have m1 := nn 34 h1; have m2 := nn 92 h2; have m3 := nn 8 h3; have m4 := nn 9 h4; have m5 := nn 10 h5; have m6 := nn 12 h6; have m7 := nn 13 h7
  by_cases h8 : c.toNat < 32
  · exact Or.inr (Or.inr (Or.inr (Or.inr (Or.inr (Or.inr (Or.inl ⟨h8, m1, m2, m3, m4, m5, m6, m7⟩))))))
  · exact Or.inr (Or.inr (Or.inr (Or.inr (Or.inr (Or.inr (Or.inr ⟨by omega, m1, m2, m3, m4, m5, m6, m7⟩))))))
theorem jesc_low {c : UInt8} (h : c.toNat < 32) (m3 : c.toNat ≠ 8) (m4 : c.toNat ≠ 9) (m5 : c.toNat ≠ 10) (m6 : c.toNat ≠ 12) (m7 : c.toNat ≠ 13) : jesc c = [92, 117, 48, 48, jhex (c.toNat / 16), jhex (c.toNat % 16)] := by
  have nn : ∀ (k : UInt8), c.toNat ≠ k.toNat → c ≠ k := fun k h hc => h (by rw [hc])
  unfold jesc
  rw [if_neg (nn 34 (by show c.toNat ≠ 34; omega)), if_neg (nn 92 (by show c.toNat ≠ 92; omega)), if_neg (nn 8 m3), if_neg (nn 12 m6), if_neg (nn 10 m5), if_neg (nn 13 m7), if_neg (nn 9 m4), if_pos h]
theorem jesc_self {c : UInt8} (h : 32 ≤ c.toNat) (m1 : c.toNat ≠ 34) (m2 : c.toNat ≠ 92) : jesc c = [c] := by
  have nn : ∀ (k : UInt8), c.toNat ≠ k.toNat → c ≠ k := fun k h hc => h (by rw [hc])
  unfold jesc
  rw [if_neg (nn 34 m1), if_neg (nn 92 m2), if_neg (nn 8 (by show c.toNat ≠ 8; omega)), if_neg (nn 12 (by show c.toNat ≠ 12; omega)), if_neg (nn 10 (by show c.toNat ≠ 10; omega)), if_neg (nn 13 (by show c.toNat ≠ 13; omega)), if_neg (nn 9 (by show c.toNat ≠ 9; omega)), if_neg (by omega)]
theorem hex_all : ∀ i ∈ List.range 16, (⟨#[48, 49, 50, 51, 52, 53, 54, 55, 56, 57, 97, 98, 99, 100, 101, 102]⟩ : ByteArray).data.toList[i]? = some (jhex i) := by decide +kernel
theorem hex_at (i : Nat) (h : i < 16) : (⟨#[48, 49, 50, 51, 52, 53, 54, 55, 56, 57, 97, 98, 99, 100, 101, 102]⟩ : ByteArray)[i]'h = jhex i := by
  have h1 := hex_all i (List.mem_range.2 h)
  rw [List.getElem?_eq_getElem (by exact h)] at h1
  exact Option.some.inj h1
theorem and_all : ∀ n ∈ List.range 32, bits .and .u8 (n : Int) 15 = ((n % 16 : Nat) : Int) := by decide +kernel
set_option maxRecDepth 100000 in
set_option maxHeartbeats 8000000 in
theorem rquoted (s : ByteArray) (hs : s.size ≤ 100000) (w : World) :
    Calls Tryz.prog 40 #[.string s] w fun e w' => e = .returned (.string (str (jq s.data.toList))) ∧ Below w.heap.size w w' := by
  have HLen : Hid (s.data.toList.length = s.size) := Lib.hid (bytes_len s)
  have HB1 : Hid (Bo (w.alloc (.cells #[.int .u8 34] 5)) w.heap.size (.slice (some ⟨w.heap.size, 0, none⟩) 1 1) [34]) := Lib.hid (bo_lit w [34] _ rfl (by decide))
  have HW1 : Hid (Below w.heap.size w (w.alloc (.cells #[.int .u8 34] 5))) := Lib.hid (bal (Below.refl _ _) _)
  go_enter Tryz.func40, Tryz.ntmps40
  go_wp2
  go_loopw [3, 4, 5] (fun bv iv _ wr => ∃ (k : Nat) (r : List UInt8), k ≤ s.size ∧ iv = .int .i64 k ∧ Hid (Bo wr w.heap.size bv r) ∧ Hid (Below w.heap.size w wr) ∧ Hid (r = 34 :: (s.data.toList.take k).flatMap jesc) ∧ r.length ≤ 1 + 6 * k) (fun _ i _ _ => s.size - (intOf i).toNat)
  case atStart => exact ⟨0, [34], Nat.zero_le _, rfl, HB1, HW1, (by show _ = _; rw [List.take_zero]; rfl), by simp⟩
  case round =>
    obtain ⟨k, r, hk, rfl, HB, BW, HR, hr⟩ := hrel
    clear HB1 HW1
    rename World => wr
    by_cases hlt : k < s.size
    · have hlt2 : (k : Int) < (s.size : Int) := by omega
      obtain ⟨c, hc⟩ : ∃ c, s[k]'hlt = c := ⟨_, rfl⟩
      have HC : Hid (s.data.toList[k]? = some c) := by show _ = _; rw [List.getElem?_eq_getElem (by rw [HLen.out]; exact hlt)]; rw [← hc]; rfl
      rcases jesc_cases c with (rfl | rfl) | rfl | rfl | rfl | rfl | rfl | ⟨h32, m1, m2, m3, m4, m5, m6, m7⟩ | ⟨h32, m1, m2, m3, m4, m5, m6, m7⟩
      · have HJ : Hid (jesc 34 = [92, 34]) := Lib.hid (by decide)
        go_wp2_with (at_builtin; refine wpList_append_bytes _ rfl (.tmp 27) (.tmp 29) rfl w.heap.size u3 r rfl (Bo.alloc HB.out _) _ 2 2 [92, 34] rfl rfl (by decide) (LitB.of (hnewB rfl) rfl) _ rfl (by omega) (by have := BW.out.size; simp; omega) ?_; intro q cap w2 B2 O2; have HB2 := Lib.hid B2; have HW2 := Lib.hid (below_seq (bal BW.out _) (O2.frame (by have := BW.out.size; simp; omega) (Bo.alloc HB.out _))); clear B2 O2)
        go_roundw
        case rel => exact ⟨k + 1, r ++ [92, 34], by omega, by go_num, HB2.out, HW2.out, (by show _ = _; rw [HR.out, take_next HC.out, List.flatMap_append, List.flatMap_cons, List.flatMap_nil, List.append_nil, HJ.out]; simp), by rw [List.length_append]; simp; omega⟩
        case measure => simp [intOf]; omega
      · have HJ : Hid (jesc 92 = [92, 92]) := Lib.hid (by decide)
        go_wp2_with (at_builtin; refine wpList_append_bytes _ rfl (.tmp 27) (.tmp 29) rfl w.heap.size u3 r rfl (Bo.alloc HB.out _) _ 2 2 [92, 92] rfl rfl (by decide) (LitB.of (hnewB rfl) rfl) _ rfl (by omega) (by have := BW.out.size; simp; omega) ?_; intro q cap w2 B2 O2; have HB2 := Lib.hid B2; have HW2 := Lib.hid (below_seq (bal BW.out _) (O2.frame (by have := BW.out.size; simp; omega) (Bo.alloc HB.out _))); clear B2 O2)
        go_roundw
        case rel => exact ⟨k + 1, r ++ [92, 92], by omega, by go_num, HB2.out, HW2.out, (by show _ = _; rw [HR.out, take_next HC.out, List.flatMap_append, List.flatMap_cons, List.flatMap_nil, List.append_nil, HJ.out]; simp), by rw [List.length_append]; simp; omega⟩
        case measure => simp [intOf]; omega
      · have HJ : Hid (jesc 8 = [92, 98]) := Lib.hid (by decide)
        go_wp2_with (at_builtin; refine wpList_append_text _ rfl (.tmp 34) _ rfl w.heap.size u3 r rfl HB.out ⟨#[92, 98]⟩ rfl (by show r.length + 2 ≤ _; omega) BW.out.size ?_; intro v2 w2 B2 O2; have HB2 := Lib.hid B2; have HW2 := Lib.hid (below_seq BW.out (O2.frame BW.out.size HB.out)); clear B2 O2)
        go_roundw
        case rel => exact ⟨k + 1, r ++ [92, 98], by omega, by go_num, HB2.out, HW2.out, (by show _ = _; rw [HR.out, take_next HC.out, List.flatMap_append, List.flatMap_cons, List.flatMap_nil, List.append_nil, HJ.out]; simp), by rw [List.length_append]; simp; omega⟩
        case measure => simp [intOf]; omega
      · have HJ : Hid (jesc 9 = [92, 116]) := Lib.hid (by decide)
        go_wp2_with (at_builtin; refine wpList_append_text _ rfl (.tmp 39) _ rfl w.heap.size u3 r rfl HB.out ⟨#[92, 116]⟩ rfl (by show r.length + 2 ≤ _; omega) BW.out.size ?_; intro v2 w2 B2 O2; have HB2 := Lib.hid B2; have HW2 := Lib.hid (below_seq BW.out (O2.frame BW.out.size HB.out)); clear B2 O2)
        go_roundw
        case rel => exact ⟨k + 1, r ++ [92, 116], by omega, by go_num, HB2.out, HW2.out, (by show _ = _; rw [HR.out, take_next HC.out, List.flatMap_append, List.flatMap_cons, List.flatMap_nil, List.append_nil, HJ.out]; simp), by rw [List.length_append]; simp; omega⟩
        case measure => simp [intOf]; omega
      · have HJ : Hid (jesc 10 = [92, 110]) := Lib.hid (by decide)
        go_wp2_with (at_builtin; refine wpList_append_text _ rfl (.tmp 44) _ rfl w.heap.size u3 r rfl HB.out ⟨#[92, 110]⟩ rfl (by show r.length + 2 ≤ _; omega) BW.out.size ?_; intro v2 w2 B2 O2; have HB2 := Lib.hid B2; have HW2 := Lib.hid (below_seq BW.out (O2.frame BW.out.size HB.out)); clear B2 O2)
        go_roundw
        case rel => exact ⟨k + 1, r ++ [92, 110], by omega, by go_num, HB2.out, HW2.out, (by show _ = _; rw [HR.out, take_next HC.out, List.flatMap_append, List.flatMap_cons, List.flatMap_nil, List.append_nil, HJ.out]; simp), by rw [List.length_append]; simp; omega⟩
        case measure => simp [intOf]; omega
      · have HJ : Hid (jesc 12 = [92, 102]) := Lib.hid (by decide)
        go_wp2_with (at_builtin; refine wpList_append_text _ rfl (.tmp 49) _ rfl w.heap.size u3 r rfl HB.out ⟨#[92, 102]⟩ rfl (by show r.length + 2 ≤ _; omega) BW.out.size ?_; intro v2 w2 B2 O2; have HB2 := Lib.hid B2; have HW2 := Lib.hid (below_seq BW.out (O2.frame BW.out.size HB.out)); clear B2 O2)
        go_roundw
        case rel => exact ⟨k + 1, r ++ [92, 102], by omega, by go_num, HB2.out, HW2.out, (by show _ = _; rw [HR.out, take_next HC.out, List.flatMap_append, List.flatMap_cons, List.flatMap_nil, List.append_nil, HJ.out]; simp), by rw [List.length_append]; simp; omega⟩
        case measure => simp [intOf]; omega
      · have HJ : Hid (jesc 13 = [92, 114]) := Lib.hid (by decide)
        go_wp2_with (at_builtin; refine wpList_append_text _ rfl (.tmp 54) _ rfl w.heap.size u3 r rfl HB.out ⟨#[92, 114]⟩ rfl (by show r.length + 2 ≤ _; omega) BW.out.size ?_; intro v2 w2 B2 O2; have HB2 := Lib.hid B2; have HW2 := Lib.hid (below_seq BW.out (O2.frame BW.out.size HB.out)); clear B2 O2)
        go_roundw
        case rel => exact ⟨k + 1, r ++ [92, 114], by omega, by go_num, HB2.out, HW2.out, (by show _ = _; rw [HR.out, take_next HC.out, List.flatMap_append, List.flatMap_cons, List.flatMap_nil, List.append_nil, HJ.out]; simp), by rw [List.length_append]; simp; omega⟩
        case measure => simp [intOf]; omega
      · obtain ⟨V3, rfl⟩ : ∃ x, x = u3 := ⟨u3, rfl⟩
        obtain ⟨i, hi⟩ : ∃ i, c.toNat / 16 = i := ⟨_, rfl⟩
        obtain ⟨j, hj⟩ : ∃ j, c.toNat % 16 = j := ⟨_, rfl⟩
        have hi16 : i < 16 := by omega
        have hj16 : j < 16 := by omega
        obtain ⟨x, hx⟩ : ∃ x, (⟨#[48, 49, 50, 51, 52, 53, 54, 55, 56, 57, 97, 98, 99, 100, 101, 102]⟩ : ByteArray)[i]'hi16 = x := ⟨_, rfl⟩
        obtain ⟨y, hy⟩ : ∃ y, (⟨#[48, 49, 50, 51, 52, 53, 54, 55, 56, 57, 97, 98, 99, 100, 101, 102]⟩ : ByteArray)[j]'hj16 = y := ⟨_, rfl⟩
        have HJ : Hid (jesc c = [92, 117, 48, 48, x, y]) := Lib.hid (by rw [jesc_low h32 m3 m4 m5 m6 m7, hi, hj, ← hx, ← hy, hex_at i hi16, hex_at j hj16])
        have hand := and_all c.toNat (List.mem_range.2 h32)
        rw [hj] at hand
        obtain ⟨C, hC⟩ : ∃ C : Int, (c.toNat : Int) = C := ⟨_, rfl⟩
        have hc0 : 0 ≤ C := by omega
        have hc32 : C < 32 := by omega
        have hdiv : C / 16 = (i : Int) := by omega
        have b1 : (0 : Int) ≤ (i : Int) := by omega
        have b2 : (i : Int) < 16 := by omega
        have b3 : (0 : Int) ≤ (j : Int) := by omega
        have b4 : (j : Int) < 16 := by omega
        rw [hC] at hand
        have n1 : (C == 34) = false := by rw [beq_eq_false_iff_ne]; omega
        have n2 : (C == 92) = false := by rw [beq_eq_false_iff_ne]; omega
        have n3 : (C == 8) = false := by rw [beq_eq_false_iff_ne]; omega
        have n4 : (C == 9) = false := by rw [beq_eq_false_iff_ne]; omega
        have n5 : (C == 10) = false := by rw [beq_eq_false_iff_ne]; omega
        have n6 : (C == 12) = false := by rw [beq_eq_false_iff_ne]; omega
        have n7 : (C == 13) = false := by rw [beq_eq_false_iff_ne]; omega
        clear m1 m2 m3 m4 m5 m6 m7 h32 hi hj
        have HLIT : Hid (∀ W : World, W.heap = (wr.alloc (.cells #[.int .u8 92, .int .u8 117, .int .u8 48, .int .u8 48, .int .u8 (x.toNat : Int), .int .u8 (y.toNat : Int)] 5)).heap → LitB W wr.heap.size [92, 117, 48, 48, x, y]) := Lib.hid (fun W hW => LitB.of (cs := #[.int .u8 92, .int .u8 117, .int .u8 48, .int .u8 48, .int .u8 (x.toNat : Int), .int .u8 (y.toNat : Int)]) (t := 5) (by rw [hW]; exact heap_alloc_new wr _) rfl)
        go_wp2
        first | (go_region_held3 (fun _ => True) (trivial) (first | (refine step_append_bytes rfl (.tmp 59) (.tmp 66) rfl w.heap.size V3 r rfl ?_ wr.heap.size 6 6 [92, 117, 48, 48, x, y] ?_ ?_ ?_ ?_ (r.length + 6) ?_ ?_ ?_ ?_; (repeat (first | (with_reducible exact HB.out) | (with_reducible refine Bo.alloc ?_ _) | (with_reducible refine Bo.drew ?_))); (first | rfl | (simp [Act.eval]; done)); rfl; decide; (exact HLIT.out _ rfl); rfl; omega; (have := BW.out.size; simp <;> omega); intro q cap w2 B2 O2; have HB2 := Lib.hid B2; have HW2 : Hid (Below w.heap.size w w2) := Lib.hid (by have F := O2.frame (base := w.heap.size) (l := r) (by have := BW.out.size; simp <;> omega) (by repeat (first | (with_reducible exact HB.out) | (with_reducible refine Bo.alloc ?_ _) | (with_reducible refine Bo.drew ?_))); exact below_seq (by repeat (first | (with_reducible exact BW.out) | (with_reducible refine bal ?_ _) | (with_reducible refine Below.drew ?_))) F); clear B2 O2) | fail)) | fail
        all_goals
          go_wp2
          go_roundw
          case rel => exact ⟨k + 1, r ++ [92, 117, 48, 48, x, y], by omega, by go_num, HB2.out, HW2.out, (by show _ = _; rw [HR.out, take_next HC.out, List.flatMap_append, List.flatMap_cons, List.flatMap_nil, List.append_nil, HJ.out]; simp), by rw [List.length_append]; simp; omega⟩
          case measure => simp [intOf]; omega
      · have HJ : Hid (jesc c = [c]) := Lib.hid (jesc_self h32 m1 m2)
        obtain ⟨C, hC⟩ : ∃ C : Int, (c.toNat : Int) = C := ⟨_, rfl⟩
        have HCC := Lib.hid hC
        have hc32 : ¬ C < 32 := by omega
        have n1 : (C == 34) = false := by rw [beq_eq_false_iff_ne]; omega
        have n2 : (C == 92) = false := by rw [beq_eq_false_iff_ne]; omega
        have n3 : (C == 8) = false := by rw [beq_eq_false_iff_ne]; omega
        have n4 : (C == 9) = false := by rw [beq_eq_false_iff_ne]; omega
        have n5 : (C == 10) = false := by rw [beq_eq_false_iff_ne]; omega
        have n6 : (C == 12) = false := by rw [beq_eq_false_iff_ne]; omega
        have n7 : (C == 13) = false := by rw [beq_eq_false_iff_ne]; omega
        clear m1 m2 m3 m4 m5 m6 m7
        go_wp2_with (at_builtin; refine wpList_append_bytes _ rfl (.tmp 16) (.tmp 18) rfl w.heap.size u3 r rfl (Bo.alloc HB.out _) _ 1 1 [c] rfl rfl (by decide) (LitB.of (hnewB rfl) (by rw [← HCC.out]; rfl)) _ rfl (by omega) (by have := BW.out.size; simp; omega) ?_; intro q cap w2 B2 O2; have HB2 := Lib.hid B2; have HW2 := Lib.hid (below_seq (bal BW.out _) (O2.frame (by have := BW.out.size; simp; omega) (Bo.alloc HB.out _))); clear B2 O2)
        go_roundw
        case rel => exact ⟨k + 1, r ++ [c], by omega, by go_num, HB2.out, HW2.out, (by show _ = _; rw [HR.out, take_next HC.out, List.flatMap_append, List.flatMap_cons, List.flatMap_nil, List.append_nil, HJ.out]; simp), by rw [List.length_append]; simp; omega⟩
        case measure => simp [intOf]; omega
    · have hge : ¬ (k : Int) < (s.size : Int) := by omega
      obtain rfl : k = s.size := by omega
      go_wp2_with (at_builtin; refine wpList_append_bytes _ rfl (.tmp 68) (.tmp 69) rfl w.heap.size u3 r rfl (Bo.alloc HB.out _) _ 1 1 [34] rfl rfl (by decide) (LitB.of (hnewB rfl) rfl) _ rfl (by omega) (by have := BW.out.size; simp; omega) ?_; intro q cap w2 B2 O2; have hcv := conv_bytes w2 q 0 cap (r ++ [34]) (bo_bytes B2) (r.length + 1) (by simp); have HW2 := Lib.hid (below_seq (bal BW.out _) (O2.frame (by have := BW.out.size; simp; omega) (Bo.alloc HB.out _))); clear B2 O2)
      go_ret
      refine ⟨?_, HW2.out⟩
      rw [HR.out, List.take_of_length_le (by rw [HLen.out]; exact Nat.le_refl _)]
      rfl
end Go.Proofs.YtocffoemimghhaaGreatDoor
