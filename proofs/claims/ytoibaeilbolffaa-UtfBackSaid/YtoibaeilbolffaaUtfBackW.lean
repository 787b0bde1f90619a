/-
  entrepotlaw5.UtfBack answers true for any numbers.
-/
import Derived.Test.YtoibaeilbolffaaUtfEndsW
import Derived.Test.YtoibaeilbolffaaPlainRow
import Derived.Lib.QuietBelow
import Derived.Laws.AppendOwn
import Derived.Laws.OwnMore
import Derived.OwnWalk
import Derived.Deep.AppendLies
namespace Go.Proofs.Ytoibaeilbolffaa
open Go.RowKit

/-- The number that UtfBack makes; those that are code points. -/
def bcode (z : Int) : Nat := (IntKind.u64.wrap z % 1114112).toNat
def bcs (zs : List Int) : List Nat := (zs.map bcode).filter fun c => decide (ulng c ≠ 0)
theorem bcs_yes {l : List Int} {z : Int} (h : ulng (bcode z) ≠ 0) : bcs (l ++ [z]) = bcs l ++ [bcode z] := by
  unfold bcs
  rw [List.map_append, List.filter_append]
  simp [h]
theorem bcs_no {l : List Int} {z : Int} (h : ulng (bcode z) = 0) : bcs (l ++ [z]) = bcs l := by
  unfold bcs
  rw [List.map_append, List.filter_append]
  simp [h]
theorem bcs_len (l : List Int) : (bcs l).length ≤ l.length := by
  unfold bcs
  exact Nat.le_trans (List.length_filter_le _ _) (by rw [List.length_map]; exact Nat.le_refl _)
theorem bcs_all (l : List Int) : ∀ c ∈ bcs l, ulng c ≠ 0 := fun c hc => by
  unfold bcs at hc
  exact of_decide_eq_true (List.mem_filter.1 hc).2
def I64s (cs : List Nat) : List Value := cs.map fun (c : Nat) => Value.int .i64 (c : Int)
theorem I64s_snoc (cs : List Nat) (c : Nat) (R : Int) (h : (c : Int) = R) : I64s cs ++ [Value.int .i64 R] = I64s (cs ++ [c]) := by
  unfold I64s
  rw [List.map_append, ← h]
  rfl
theorem cell_block {w : World} {b o : Nat} {v : Value} (h : w.cell? ⟨b, o, none⟩ = some v) : b < w.heap.size := by
  apply Decidable.byContradiction
  intro hb
  unfold World.cell? at h
  rw [Array.getElem?_eq_none (by show w.heap.size ≤ b; omega)] at h
  cases h
theorem cell_new1 (W : World) (v : Value) (T : TypeId) : ∀ j u, [v][j]? = some u → (W.alloc (.cells #[v] T)).cell? ((⟨W.heap.size, 0, none⟩ : Addr).add j) = some u := by
  intro j u hu
  have hj : j = 0 := by
    rcases Nat.lt_or_ge j 1 with h | h
    · omega
    · rw [List.getElem?_eq_none (by simpa using h)] at hu; cases hu
  subst hj
  simp at hu
  subst hu
  exact cell_of_row _ W.heap.size 0 _ _ _ (heap_alloc_new W _)
theorem one_new1 (k : IntKind) (n : Int) : ∀ u ∈ [Value.int k n], u.oneCell' = true := by intro u hu; simp at hu; subst hu; rfl
theorem own_below {W W' : World} {base : Nat} {e : TypeId} {size n : Nat} {v : Value} {xs : List Value} (h : W.ownsRow base e size v n xs) (hb : Below W.heap.size W W') : W'.ownsRow base e size v n xs := by
  refine ⟨h.1, ?_⟩
  rcases h.2 with h2 | ⟨g, cap, cur, h3, h4, h5, h6⟩
  · exact Or.inl h2
  · exact Or.inr ⟨g, cap, cur, h3, h4, by rw [hb.block g (Array.getElem?_eq_some_iff.1 h5).1]; exact h5, h6⟩
/-- Where a code point begins. -/
def boff (cs : List Nat) (k : Nat) : Nat := (uencs (cs.take k)).length
theorem boff_zero (cs : List Nat) : boff cs 0 = 0 := by simp [boff, uencs_nil]
theorem take_snoc' {cs : List Nat} {k : Nat} (h : k < cs.length) : cs.take (k + 1) = cs.take k ++ [cs[k]] := List.take_succ_eq_append_getElem h
theorem boff_succ {cs : List Nat} {k : Nat} (h : k < cs.length) (hl : ulng cs[k] ≠ 0) : boff cs (k + 1) = boff cs k + ulng cs[k] := by
  unfold boff
  rw [take_snoc' h, uencs_app, uencs_one, List.length_append, uenc_len hl]
theorem boff_end (cs : List Nat) : boff cs cs.length = (uencs cs).length := by unfold boff; rw [List.take_length]
theorem boff_le (cs : List Nat) (k : Nat) : boff cs k ≤ (uencs cs).length := by
  have e : uencs cs = uencs (cs.take k) ++ uencs (cs.drop k) := by rw [← uencs_app, List.take_append_drop]
  rw [e, List.length_append]
  unfold boff
  omega
theorem bdrop {cs : List Nat} {k : Nat} (h : k < cs.length) : (uencs cs).drop (boff cs k) = uenc cs[k] ++ uencs (cs.drop (k + 1)) := by
  have e : uencs cs = uencs (cs.take k) ++ (uenc cs[k] ++ uencs (cs.drop (k + 1))) := by
    rw [← uencs_cons, ← List.drop_eq_getElem_cons h, ← uencs_app, List.take_append_drop]
  rw [e]
  exact List.drop_left' rfl
theorem uempty {P : ByteArray} (h : P.size ≠ 0) : P.toList.isEmpty = false ∧ ¬ P.toList = [] := by
  have hl : P.toList.length ≠ 0 := by rw [ByteArray.toList_eq, len_list]; exact h
  constructor
  · cases hp : P.toList with
    | nil => rw [hp] at hl; simp at hl
    | cons a l => rfl
  · intro hp; rw [hp] at hl; simp at hl
/-- The old world's name kept. -/
theorem flip_same {f : FuncId} {l : Array Value} {w : World} {r : Ending} (h : Calls Try.prog f l w fun e w' => e = r ∧ w' = w) : Calls Try.prog f l w fun e w' => e = r ∧ w = w' := h.mono fun _ _ ⟨a, b⟩ => ⟨a, b.symm⟩
theorem Try.info3 : (Try.prog.info? 3).map (fun i => (i.zero, i.size, i.bytes)) = some (some (.int .i64 0), 1, 8) := by kernel_rfl
theorem und_ints : Try.prog.underlying 30 = some (.slice 3) := by kernel_rfl

set_option maxRecDepth 4000000 in
theorem back_told (A : Option Addr) (n cap : Nat) (w : World) (h : 60 < n) :
    Calls Try.prog 4 #[.slice A n cap] w fun e w' => e = .returned (.bool true) ∧ Below w.heap.size w w' := by
  have h30 : (60 : Int) < (n : Int) := by omega
  go_enter Try.func4, Try.ntmps4
  go_wp2_with (go_at_call 8; ((with_reducible refine (told5_true _).mono ?_); rintro e w1 ⟨rfl, hb1⟩))
  go_ret
  exact ⟨rfl, hb1⟩
set_option maxHeartbeats 4000000 in
set_option maxRecDepth 4000000 in
theorem back_core (L : Option Addr) (cap : Nat) (zs : List Int) (w : World) (h60 : zs.length ≤ 60) (hcell : ∀ i, i < zs.length → ∃ b off, L = some ⟨b, off, none⟩ ∧ w.cell? ⟨b, off + i, none⟩ = some (.int .i64 (zs.getD i 0))) :
    Calls Try.prog 4 #[.slice L zs.length cap] w fun e w' => e = .returned (.bool true) ∧ Below w.heap.size w w' := by
  obtain ⟨i0, hi, hz0, hz1, hz2⟩ := info_parts Try.info3
  have HCELL := Lib.hid hcell; clear hcell
  obtain ⟨n, hn⟩ : ∃ n, zs.length = n := ⟨_, rfl⟩
  rw [hn] at h60 ⊢
  have HN := Lib.hid hn; clear hn
  have h61 : (n : Int) ≤ 60 := by omega
  go_enter Try.func4, Try.ntmps4
  go_wp2_with fail
  go_loopw [3, 4, 5] (fun sv v i wr => ∃ (k m : Nat) (S : ByteArray) (A : Option Addr) (c : Nat), k ≤ n ∧ m ≤ k ∧ i = .int .i64 (k : Nat) ∧ sv = .string S ∧ S.size ≤ 4 * k ∧ v = .slice A m c ∧ Hid (m = (bcs (zs.take k)).length) ∧ Hid (S.data.toList = uencs (bcs (zs.take k))) ∧ wr.ownsRow w.heap.size 3 1 (.slice A m c) m (I64s (bcs (zs.take k))) ∧ Below w.heap.size w wr) (fun _ _ i _ => n - (intOf i).toNat)
  case atStart => exact ⟨0, 0, ⟨#[]⟩, none, 0, Nat.zero_le _, Nat.le_refl _, rfl, rfl, by decide, rfl, rfl, rfl, World.ownsRow_nil _ _ _ _, Below.refl _ _⟩
  case round =>
    obtain ⟨k, m, S, A, c, hk, hmk, rfl, rfl, hs4, rfl, HM, HS, hown, hbw⟩ := hrel
    rename World => wr
    by_cases hlt : k < n
    · obtain ⟨b, off, rfl, hc0⟩ := HCELL.out k (by rw [HN.out]; exact hlt)
      have hc : wr.cell? ⟨b, off + k, none⟩ = some (.int .i64 (zs.getD k 0)) := by rw [hbw.cell (cell_block hc0)]; exact hc0
      clear hc0
      have HT := Lib.hid (show zs.take (k + 1) = zs.take k ++ [zs.getD k 0] by
        rw [List.take_succ_eq_append_getElem (by rw [HN.out]; exact hlt), List.getD_eq_getElem?_getD, List.getElem?_eq_getElem (by rw [HN.out]; exact hlt)]; rfl)
      obtain ⟨z, hzk⟩ : ∃ z, z = zs.getD k 0 := ⟨_, rfl⟩
      rw [← hzk] at hc
      have HT2 : Hid (zs.take (k + 1) = zs.take k ++ [z]) := by rw [hzk]; exact HT
      clear HT hzk
      obtain ⟨U, hU⟩ : ∃ U, IntKind.u64.wrap z = U := ⟨_, rfl⟩
      have u0 : 0 ≤ U ∧ U < 18446744073709551616 := by rw [← hU, IntKind.wrap_u64]; omega
      obtain ⟨u1, u2⟩ := u0
      obtain ⟨R, hR⟩ : ∃ R, U % 1114112 = R := ⟨_, rfl⟩
      have r0 : 0 ≤ R ∧ R < 1114112 := by omega
      obtain ⟨r1, r2⟩ := r0
      have hcd : ((bcode z : Nat) : Int) = R := by unfold bcode; rw [hU, hR]; omega
      have hzl : zlng R = ulng (bcode z) := by rw [← hcd, zlng_nat]
      have k1 := fun W => flip_same (put_any R W)
      have hsz := uput_size R
      have hz4 : zlng R ≤ 4 := by rcases zlng_cases R with h | h | h | h | h | h <;> omega
      by_cases h0 : zlng R = 0
      · have hsur : 55296 ≤ R ∧ R ≤ 57343 := by rcases zlng_cases R with h | h | h | h | h | h <;> omega
        rw [uput_none h0] at k1
        have hb := bcs_no (l := zs.take k) (z := z) (by omega)
        have HM2 : Hid (m = (bcs (zs.take (k + 1))).length) := by rw [HT2.out, hb]; exact HM
        have HS2 : Hid (S.data.toList = uencs (bcs (zs.take (k + 1)))) := by rw [HT2.out, hb]; exact HS
        have hown2 : wr.ownsRow w.heap.size 3 1 (.slice A m c) m (I64s (bcs (zs.take (k + 1)))) := by rw [HT2.out, hb]; exact hown
        obtain ⟨q1, q2⟩ := hsur
        have d1 : decide (R < 55296) = false := decide_eq_false (by omega)
        have d2 : decide (57343 < R) = false := decide_eq_false (by omega)
        have K1 := Lib.hid k1
        clear k1 hcd hzl hsz hz4 h0 hb HT2 HM HS hown
        go_wp2_with (go_at_call 15; ((with_reducible refine (K1.out _).mono ?_); rintro e w' ⟨rfl, rfl⟩))
        go_roundw
        case rel => exact ⟨k + 1, m, S, A, c, by omega, by omega, by go_num, rfl, by omega, rfl, HM2, HS2, hown2, hbw⟩
        case measure => simp [intOf]; omega
      · have hnon : R < 55296 ∨ 57343 < R := (zlng_some h0).2.2
        have hul : ulng (bcode z) ≠ 0 := by omega
        have hb := bcs_yes (l := zs.take k) hul
        have hpe := uempty (P := uput R) (by omega)
        have hpl : (uput R).data.toList = uenc (bcode z) := by rw [← hcd]; exact (by rw [uput_some (by rw [hcd]; exact h0), Int.toNat_natCast])
        have HM2 : Hid (m + 1 = (bcs (zs.take (k + 1))).length) := by rw [HT2.out, hb, List.length_append, ← HM.out]; rfl
        have HS2 : Hid ((S ++ uput R).data.toList = uencs (bcs (zs.take (k + 1)))) := by
          rw [HT2.out, hb, uencs_app, uencs_one, app_list, HS.out, hpl]; rfl
        have HI : Hid (I64s (bcs (zs.take k)) ++ [Value.int .i64 R] = I64s (bcs (zs.take (k + 1)))) := by
          rw [HT2.out, hb]; exact I64s_snoc _ _ _ hcd
        rw [← hsz] at hz4
        clear hcd hzl hsz hul hb hpl HT2 HM HS h0
        generalize uput R = P at *
        have hpz : (S ++ P).size ≤ 4 * (k + 1) := by rw [ByteArray.size_append]; omega
        obtain ⟨e1, e2⟩ := hpe
        have K1 := Lib.hid k1
        clear k1
        have hbs := hbw.size
        rcases hnon with q | q
        all_goals
          go_wp2_with (first | (go_at_call 15; ((with_reducible refine (K1.out _).mono ?_); rintro e w' ⟨rfl, rfl⟩)) | (at_builtin; refine wpList_append_lies _ rfl (.tmp 47) (.tmp 49) 30 rfl w.heap.size 3 i0 (.int .i64 0) 1 8 und_ints hi hz0 hz1 hz2 rfl (by decide) _ m _ rfl (hown.alloc _) ⟨wr.heap.size, 0, none⟩ 1 1 [.int .i64 R] rfl rfl (cell_new1 _ _ _) (one_new1 _ _) (by decide) (by unfold maxLen; omega) (by omega) (by simp; omega) _ rfl ?_; intro g cap2 w2 hown1 hgrow hat hlt2))
          rw [HI.out] at hown1
          have hb2 : Below w.heap.size w w2 := (hbw.alloc hbw.size _).grown hgrow (by simp; omega) (fun k hk => (hown.lt k hk).1)
          clear hgrow hat hown
          go_wp2
          go_roundw
          case rel => exact ⟨k + 1, m + 1, S ++ P, _, _, by omega, by omega, by go_num, rfl, hpz, rfl, HM2, HS2, hown1, hb2⟩
          case measure => simp [intOf]; omega
    · obtain rfl : k = n := by omega
      rw [← HN.out, List.take_length] at hown
      have hS : S.data.toList = uencs (bcs zs) := by have := HS.out; rw [← HN.out, List.take_length] at this; exact this
      have hm : m = (bcs zs).length := by have := HM.out; rw [← HN.out, List.take_length] at this; exact this
      have hall := bcs_all zs
      clear HS HM HCELL
      generalize bcs zs = cs at *
      have hv := uval_encs cs hall
      have hSs : S.size ≤ 140737488351232 := by omega
      have hSl := len_list S
      have k1 := fun W => flip_same (valid_any S hSs W)
      have k2 := fun W => flip_same (count_any S hSs W)
      rw [hS, hv.1] at k1
      rw [hS, hv.2, ← hm] at k2
      have k3 := fun W => cut_any S hSs ((m : Int) + 5) (by omega) (by omega) W
      have e3 : S.extract 0 (ucut S.data.toList ((m : Int) + 5).toNat) = S := by
        apply ext_list
        rw [extract_list, List.drop_zero, hS, ucut_encs cs _ hall, List.take_of_length_le (show cs.length ≤ ((m : Int) + 5).toNat by omega), List.take_length]
      rw [e3] at k3
      have hSS : (S == S) = true := beq_bytes S
      have K1 := Lib.hid k1; have K2 := Lib.hid k2; have K3 := Lib.hid k3
      clear k1 k2 k3 e3 hv
      have hm60 : m ≤ 60 := by omega
      have hform : m = 0 ∨ ∃ g, A = some ⟨g, 0, none⟩ := by
        rcases hown.2 with ⟨h1, h2⟩ | ⟨g, c2, cur, h1, _⟩
        · exact Or.inl h2
        · simp only [Value.slice.injEq] at h1
          exact Or.inr ⟨g, h1.1⟩
      rcases hform with h0 | ⟨g, rfl⟩
      · have hcs : cs = [] := List.length_eq_zero_iff.1 (by omega)
        have hse : S = ⟨#[]⟩ := ext_list (by rw [hS, hcs]; rfl)
        subst h0 hse
        have K4 : Hid (∀ W, Calls Try.prog 17 #[.string ⟨#[]⟩, .int .i64 5] W fun e w' => e = .returned (.string ⟨#[]⟩) ∧ Below W.heap.size W w') := K3
        clear hm hS hSl hcs hown hall K3
        go_wp2
        refine wp_loop_rounds 1 ?_
        rw [rounds_succ]
        go_wp2_with fail
        (with_reducible refine (told5_true _).mono ?_)
        rintro e w1 ⟨rfl, hb1⟩
        go_wp2_with fail
        (with_reducible refine (K1.out _).mono ?_)
        rintro e w' ⟨rfl, rfl⟩
        go_wp2_with fail
        (with_reducible refine (K2.out _).mono ?_)
        rintro e w' ⟨rfl, rfl⟩
        go_wp2_with fail
        (with_reducible refine (K4.out _).mono ?_)
        rintro e w2 ⟨rfl, hb2⟩
        go_wp2
        go_ret
        exact ⟨rfl, ubtr (ubtr hbw hb1) hb2⟩
      · have HCUT : Hid (∀ j : Nat, j ≤ m → ∀ W, Calls Try.prog 17 #[.string S, .int .i64 (j : Int)] W fun e w' => e = .returned (.string (S.extract 0 (boff cs j))) ∧ Below W.heap.size W w') := fun j hj W => by
          have h := cut_any S hSs (j : Int) (by omega) (by omega) W
          rw [Int.toNat_natCast, hS, ucut_encs cs _ hall] at h
          exact h
        have HNEXT : Hid (∀ (j : Nat) (hj : j < cs.length), ∀ W, Calls Try.prog 9 #[.string S, .int .i64 (boff cs j : Nat)] W fun e w' => e = .returned (.tuple #[.int .i64 (cs[j] : Nat), .int .i64 (ulng cs[j] : Nat)]) ∧ W = w') := fun j hj W => by
          have h := next_any S hSs (boff cs j : Nat) W
          have hd := udec_enc (hall cs[j] (List.getElem_mem hj)) (uencs (cs.drop (j + 1)))
          rw [uat_nat, hS, bdrop hj, nans_some hd] at h
          exact flip_same h
        have HALL := Lib.hid hall
        have HB : Hid (∀ j, boff cs j ≤ S.size) := fun j => by rw [← hSl, hS]; exact boff_le cs j
        have HE : Hid (boff cs m = S.size) := by rw [hm, boff_end, ← hS, hSl]; rfl
        have HMM := Lib.hid hm
        clear hall hS hm hSl
        go_wp2
        go_loopw [8, 9] (fun av i wx => ∃ j p : Nat, j ≤ m ∧ p ≤ S.size ∧ i = .int .i64 (j : Nat) ∧ av = .int .i64 (p : Nat) ∧ Hid (p = boff cs j) ∧ wx.ownsRow w.heap.size 3 1 (.slice (some ⟨g, 0, none⟩) m c) m (I64s cs) ∧ Below w.heap.size w wx) (fun _ i _ => m - (intOf i).toNat)
        case atStart => exact ⟨0, 0, Nat.zero_le _, Nat.zero_le _, rfl, rfl, (boff_zero cs).symm, hown, hbw⟩
        case round =>
          obtain ⟨j, p, hj, hp, rfl, rfl, HP, hown1, hbx⟩ := hrel
          clear hown hbw
          rename World => wx
          by_cases hlt : j < m
          · have hj2 : j < cs.length := by have := HMM.out; omega
            have k5 := HCUT.out j (by omega)
            have k6 := HNEXT.out j hj2
            rw [← HP.out] at k5 k6
            have hl0 := HALL.out cs[j] (List.getElem_mem hj2)
            have HP2 : Hid (p + ulng cs[j] = boff cs (j + 1)) := by rw [HP.out, boff_succ hj2 hl0]; rfl
            have hpq : p + ulng cs[j] ≤ S.size := by rw [HP2.out]; exact HB.out _
            have hq4 := ulng_le cs[j]
            have hce : (I64s cs)[j]? = some (.int .i64 (cs[j] : Nat)) := by unfold I64s; rw [List.getElem?_map, List.getElem?_eq_getElem hj2]; rfl
            generalize ulng cs[j] = q at *
            generalize cs[j] = d at *
            have K5 := Lib.hid k5; have K6 := Lib.hid k6
            clear k5 k6 HP
            have eX : (S.extract 0 p == S.extract 0 p) = true := beq_bytes _
            have hp0 : (0 : Int) ≤ (p : Int) := by omega
            have hp1 : (p : Int) ≤ (S.size : Int) := by omega
            have hjm : (j : Int) < (m : Int) := by omega
            go_wp2
            have cq0 := fun (d : Nat) (os : Array Obj) => Calls.regrown_of (w := wx) (d := d) (os := os) (K5.out _)
            refine wp_region_quiet_below (by kernel_rfl) (by kernel_rfl) ?_
            repeat (first | go_big_quiet_step ((first | (with_reducible exact cq0 _ _))) | quiet_step (first | (with_reducible exact cq0 _ _)))
            refine wpQuiet_nil ?_
            intro _ hw'
            obtain ⟨⟨dq, osq⟩, hw''⟩ := hw'
            subst hw''
            have hb := below_regrown wx dq osq
            generalize Go.Sort.grow (redrawn wx dq) osq = wy at *
            have hown2 := own_below hown1 hb
            have hby := ubtr hbx hb
            have hcl : wy.cell? ⟨g, j, none⟩ = some (.int .i64 (d : Nat)) := by rw [hown2.cellAt j (by omega)]; exact hce
            clear cq0 hb hown1 hbx hce eX
            go_wp2_with fail
            (with_reducible refine (K6.out _).mono ?_)
            rintro e w' ⟨rfl, rfl⟩
            go_wp2
            go_roundw
            case rel => exact ⟨j + 1, p + q, by omega, hpq, by go_num, by go_num, HP2, hown2, hby⟩
            case measure => simp [intOf]; omega
          · obtain rfl : j = m := by omega
            obtain rfl : p = S.size := HP.out.trans HE.out
            go_wp2_with fail
            (with_reducible refine (told5_true _).mono ?_)
            rintro e w1 ⟨rfl, hb1⟩
            go_wp2_with fail
            (with_reducible refine (K1.out _).mono ?_)
            rintro e w' ⟨rfl, rfl⟩
            go_wp2_with fail
            (with_reducible refine (K2.out _).mono ?_)
            rintro e w' ⟨rfl, rfl⟩
            go_wp2_with fail
            (with_reducible refine (K3.out _).mono ?_)
            rintro e w2 ⟨rfl, hb2⟩
            go_wp2
            go_ret
            exact ⟨rfl, ubtr (ubtr hbx hb1) hb2⟩
theorem back_any (v : Value) (zs : List Int) (w : World) (hv : IntsAt w v zs) :
    Calls Try.prog 4 #[v] w fun e w' => e = .returned (.bool true) ∧ Below w.heap.size w w' := by
  rcases hv with ⟨A, cap, rfl, rfl⟩ | ⟨b, off, cap, rfl, h0, hc⟩
  · exact back_core A cap [] w (by decide) (fun i h => absurd h (Nat.not_lt_zero i))
  · by_cases h60 : zs.length ≤ 60
    · exact back_core _ cap zs w h60 (fun i h => ⟨b, off, rfl, hc i h⟩)
    · exact back_told _ _ cap w (by omega)
end Go.Proofs.Ytoibaeilbolffaa
