/-
  entrepotref6.Get, entrepotref6.Number: the contracts.
-/
import Derived.Test.YtjdogiehcgfmjaaGreatDoorValGet
import Derived.Test.YtjdogiehcgfmjaaGreatDoorValNumber
namespace Go.Proofs.YtjdogiehcgfmjaaGreatDoor
open Go.RowKit Go.Shelf

set_option maxHeartbeats 1000000 in
theorem rnumber_yes (b : Int) (g : Bool) (x0 x1 x2 x3 : Int) (w : World)
    (k1 : ∀ W, Below w.heap.size w W → Calls Tryz.prog 54 #[.int .u64 b] W fun e w' => e = .returned (.tuple #[.agg #[.bool g, .int .u64 x0, .int .u64 x1, .int .u64 x2, .int .u64 x3], .bool true]) ∧ Below W.heap.size W w') :
    Calls Tryz.prog 22 #[.int .u64 b] w fun e w' => e = .returned (V10 3 g x0 x1 x2 x3 0 ⟨#[]⟩ none 0 0 none 0 0) ∧ Below w.heap.size w w' := by
  have K1 := Lib.hid k1
  clear k1
  go_enter Tryz.func22, Tryz.ntmps22
  go_wp2_with fail
  ((with_reducible refine (K1.out _ (bal (Below.refl _ _) _)).mono ?_); rintro e w1 ⟨rfl, hb1⟩)
  have R := Row10.keep hb1 (Row10.new w (.int .i64 0) (.bool false) (.int .u64 0) (.int .u64 0) (.int .u64 0) (.int .u64 0) (.int .u64 0) (.string ⟨#[]⟩) (.slice none 0 0) (.slice none 0 0))
  have B1 := Lib.hid (btr (bal (Below.refl _ w) _) hb1)
  obtain ⟨p0, p1, p2, p3, p4, p5, p6, p7, p8, p9⟩ := R.parts
  have hf := R.free
  have hlt := R.lt
  clear hb1
  go_wp2
  have RN := fun o => ((R.set10 (.int .i64 3) (.bool g) (.int .u64 x0) (.int .u64 x1) (.int .u64 x2) (.int .u64 x3) (.int .u64 0) (.string ⟨#[]⟩) (.slice none 0 0) (.slice none 0 0)).alloc o).parts
  have q0 := fun o => (RN o).1
  have q1 := fun o => (RN o).2.1
  have q2 := fun o => (RN o).2.2.1
  have q3 := fun o => (RN o).2.2.2.1
  have q4 := fun o => (RN o).2.2.2.2.1
  have q5 := fun o => (RN o).2.2.2.2.2.1
  have q6 := fun o => (RN o).2.2.2.2.2.2.1
  have q7 := fun o => (RN o).2.2.2.2.2.2.2.1
  have q8 := fun o => (RN o).2.2.2.2.2.2.2.2.1
  have q9 := fun o => (RN o).2.2.2.2.2.2.2.2.2
  clear RN
  exact bodyPost_ret (v := V10 3 g x0 x1 x2 x3 0 ⟨#[]⟩ none 0 0 none 0 0) (by simp [results, Tryz.results22, go_sem, q0, q1, q2, q3, q4, q5, q6, q7, q8, q9]) rfl ⟨rfl, bal (vbsc10 B1.out (Nat.le_refl _) _ _ _ _ _ _ _ _ _ _) _⟩
set_option maxHeartbeats 1000000 in
theorem rnumber_no (b c : Int) (w : World)
    (k1 : ∀ W, Below w.heap.size w W → Calls Tryz.prog 54 #[.int .u64 b] W fun e w' => e = .returned (.tuple #[Z5, .bool false]) ∧ Below W.heap.size W w')
    (k2 : ∀ W, Below w.heap.size w W → Calls Tryz.prog 55 #[.int .u64 b] W fun e w' => e = .returned (.int .u64 c) ∧ Below W.heap.size W w') :
    Calls Tryz.prog 22 #[.int .u64 b] w fun e w' => e = .returned (V10 4 false 0 0 0 0 c ⟨#[]⟩ none 0 0 none 0 0) ∧ Below w.heap.size w w' := by
  have K1 := Lib.hid k1; have K2 := Lib.hid k2
  clear k1 k2
  go_enter Tryz.func22, Tryz.ntmps22
  go_wp2_with fail
  ((with_reducible refine (K1.out _ (bal (Below.refl _ _) _)).mono ?_); rintro e w1 ⟨rfl, hb1⟩)
  have R := Row10.keep hb1 (Row10.new w (.int .i64 0) (.bool false) (.int .u64 0) (.int .u64 0) (.int .u64 0) (.int .u64 0) (.int .u64 0) (.string ⟨#[]⟩) (.slice none 0 0) (.slice none 0 0))
  have B1 := Lib.hid (btr (bal (Below.refl _ w) _) hb1)
  obtain ⟨p0, p1, p2, p3, p4, p5, p6, p7, p8, p9⟩ := R.parts
  have hf := R.free
  have hlt := R.lt
  clear hb1
  go_wp2_with (go_at_call 55; ((with_reducible refine (K2.out _ (bal B1.out _)).mono ?_); rintro e w2 ⟨rfl, hb2⟩; have B2 := Lib.hid (btr (bal B1.out _) hb2); have R2 := Row10.keep hb2 (Row10.alloc R _); obtain ⟨s0, s1, s2, s3, s4, s5, s6, s7, s8, s9⟩ := R2.parts; have hf2 := R2.free; have hlt2 := R2.lt))
  have RN := (R2.set10 (.int .i64 4) (.bool false) (.int .u64 0) (.int .u64 0) (.int .u64 0) (.int .u64 0) (.int .u64 c) (.string ⟨#[]⟩) (.slice none 0 0) (.slice none 0 0)).parts
  obtain ⟨q0, q1, q2, q3, q4, q5, q6, q7, q8, q9⟩ := RN
  exact bodyPost_ret (v := V10 4 false 0 0 0 0 c ⟨#[]⟩ none 0 0 none 0 0) (by simp [results, Tryz.results22, go_sem, q0, q1, q2, q3, q4, q5, q6, q7, q8, q9]) rfl ⟨rfl, vbsc10 B2.out (Nat.le_refl _) _ _ _ _ _ _ _ _ _ _⟩

/-- What the reference's Get answers: a member itself, and true; or nothing. -/
def RGet (r : Option VT) (w : World) (E : Ending) (w' : World) : Prop :=
  match r with
  | some t => E = .returned (.tuple #[t.val, .bool true]) ∧ Below w.heap.size w w'
  | none => E = .returned (.tuple #[Z10, .bool false]) ∧ Below w.heap.size w w'
theorem idxN_ge {keys : List ByteArray} {name : ByteArray} {k : Nat} (hno : ∀ j < k, ∀ k', keys[j]? = some k' → (k'.toList == name.toList) = false) (h : 0 ≤ idxN keys name) : k ≤ (idxN keys name).toNat := by
  unfold idxN at h ⊢
  cases hf : keys.findIdx? (fun k => name.toList == k.toList) with
  | none => rw [hf] at h; exact absurd h (by decide)
  | some i =>
    rw [List.findIdx?_eq_some_iff_getElem] at hf
    obtain ⟨hl, he, _⟩ := hf
    show k ≤ ((i : Nat) : Int).toNat
    rw [Int.toNat_natCast]
    rcases Nat.lt_or_ge i k with h1 | h1
    · have := hno i h1 keys[i] (List.getElem?_eq_getElem hl)
      simp only [beq_iff_eq] at he
      rw [he] at this
      simp at this
    · exact h1
theorem getO_kind {kd : Int} {keys : List ByteArray} {kids : List VT} {name : ByteArray} (h : kd ≠ 8) : getO kd keys kids name = none := by unfold getO; rw [if_neg (fun e => h e.1)]
theorem getO_hit {kd : Int} {keys : List ByteArray} {kids : List VT} {name key : ByteArray} {k : Nat} (hk : kd = 8) (hkey : keys[k]? = some key) (he : (key.toList == name.toList) = true) (hno : ∀ j < k, ∀ k', keys[j]? = some k' → (k'.toList == name.toList) = false) : getO kd keys kids name = kids[k]? := by
  have : idxN keys name = k := idxN_hit hkey (by simp only [beq_iff_eq] at he ⊢; exact he.symm) fun j hj k' hk' => by
    have := hno j hj k' hk'
    rw [beq_eq_false_iff_ne] at this ⊢
    exact fun e => this e.symm
  unfold getO
  rw [this, if_pos ⟨hk, by omega⟩, Int.toNat_natCast]
theorem getO_end {kd : Int} {keys : List ByteArray} {kids : List VT} {name : ByteArray} {k : Nat} (hno : ∀ j < k, ∀ k', keys[j]? = some k' → (k'.toList == name.toList) = false) (hk : keys.length ≤ k ∨ kids.length ≤ k) : getO kd keys kids name = none := by
  unfold getO
  by_cases h : kd = 8 ∧ 0 ≤ idxN keys name
  · rw [if_pos h]
    have h1 := idxN_ge hno h.2
    have h2 : (idxN keys name).toNat < keys.length := by
      have h0 := h.2
      unfold idxN at h0 ⊢
      cases hf : keys.findIdx? (fun k => name.toList == k.toList) with
      | none => rw [hf] at h0; exact absurd h0 (by decide)
      | some i =>
        rw [List.findIdx?_eq_some_iff_getElem] at hf
        obtain ⟨hl, _, _⟩ := hf
        simpa using hl
    exact List.getElem?_eq_none (by omega)
  · rw [if_neg h]
set_option maxRecDepth 100000 in
set_option maxHeartbeats 4000000 in
theorem rget_core (kd : Int) (g : Bool) (x : Nat) (b : Int) (s : ByteArray) (la : Option Addr) (lc : Nat) (ka : Option Addr) (kc : Nat) (keys : List ByteArray) (kids : List VT) (kb koff bb off : Nat) (name : ByteArray) (w : World)
    (hKK : KeysL w ka keys kb koff) (hK : Kids w la kids bb off) :
    Calls Tryz.prog 20 #[V10 kd g (lb 0 x) (lb 1 x) (lb 2 x) (lb 3 x) b s la kids.length lc ka keys.length kc, .string name] w (RGet (getO kd keys kids name) w) := by
  have hn := hK.len; have hm := hKK.len
  have HKK := Lib.hid hKK; have HK := Lib.hid hK
  clear hKK hK
  go_enter Tryz.func20, Tryz.ntmps20
  have ST := Own2.start w kd g x b s (.slice la kids.length lc) (.slice ka keys.length kc)
  go_wp2
  go_name_world w0 hw0
  rw [hw0] at ST
  clear hw0
  go_loopw [6] (fun i wr => ∃ k : Nat, k ≤ keys.length ∧ k ≤ kids.length ∧ i = .int .i64 k ∧ Hid (wr = w0) ∧ Hid (∀ j < k, ∀ k', keys[j]? = some k' → (k'.toList == name.toList) = false)) (fun i _ => keys.length - (intOf i).toNat)
  case atStart => exact ⟨0, Nat.zero_le _, Nat.zero_le _, rfl, (show Hid _ from rfl), (show Hid _ from fun j hj => absurd hj (by omega))⟩
  case round =>
    obtain ⟨k, hk, hk2, rfl, WR, AN⟩ := hrel
    have hwr := WR.out
    subst hwr
    obtain ⟨p0, p1, p2, p3, p4, p5, p6, p7, p8, p9⟩ := ST.row.parts
    obtain ⟨z0, z1, z2, z3, z4, z5, z6, z7, z8, z9⟩ := ST.zero.parts
    have zf := ST.zero.free
    have hzl := ST.zero.lt
    clear p0 p1 p2 p3 p4 p5 p6 p7
    have p0 := ST.row.parts.1
    by_cases hlt : k < keys.length
    · have hlt' : (k : Int) < (keys.length : Int) := by omega
      by_cases hl2 : k < kids.length
      · have hl2' : (k : Int) < (kids.length : Int) := by omega
        by_cases hkd : kd = 8
        · subst hkd
          obtain ⟨key, hkey, hkm⟩ := key_at hlt
          obtain ⟨t, ht, hmm⟩ := kid_at hl2
          have hrk := (HKK.out.keep ST.below).cells k key hkey
          obtain rfl : ka = some ⟨kb, koff, none⟩ := HKK.out.ka (by omega)
          cases he : (key.toList == name.toList) with
          | true =>
            have HF : Hid (getO 8 keys kids name = some t) := by show _ = _; rw [getO_hit rfl hkey he AN.out, ht]
            have hc := (HK.out.keep ST.below).cells k t ht
            have hla : la = some ⟨bb, off, none⟩ := HK.out.la (by omega)
            subst hla
            obtain ⟨o2, l2⟩ := t
            obtain ⟨kd2, g2, x2, b2, s2, la2, lc2, ka2, kc2, ks2⟩ := o2
            obtain ⟨c0, c1, c2, c3, c4, c5, c6, c7, c8, c9⟩ := hc.ten
            clear hc ht hkey
            go_wp2
            have RN := (ST.zero.set10 (.int .i64 kd2) (.bool g2) (.int .u64 (lb 0 x2)) (.int .u64 (lb 1 x2)) (.int .u64 (lb 2 x2)) (.int .u64 (lb 3 x2)) (.int .u64 b2) (.string s2) (.slice la2 l2.length lc2) (.slice ka2 ks2.length kc2)).parts
            obtain ⟨q0, q1, q2, q3, q4, q5, q6, q7, q8, q9⟩ := RN
            have EN : RGet (getO 8 keys kids name) w (.returned (.tuple #[V10 kd2 g2 (lb 0 x2) (lb 1 x2) (lb 2 x2) (lb 3 x2) b2 s2 la2 l2.length lc2 ka2 ks2.length kc2, .bool true])) (put10 wr (w.heap.size + 1) 0 (.int .i64 kd2) (.bool g2) (.int .u64 (lb 0 x2)) (.int .u64 (lb 1 x2)) (.int .u64 (lb 2 x2)) (.int .u64 (lb 3 x2)) (.int .u64 b2) (.string s2) (.slice la2 l2.length lc2) (.slice ka2 ks2.length kc2)) := by rw [HF.out]; exact ⟨rfl, vbsc10 ST.below (by omega) _ _ _ _ _ _ _ _ _ _⟩
            exact bodyPost_ret (v := .tuple #[V10 kd2 g2 (lb 0 x2) (lb 1 x2) (lb 2 x2) (lb 3 x2) b2 s2 la2 l2.length lc2 ka2 ks2.length kc2, .bool true]) (by simp [results, Tryz.results20, go_sem, q0, q1, q2, q3, q4, q5, q6, q7, q8, q9]) rfl EN
          | false =>
            have HE := Lib.hid he; have HKEY := Lib.hid hkey
            clear hkey
            go_wp2
            go_roundw
            case rel =>
              refine ⟨k + 1, by omega, by omega, by go_num, (show Hid _ from trivial), (show Hid _ from fun j hj k' hk' => ?_)⟩
              by_cases hjk : j = k
              · subst hjk
                rw [HKEY.out] at hk'
                cases hk'
                exact HE.out
              · exact AN.out j (by omega) k' hk'
            case measure => simp [intOf]; omega
        · have hkd' : (kd == 8) = false := by rw [beq_eq_false_iff_ne]; exact hkd
          have HF : Hid (getO kd keys kids name = none) := getO_kind hkd
          clear hkd
          go_wp2
          have RN := (ST.zero.set10 (.int .i64 0) (.bool false) (.int .u64 0) (.int .u64 0) (.int .u64 0) (.int .u64 0) (.int .u64 0) (.string ⟨#[]⟩) (.slice none 0 0) (.slice none 0 0)).parts
          obtain ⟨q0, q1, q2, q3, q4, q5, q6, q7, q8, q9⟩ := RN
          have EN : RGet (getO kd keys kids name) w (.returned (.tuple #[Z10, .bool false])) (put10 wr (w.heap.size + 1) 0 (.int .i64 0) (.bool false) (.int .u64 0) (.int .u64 0) (.int .u64 0) (.int .u64 0) (.int .u64 0) (.string ⟨#[]⟩) (.slice none 0 0) (.slice none 0 0)) := by rw [HF.out]; exact ⟨rfl, vbsc10 ST.below (by omega) _ _ _ _ _ _ _ _ _ _⟩
          exact bodyPost_ret (v := .tuple #[Z10, .bool false]) (by simp [results, Tryz.results20, go_sem, q0, q1, q2, q3, q4, q5, q6, q7, q8, q9]) rfl EN
      · have hl2' : ¬ (k : Int) < (kids.length : Int) := by omega
        have HF : Hid (getO kd keys kids name = none) := getO_end AN.out (.inr (by omega))
        go_wp2
        have RN := (ST.zero.set10 (.int .i64 0) (.bool false) (.int .u64 0) (.int .u64 0) (.int .u64 0) (.int .u64 0) (.int .u64 0) (.string ⟨#[]⟩) (.slice none 0 0) (.slice none 0 0)).parts
        obtain ⟨q0, q1, q2, q3, q4, q5, q6, q7, q8, q9⟩ := RN
        have EN : RGet (getO kd keys kids name) w (.returned (.tuple #[Z10, .bool false])) (put10 wr (w.heap.size + 1) 0 (.int .i64 0) (.bool false) (.int .u64 0) (.int .u64 0) (.int .u64 0) (.int .u64 0) (.int .u64 0) (.string ⟨#[]⟩) (.slice none 0 0) (.slice none 0 0)) := by rw [HF.out]; exact ⟨rfl, vbsc10 ST.below (by omega) _ _ _ _ _ _ _ _ _ _⟩
        exact bodyPost_ret (v := .tuple #[Z10, .bool false]) (by simp [results, Tryz.results20, go_sem, q0, q1, q2, q3, q4, q5, q6, q7, q8, q9]) rfl EN
    · have hge : ¬ (k : Int) < (keys.length : Int) := by omega
      have HF : Hid (getO kd keys kids name = none) := getO_end AN.out (.inl (by omega))
      go_wp2
      have RN := (ST.zero.set10 (.int .i64 0) (.bool false) (.int .u64 0) (.int .u64 0) (.int .u64 0) (.int .u64 0) (.int .u64 0) (.string ⟨#[]⟩) (.slice none 0 0) (.slice none 0 0)).parts
      obtain ⟨q0, q1, q2, q3, q4, q5, q6, q7, q8, q9⟩ := RN
      have EN : RGet (getO kd keys kids name) w (.returned (.tuple #[Z10, .bool false])) (put10 wr (w.heap.size + 1) 0 (.int .i64 0) (.bool false) (.int .u64 0) (.int .u64 0) (.int .u64 0) (.int .u64 0) (.int .u64 0) (.string ⟨#[]⟩) (.slice none 0 0) (.slice none 0 0)) := by rw [HF.out]; exact ⟨rfl, vbsc10 ST.below (by omega) _ _ _ _ _ _ _ _ _ _⟩
      exact bodyPost_ret (v := .tuple #[Z10, .bool false]) (by simp [results, Tryz.results20, go_sem, q0, q1, q2, q3, q4, q5, q6, q7, q8, q9]) rfl EN
/-- entrepotref6.Get, of every value that lies in memory. -/
theorem rget (T : VT) (name : ByteArray) (w : World) (hI : T.In w) : Calls Tryz.prog 20 #[T.val, .string name] w (RGet (getT T name) w) := by
  obtain ⟨o, kids⟩ := T
  obtain ⟨kb, koff, hKK⟩ := hI.keys'
  obtain ⟨bb, off, hK⟩ := hI.kids'
  obtain ⟨kd, g, x, b, s, la, lc, ka, kc, keys⟩ := o
  exact rget_core kd g x b s la lc ka kc keys kids kb koff bb off name w hKK hK
end Go.Proofs.YtjdogiehcgfmjaaGreatDoor
