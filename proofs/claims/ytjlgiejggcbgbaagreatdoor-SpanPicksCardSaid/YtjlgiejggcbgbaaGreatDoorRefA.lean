/-
  The reference's digits: a slice that reads as a number's digits; at, trim, and a slice of the call's own that does. For all digits of 32 bits.
-/
import Derived.Test.YtjlgiejggcbgbaaGreatDoorRefBase
import Derived.Laws.AppendOwn
namespace Go.Proofs.YtjlgiejggcbgbaaGreatDoor
open Go.RowKit Go.Shelf

/-- A slice value that reads as a number's digits, as many as it takes. -/
def DR (W : World) (s : Value) (x : Nat) : Prop := Rd W s (digs x)
theorem DR.keep {W W' : World} {s : Value} {x : Nat} (hb : Below W.heap.size W W') (h : DR W s x) : DR W' s x := Rd.keep hb h
theorem DR.form {W : World} {s : Value} {x : Nat} (h : DR W s x) : ∃ (A : Option Addr) (c : Nat), s = .slice A (digs x).length c ∧ (0 < (digs x).length → (digs x).length ≤ c) := by
  rcases h with ⟨h, A, c, e⟩ | ⟨b, off, c, e, hc, _⟩
  · exact ⟨A, c, by rw [h]; exact e, by rw [h]; intro h; cases h⟩
  · exact ⟨_, c, e, fun _ => hc.1⟩
theorem at_dr {s : Value} {x : Nat} {w : World} (h : DR w s x) (i : Int) (h0 : 0 ≤ i) :
    Calls Tryz.prog 76 #[s, .int .i64 i] w fun e w' => e = .returned (.int .u64 ((x / 2 ^ (32 * i.toNat) % 4294967296 : Nat) : Int)) ∧ w' = w := by
  obtain ⟨k, rfl⟩ := Int.eq_ofNat_of_zero_le h0
  rw [Int.toNat_natCast, ← digs_get]
  rcases h with ⟨h, A, c, rfl⟩ | ⟨b, off, c, rfl, hc, hlt, hcs⟩
  · have e : (digs x).getD k 0 = 0 := by rw [h]; rfl
    rw [e]
    exact at_out A c 0 k (by omega) w
  · by_cases hk : k < (digs x).length
    · have := at_in b off c _ (digs x) k (by omega) (by omega) rfl w hcs (digs_sm x)
      rw [Int.toNat_natCast] at this
      exact this
    · have e : (digs x).getD k 0 = 0 := by rw [List.getD_eq_getElem?_getD, List.getElem?_eq_none (by omega)]; rfl
      rw [e]
      exact at_out _ c _ k (by omega) w
/-- A row of the call's own reads as its digits. -/
theorem rd_own {W : World} {base : Nat} {v : Value} {l : List Nat} (h : W.ownsRow base 68 1 v l.length (l.map fun d => Value.int .u32 ((d : Nat) : Int))) : Rd W v l := by
  obtain ⟨_, h⟩ := h
  rcases h with ⟨rfl, h0⟩ | ⟨g, cap, cur, rfl, hb, hh, hn, hm, hsz, ht⟩
  · exact .inl ⟨List.length_eq_zero_iff.1 h0, none, 0, rfl⟩
  · refine .inr ⟨g, 0, cap, rfl, ⟨hn, by unfold maxLen at hm; omega⟩, ?_, fun i hi => ?_⟩
    · rcases Nat.lt_or_ge g W.heap.size with hlt | hge
      · exact hlt
      · rw [Array.getElem?_eq_none hge] at hh; cases hh
    · rw [cell_of_row W g (0 + i) _ _ _ hh, Nat.zero_add]
      have e : (l.map fun d => Value.int .u32 ((d : Nat) : Int))[i]? = some (.int .u32 ((l.getD i 0 : Nat) : Int)) := by
        rw [List.getElem?_map, List.getD_eq_getElem?_getD, List.getElem?_eq_getElem hi]; rfl
      rw [← ht, Nat.mul_one, List.getElem?_take, if_pos hi] at e
      rw [← e]
      simp
/-- trim, said of a number. -/
theorem trim_dr {s : Value} {l : List Nat} {w : World} (h : Rd w s l) (hsm : Sm l) :
    Calls Tryz.prog 56 #[s] w fun e w' => ∃ s', e = .returned s' ∧ DR w s' (dval l) ∧ w' = w := trim_any s l w h hsm
theorem trim_id {s : Value} {x : Nat} {w : World} (h : DR w s x) :
    Calls Tryz.prog 56 #[s] w fun e w' => ∃ s', e = .returned s' ∧ DR w s' x ∧ w' = w := by
  have := trim_any s (digs x) w h (digs_sm x)
  rw [dval_digs] at this
  exact this
theorem digs_eq_len {x y : Nat} (h : (digs x).length < (digs y).length) : x < y :=
  Nat.lt_of_lt_of_le digs_len_le (digs_lt_len h)
theorem cell_new1 (W : World) (v : Value) (T : TypeId) : ∀ j u, [v][j]? = some u → (W.alloc (.cells #[v] T)).cell? ((⟨W.heap.size, 0, none⟩ : Addr).add j) = some u := by
  intro j u hu
  match j, hu with
  | 0, hu => simp at hu; subst hu; simp [Addr.add]
theorem one_new1 (k : IntKind) (n : Int) : ∀ u ∈ [Value.int k n], u.oneCell' = true := by intro u hu; simp at hu; subst hu; rfl
theorem info_u32 : (Tryz.prog.info? 68).map (fun i => (i.zero, i.size, i.bytes)) = some (some (.int .u32 0), 1, 4) := by kernel_rfl
theorem und_d : Tryz.prog.underlying 57 = some (.slice 68) := by kernel_rfl
end Go.Proofs.YtjlgiejggcbgbaaGreatDoor
