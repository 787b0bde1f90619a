/-
  The reference's Of: the contract, for all numbers of four words.
-/
import Derived.Test.YtjlgiejggcbgbaaGreatDoorRefMulMath
import Derived.Deep.AppendLies
namespace Go.Proofs.YtjlgiejggcbgbaaGreatDoor
open Go.RowKit Go.Shelf

/-- What holds at the head of Of's loop. -/
def OfInv (x k : Nat) (O : List Nat) : Prop := O.length = 2 * k ∧ Sm O ∧ dval O = x % 2 ^ (64 * k)
theorem OfInv.zero (x : Nat) : OfInv x 0 [] := ⟨rfl, Sm.nil, by simp [dval, Nat.mod_one]⟩
theorem OfInv.next {x k : Nat} {O : List Nat} (h : OfInv x k O) {a : Nat} (ha : a = x / 2 ^ (64 * k) % 18446744073709551616) : OfInv x (k + 1) (O ++ [a % 4294967296, a / 4294967296]) := by
  obtain ⟨h1, h2, h3⟩ := h
  have ha1 : a < 18446744073709551616 := by omega
  refine ⟨by simp [h1]; omega, h2.app (Sm.cons (by omega) (Sm.one (by omega))), ?_⟩
  rw [dval_app, h1, h3]
  have e : dval [a % 4294967296, a / 4294967296] = a := by simp only [dval]; omega
  rw [e, show 64 * (k + 1) = 64 * k + 64 from by omega, Nat.pow_add, Nat.mod_mul, show 32 * (2 * k) = 64 * k from by omega, show (2 : Nat) ^ 64 = 18446744073709551616 from by decide, ← ha]
theorem cell_new2 (W : World) (v u : Value) (T : TypeId) : ∀ j z, [v, u][j]? = some z → (W.alloc (.cells #[v, u] T)).cell? ((⟨W.heap.size, 0, none⟩ : Addr).add j) = some z := by
  intro j z hu
  match j, hu with
  | 0, hu => simp at hu; subst hu; simp [Addr.add]
  | 1, hu => simp at hu; subst hu; simp [Addr.add]
  | j + 2, hu => simp at hu
theorem one_new2 (k : IntKind) (n m : Int) : ∀ u ∈ [Value.int k n, Value.int k m], u.oneCell' = true := by intro u hu; simp at hu; rcases hu with rfl | rfl <;> rfl
theorem Row4.at {W : World} {b x : Nat} (h : Row4 W b (.int .u64 (lb 0 x)) (.int .u64 (lb 1 x)) (.int .u64 (lb 2 x)) (.int .u64 (lb 3 x))) (k : Nat) (hk : k < 4) : W.cell? ⟨b, k, none⟩ = some (.int .u64 ((x / 2 ^ (64 * k) % 18446744073709551616 : Nat) : Int)) := by
  have e : lb k x = ((x / 2 ^ (64 * k) % 18446744073709551616 : Nat) : Int) := by unfold lb; rfl
  rw [← e]
  have : k = 0 ∨ k = 1 ∨ k = 2 ∨ k = 3 := by omega
  rcases this with rfl | rfl | rfl | rfl
  · exact h.four.1
  · exact h.four.2.1
  · exact h.four.2.2.1
  · exact h.four.2.2.2
theorem Row4.grown {W W' : World} {b : Nat} {v0 v1 v2 v3 : Value} {row : Option Nat} (h : Row4 W b v0 v1 v2 v3) (hg : W.grownBy W' row) (hne : some b ≠ row) : Row4 W' b v0 v1 v2 v3 := by
  have := h.lt
  unfold Row4 at *
  rw [← h]
  exact hg.block b this hne

set_option maxHeartbeats 1000000 in
set_option maxRecDepth 100000 in
theorem rof (x : Nat) (hx : x < 2 ^ 256) (w : World) :
    Calls Tryz.prog 29 #[N4 x] w fun e w' => ∃ s', e = .returned s' ∧ DR w' s' x ∧ Below w.heap.size w w' := by
  obtain ⟨i0, hi, hz0, hz1, hz2⟩ := info_parts info_u32
  have HX := Lib.hid hx; clear hx
  have hN : Row4 (w.alloc (.cells #[.int .u64 (lb 0 x), .int .u64 (lb 1 x), .int .u64 (lb 2 x), .int .u64 (lb 3 x)] 27)) w.heap.size (.int .u64 (lb 0 x)) (.int .u64 (lb 1 x)) (.int .u64 (lb 2 x)) (.int .u64 (lb 3 x)) := Row4.new w _ _ _ _
  have HN := Lib.hid hN; clear hN
  go_enter Tryz.func29, Tryz.ntmps29
  go_wp2
  go_loopw [3, 4] (fun v i wr => ∃ (k : Nat) (O : List Nat), i = .int .i64 (k : Int) ∧ k ≤ 4 ∧ Hid (OfInv x k O) ∧ wr.ownsRow (w.heap.size + 1) 68 1 v (2 * k) (U32s O) ∧ Hid (Row4 wr w.heap.size (.int .u64 (lb 0 x)) (.int .u64 (lb 1 x)) (.int .u64 (lb 2 x)) (.int .u64 (lb 3 x))) ∧ Below w.heap.size w wr)
    (fun _ i _ => 4 - (intOf i).toNat)
  case atStart => exact ⟨0, [], rfl, by omega, OfInv.zero x, World.ownsRow_nil _ _ _ _, HN.out, bal (Below.refl _ _) _⟩
  case round =>
    obtain ⟨k, O, rfl, hk, HI, hown, HR, hbw⟩ := hrel
    by_cases h1 : k < 4
    · obtain ⟨a, ha⟩ : ∃ a, a = x / 2 ^ (64 * k) % 18446744073709551616 := ⟨_, rfl⟩
      have q1 := HR.out.at k h1
      rw [← ha] at q1
      have hlt := HR.out.lt
      have ha1 : a < 18446744073709551616 := by omega
      have HA := Lib.hid ha; clear ha
      have b0 : (0 : Int) ≤ (k : Int) := by omega
      have b1 : (k : Int) < 4 := by omega
      go_upto_region 5 with (fail)
      have ag : u3.ownBlock ≠ some w.heap.size := fun e => by have := (hown.lt _ e).1; omega
      go_region_held3 (fun w' => w'.cell? ⟨w.heap.size, k, none⟩ = some (.int .u64 (a : Int)))
        (first | go_keep | (rw [hgrow.cell_far _ (by simp; omega) (Ne.symm ag)]; assumption))
        ((refine step_append_lies _ (by rfl) _ _ _ (by rfl) (w.heap.size + 1) 68 i0 _ 1 4 und_d hi hz0 hz1 hz2 rfl (by omega) u3 (2 * k) (U32s O) (by rfl) ((hown.alloc _).drew) ⟨wr.heap.size, 0, none⟩ 2 2 [.int .u32 (IntKind.u32.wrap (a : Int)), .int .u32 (IntKind.u32.wrap ((a : Int) / 4294967296))] (by rfl) (by rfl) (World.news_of_block (cs := #[.int .u32 (IntKind.u32.wrap (a : Int)), .int .u32 (IntKind.u32.wrap ((a : Int) / 4294967296))]) (t := 68) (fr := (0, 0)) (heap_alloc_new wr _)) (by simp [Value.oneCell']) (by omega) (by unfold maxLen; omega) (by omega) (by simp; omega) (wr.heap.size + 1) (by simp) ?_; intro gg cap w1 hown1 hgrow hat hlt1))
      have hown2 : w1.ownsRow (w.heap.size + 1) 68 1 (.slice (some ⟨gg, 0, none⟩) (2 * k + 2) cap) (2 * (k + 1)) (U32s (O ++ [a % 4294967296, a / 4294967296])) := by
        have e : U32s (O ++ [a % 4294967296, a / 4294967296]) = U32s O ++ [.int .u32 (IntKind.u32.wrap (a : Int)), .int .u32 (IntKind.u32.wrap ((a : Int) / 4294967296))] := by
          rw [IntKind.wrap_u32', IntKind.wrap_u32', show (a : Int) / 4294967296 % 4294967296 = (a : Int) / 4294967296 from by omega]
          unfold U32s
          rw [List.map_append, List.map_cons, List.map_cons, List.map_nil]
          congr 4
        rw [e]
        exact hown1
      have HR2 : Hid (Row4 w1 w.heap.size (.int .u64 (lb 0 x)) (.int .u64 (lb 1 x)) (.int .u64 (lb 2 x)) (.int .u64 (lb 3 x))) := Row4.grown (Row4.drew (Row4.alloc HR.out _)) hgrow (Ne.symm ag)
      have hb1 : Below w.heap.size w w1 := ((hbw.alloc hbw.size _).drew).grown hgrow (by simp; have := hbw.size; omega) (fun q hq => by have := (hown.lt q hq).1; omega)
      clear hown1 hgrow hown HR q1
      go_wp2
      go_roundw
      case rel => exact ⟨k + 1, _, by go_num, by omega, HI.out.next HA.out, hown2, HR2, hb1⟩
      case measure => simp [intOf]; omega
    · obtain rfl : k = 4 := by omega
      have hl : O.length = 2 * 4 := HI.out.1
      have hv : dval O = x := by rw [HI.out.2.2, Nat.mod_eq_of_lt HX.out]
      have hrd := rd_own (l := O) (by rw [hl]; exact hown)
      have ht := trim_dr hrd HI.out.2.1
      rw [hv] at ht
      have HT := Lib.hid ht
      clear ht hv hl hrd
      go_wp2_with fail
      refine HT.out.mono ?_
      rintro e w1 ⟨s', rfl, hr, hw⟩
      rw [hw]; clear hw w1
      go_wp2
      go_ret
      exact ⟨s', rfl, hr, hbw⟩
end Go.Proofs.YtjlgiejggcbgbaaGreatDoor
