/-
  entrepotlaw7.JsonTexts answers true for every row of numbers and every row of bools.
-/
import Derived.Test.YtocffoemimghhaaGreatDoorJsTxtW
import Derived.Test.YtocffoemimghhaaGreatDoorJsRowL
namespace Go.Proofs.YtocffoemimghhaaGreatDoor
open Go.RowKit Go.Shelf

theorem jtexts_any (v : Value) (zs : List Int) (B : Option Addr) (m hcap : Nat) (bs : Nat → Bool) (W : World) (hT : Tabs W) (hv : IntsAt W v zs) (hl : zs.length ≤ maxLen) (hm : m ≤ maxLen)
    (hb : ∀ i, i < m → ∃ bb off, B = some ⟨bb, off, none⟩ ∧ W.cell? ⟨bb, off + i, none⟩ = some (.bool (bs i))) :
    Calls Tryz.prog 4 #[v, .slice B m hcap] W fun e w' => e = .returned (.bool true) ∧ Below W.heap.size W w' := by
  have hm2 : m ≤ 9223372036854775807 := by unfold maxLen at hm; omega
  rcases hv with ⟨A, cap, rfl, rfl⟩ | ⟨b, off, cap, rfl, h0, hc⟩
  · exact jtexts_core A 0 cap (fun _ => 0) B m hcap bs W hT (by decide) hm2 (fun i h => absurd h (Nat.not_lt_zero i)) hb
  · by_cases h60 : zs.length ≤ 60
    · exact jtexts_core _ _ cap (fun i => zs.getD i 0) B m hcap bs W hT h60 hm2 (fun i h => ⟨b, off, rfl, hc i h⟩) hb
    · exact jtexts_told _ _ cap _ W hT (by unfold maxLen at hl; omega) (by omega)
end Go.Proofs.YtocffoemimghhaaGreatDoor
