/-
  json.Decode of what is too long, of what begins with a zero byte.
-/
import Derived.Test.YtocffoemimghhaaGreatDoorJsLongM
namespace Go.Proofs.YtocffoemimghhaaGreatDoor
open Go.RowKit Go.Shelf
set_option linter.unusedVariables false
set_option linter.unusedSimpArgs false

set_option maxRecDepth 100000 in
set_option maxHeartbeats 1000000 in
theorem jdec_big (a : Option Addr) (N cap : Nat) (hN : 65536 < N) (w : World) :
    Calls Tryz.prog 12 #[.slice a N cap] w fun e w' => e = .returned (.tuple #[V10 0 false 0 0 0 0 0 ⟨#[]⟩ none 0 0 none 0 0, .int .i64 8]) ∧ Below w.heap.size w w' := by
  have h65 : (65536 : Int) < (N : Int) := by omega
  have HZ := Lib.hid (Row10.new w (.int .i64 0) (.bool false) (.int .u64 0) (.int .u64 0) (.int .u64 0) (.int .u64 0) (.int .u64 0) (.string ⟨#[]⟩) (.slice none 0 0) (.slice none 0 0))
  have HB := Lib.hid (bal (Below.refl _ w) (.cells #[.int .i64 0, .bool false, .int .u64 0, .int .u64 0, .int .u64 0, .int .u64 0, .int .u64 0, .string ⟨#[]⟩, .slice none 0 0, .slice none 0 0] 30))
  obtain ⟨a0, a1, a2, a3, a4, a5, a6, a7, a8, a9⟩ := HZ.out.parts
  have al := HZ.out.lt
  have af := HZ.out.free
  go_enter Tryz.func12, Tryz.ntmps12
  go_wp2
  exact bodyPost_ret (v := .tuple #[V10 0 false 0 0 0 0 0 ⟨#[]⟩ none 0 0 none 0 0, .int .i64 8]) (by simp [results, Tryz.results12, go_sem, a0, a1, a2, a3, a4, a5, a6, a7, a8, a9]) rfl ⟨rfl, HB.out⟩
theorem nsz_nul (t : List UInt8) : nsz (0 :: t) = 0 := by
  unfold nsz
  rw [if_pos]
  rfl
theorem dpans_nil : dpans [] = ER 3 := by
  unfold dpans
  rw [if_neg (by decide), show rd [] = none from by decide +kernel]
theorem jdec_zero (t : List UInt8) (hl : (0 :: t).length ≤ 65536) (gg off cap N : Nat) (hN : (0 :: t).length = N) (W : World) (hT : Tb W) (hq : BytesAt W gg off (0 :: t)) :
    Calls Tryz.prog 12 #[.slice (some ⟨gg, off, none⟩) N cap] W fun e w' => e = .returned (.tuple #[V10 0 false 0 0 0 0 0 ⟨#[]⟩ none 0 0 none 0 0, .int .i64 3]) ∧ Below W.heap.size W w' := by
  have hj : jskip (0 :: t) = 0 :: t := by unfold jskip; rw [List.dropWhile_cons, if_neg (by decide)]
  refine jdec_no (0 :: t) hl gg off cap N hN W hq (fun W1 b hB hbb hJ => ?_)
  refine (rdoc_no (0 :: t) b false false W1 hJ (fun o kids r lg2 un2 X Y => True) (fun W2 hB2 hJ2 => ?_)).mono ?_
  · refine (rv_num (0 :: t) (0 :: t) (by omega) hj b false false W2 hJ2 (fun P hP => by
      simp only [List.mem_cons, List.not_mem_nil, or_false] at hP
      rcases hP with rfl | rfl | rfl | rfl | rfl | rfl <;> exact pre_no (by decide)) (fun o kids ok X Y => ok = false) (fun W3 _ hB3 hJ3 => ?_)).mono ?_
    · have hW2 := below_but hbb hB hB2
      have hW3 := below_but hbb hW2 hB3
      refine (rnum_bad (0 :: t) (by omega) b false false W3 hJ3 (tb_on hT hW3) (by rw [nsz_nul, List.take_zero]; exact dpans_nil)).mono ?_
      rintro e w' ⟨he, hj, hb⟩
      exact ⟨⟨1, false, 0, 0, ⟨#[]⟩, none, 0, none, 0, []⟩, [], false, by rw [he]; rfl, rfl, ⟨_, _, _, hj⟩, hb⟩
    · rintro e w' ⟨o, kids, ok, W3, X, s, lg2, un2, he, hok, hB1, hB2, hX, hw', hb, hlt, hS⟩
      subst hok
      exact ⟨o, kids, s.data.toList, lg2, un2, he, trivial, hw', hb⟩
  · rintro e w' ⟨o, kids, r, lg2, un2, W2, X, he, _, hB1, hj, hb, _⟩
    exact ⟨o, kids, _, _, _, he, hj, hb⟩
end Go.Proofs.YtocffoemimghhaaGreatDoor
