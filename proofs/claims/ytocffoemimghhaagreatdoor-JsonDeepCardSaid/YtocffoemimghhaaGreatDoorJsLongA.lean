/-
  entrepotlaw7.JsonLong answers true for every number.
-/
import Derived.Test.YtocffoemimghhaaGreatDoorJsLongW
namespace Go.Proofs.YtocffoemimghhaaGreatDoor
open Go.RowKit Go.Shelf
set_option linter.unusedVariables false

def DAns (w : World) (l : List UInt8) (E : Int) : Prop := ∀ W g cap, Below w.heap.size w W → BytesAt W g 0 l → Calls Tryz.prog 12 #[.slice (some ⟨g, 0, none⟩) (str l).size cap] W fun e w' => ∃ (kd1 : Int) (bg1 : Bool) (y1 p1a p1b p1c bi1 : Int) (s1 : ByteArray) (la1 : Option Addr) (n1 lc1 : Nat) (ka1 : Option Addr) (m1 kc1 : Nat), e = .returned (.tuple #[V10 kd1 bg1 y1 p1a p1b p1c bi1 s1 la1 n1 lc1 ka1 m1 kc1, .int .i64 E]) ∧ Below W.heap.size W w'
def DNum (w : World) (l : List UInt8) (X E : Int) : Prop := ∀ W g cap, Below w.heap.size w W → BytesAt W g 0 l → Calls Tryz.prog 12 #[.slice (some ⟨g, 0, none⟩) (str l).size cap] W fun e w' => ∃ (kd2 : Int) (bg2 : Bool) (bi2 : Int) (s2 : ByteArray) (la2 : Option Addr) (n2 lc2 : Nat) (ka2 : Option Addr) (m2 kc2 : Nat), e = .returned (.tuple #[V10 kd2 bg2 X 0 0 0 bi2 s2 la2 n2 lc2 ka2 m2 kc2, .int .i64 E]) ∧ Below W.heap.size W w'
theorem dans_text (w : World) (hT : Tb w) (N : Nat) (hN : N ≤ 5000) : DAns w (qx N) (if 4096 < N then 8 else 0) := by
  intro W g cap hW hB
  have hl : (qx N).length ≤ 65536 := by unfold qx; rw [List.length_cons, List.length_append, List.length_replicate, List.length_singleton]; omega
  have hs : (tx N).Every SmallO := lf_small _ _ _ _ _ (by rw [str_size, List.length_replicate]; omega)
  have hn : (tx N).nodes ≤ 10000 := by unfold tx; rw [lf_nodes]; omega
  by_cases h : 4096 < N
  · rw [if_pos h]
    refine (jdec_over (qx N) hl g 0 cap _ (str_size _).symm W hB (tb_on hT hW) (tx N) [] rfl hn hs false false (jv_qx N) 8 (by decide) (by rw [tx_may, if_pos h])).mono ?_
    rintro e w' ⟨he, hb⟩
    exact ⟨_, _, _, _, _, _, _, _, _, _, _, _, _, _, he, hb⟩
  · rw [if_neg h]
    refine (jdec_good (qx N) hl g 0 cap _ (str_size _).symm W hB (tb_on hT hW) (tx N) [] rfl hn hs (jv_qx N) (by rw [tx_may, if_neg h])).mono ?_
    rintro e w' ⟨o, kids, he, _, _, _, hb⟩
    exact ⟨_, _, _, _, _, _, _, _, _, _, _, _, _, _, he, hb⟩
theorem dnum_one (w : World) (hT : Tb w) (M : Nat) (hM : M ≤ 400) (hv : JV (on M) (lf 3 false 1 0 ⟨#[]⟩) [] false false) : DNum w (on M) 1 0 := by
  intro W g cap hW hB
  refine (jdec_good (on M) (by unfold on; rw [List.length_cons, List.length_cons, List.length_replicate]; omega) g 0 cap _ (str_size _).symm W hB (tb_on hT hW) _ [] rfl (by rw [lf_nodes]; omega) (lf_small _ _ _ _ _ (by decide)) hv one_may7).mono ?_
  rintro e w' ⟨o, kids, he, _, _, hE, hb⟩
  obtain ⟨_, _, e3, _, _, _, _⟩ := er_inj_shape (show er (.mk o kids) = .mk _ _ from hE)
  have hval : (VT.mk o kids).val = V10 o.kind o.g 1 0 0 0 o.bits o.text o.la kids.length o.lcap o.ka o.keys.length o.kcap := by
    show V10 o.kind o.g (lb 0 o.x) (lb 1 o.x) (lb 2 o.x) (lb 3 o.x) o.bits o.text o.la kids.length o.lcap o.ka o.keys.length o.kcap = _
    rw [e3, show lb 0 1 = 1 from by decide +kernel, show lb 1 1 = 0 from by decide +kernel, show lb 2 1 = 0 from by decide +kernel, show lb 3 1 = 0 from by decide +kernel]
  rw [hval] at he
  exact ⟨_, _, _, _, _, _, _, _, _, _, he, hb⟩
theorem dnum_long (w : World) (hT : Tb w) (M : Nat) (hM : M ≤ 400) (hv : JV (on M) (lf 1 false 0 0 ⟨#[]⟩) [] true false) : DNum w (on M) 0 8 := by
  intro W g cap hW hB
  refine (jdec_long (on M) (by unfold on; rw [List.length_cons, List.length_cons, List.length_replicate]; omega) g 0 cap _ (str_size _).symm W hB (tb_on hT hW) _ [] rfl (by rw [lf_nodes]; omega) (lf_small _ _ _ _ _ (by decide)) false hv null_may7).mono ?_
  rintro e w' ⟨he, hb⟩
  exact ⟨_, _, _, _, _, _, _, _, _, _, he, hb⟩
theorem jlong_any (z : Int) (w : World) (hT : Tabs w) :
    Calls Tryz.prog 6 #[.int .i64 z] w fun e w' => e = .returned (.bool true) ∧ Below w.heap.size w w' := by
  obtain ⟨K, hK, hK5⟩ := long_k z
  have hTb := hT.2
  by_cases h0 : K ≤ 0
  · obtain ⟨M, hM, hv⟩ : ∃ M : Nat, (M : Int) = 398 + K ∧ JV (on M) (lf 3 false 1 0 ⟨#[]⟩) [] false false := by
      rcases hK5 with rfl | rfl | rfl | rfl | rfl
      · exact ⟨396, by omega, jv_on396⟩
      · exact ⟨397, by omega, jv_on397⟩
      · exact ⟨398, by omega, jv_on398⟩
      · omega
      · omega
    obtain ⟨N, hN⟩ : ∃ N : Nat, (N : Int) = 4096 + K := ⟨(4096 + K).toNat, by omega⟩
    obtain ⟨L, hL⟩ : ∃ L : Nat, ((L + 1 : Nat) : Int) = 65536 + K := ⟨(65535 + K).toNat, by omega⟩
    have h1 := dans_text w hTb N (by omega)
    rw [if_neg (by omega)] at h1
    refine jlong_core z K hK (by omega) N M (L + 1) hN hM hL 0 0 3 1 (Or.inl ⟨h0, rfl, rfl, rfl, rfl⟩) w hT h1 (dnum_one w hTb M (by omega) hv) (fun W g hW hB => ?_)
    refine (jdec_zero (List.replicate L 0) (by rw [List.length_cons, List.length_replicate]; omega) g 0 (L + 1) (L + 1) (by rw [List.length_cons, List.length_replicate]) W (tb_on hTb hW) hB).mono ?_
    rintro e w' ⟨he, hb⟩
    exact ⟨_, _, _, _, _, _, _, _, _, _, _, _, _, _, he, hb⟩
  · obtain ⟨M, hM, hv⟩ : ∃ M : Nat, (M : Int) = 398 + K ∧ JV (on M) (lf 1 false 0 0 ⟨#[]⟩) [] true false := by
      rcases hK5 with rfl | rfl | rfl | rfl | rfl
      · omega
      · omega
      · omega
      · exact ⟨399, by omega, jv_on399⟩
      · exact ⟨400, by omega, jv_on400⟩
    obtain ⟨N, hN⟩ : ∃ N : Nat, (N : Int) = 4096 + K := ⟨(4096 + K).toNat, by omega⟩
    obtain ⟨L, hL⟩ : ∃ L : Nat, (L : Int) = 65536 + K := ⟨(65536 + K).toNat, by omega⟩
    have h1 := dans_text w hTb N (by omega)
    rw [if_pos (by omega)] at h1
    refine jlong_core z K hK (by omega) N M L hN hM hL 8 8 8 0 (Or.inr ⟨by omega, rfl, rfl, rfl, rfl⟩) w hT h1 (dnum_long w hTb M (by omega) hv) (fun W g hW hB => ?_)
    refine (jdec_big (some ⟨g, 0, none⟩) L L (by omega) W).mono ?_
    rintro e w' ⟨he, hb⟩
    exact ⟨_, _, _, _, _, _, _, _, _, _, _, _, _, _, he, hb⟩
end Go.Proofs.YtocffoemimghhaaGreatDoor
