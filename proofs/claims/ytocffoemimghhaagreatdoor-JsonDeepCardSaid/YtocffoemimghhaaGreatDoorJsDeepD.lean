/-
  json.Decode of arrays in arrays, objects in objects, right and cut off.
-/
import Derived.Test.YtocffoemimghhaaGreatDoorJsDeepM
import Derived.Test.YtocffoemimghhaaGreatDoorJsLongA
namespace Go.Proofs.YtocffoemimghhaaGreatDoor
open Go.RowKit Go.Shelf Go.Maps
set_option linter.unusedVariables false

def oL (k : Nat) (R : List UInt8) : List UInt8 := 123 :: 34 :: 97 :: 34 :: 58 :: oT k R
theorem oL_len (k : Nat) (R : List UInt8) : (oL k R).length = 6 * k + 6 + R.length := by
  show (oT k R).length + 1 + 1 + 1 + 1 + 1 = _
  rw [oT_len]
  omega
theorem pre5 : ∀ P ∈ ([[110, 117, 108, 108], [102, 97, 108, 115, 101], [116, 114, 117, 101], [34], [91]] : List (List UInt8)), ∀ t, Lib.hasPrefix (123 :: t) P = false := by
  intro P hP t
  simp only [List.mem_cons, List.not_mem_nil, or_false] at hP
  rcases hP with rfl | rfl | rfl | rfl | rfl <;> exact pre_no (by decide)
theorem pre4 : ∀ P ∈ ([[110, 117, 108, 108], [102, 97, 108, 115, 101], [116, 114, 117, 101], [34]] : List (List UInt8)), ∀ t, Lib.hasPrefix (91 :: t) P = false := by
  intro P hP t
  simp only [List.mem_cons, List.not_mem_nil, or_false] at hP
  rcases hP with rfl | rfl | rfl | rfl <;> exact pre_no (by decide)
theorem vc_obj (w0 : World) (b : Nat) (hb0 : w0.heap.size ≤ b) (hT0 : Tb w0) : ∀ (k : Nat) (R : List UInt8), k + R.length ≤ 1000 → (R = [] ∨ ∃ t, R = 125 :: t) → VC w0 b (oT k R) (nO k) R false false := by
  intro k
  induction k with
  | zero =>
    intro R hR hh
    have h := JV.num (l := 48 :: R) (t := R) (c := 48) (k := 3) (g := false) (x := 0) (y := 0) (skip_no (by decide)) (by decide) (Or.inl rfl) (by decide) (by omega) (by
      rw [nsz0 hh]
      exact td0)
    rw [nsz0 hh] at h
    exact jv_any w0 b hb0 hT0 _ (48 :: R) (nO 0) R false false (Nat.le_refl _) (by rw [List.length_cons]; omega) h
  | succ k ih =>
    intro R hR hh lg un w hw h
    have hl := oT_len k (125 :: R)
    have h125 : (125 :: R).length = R.length + 1 := List.length_cons
    have hL := oL_len k (125 :: R)
    refine (rv_obj (oL k (125 :: R)) (oL k (125 :: R)) (by omega) (skip_no (by decide)) b lg un w h (34 :: 97 :: 34 :: 58 :: oT k (125 :: R)) rfl (fun P hP => pre5 P hP _) (fun o kids ok W X => ok = true ∧ (VT.mk o kids).In X ∧ (VT.mk o kids).Off (fun k => k < W.heap.size) ∧ er (VT.mk o kids) = nO (k + 1) ∧ Jr X b (str R) (lg || false) (un || false)) (fun W _ hB hW => ?_)).mono ?_
    · refine (robj_one w0 b hb0 (34 :: 97 :: 34 :: 58 :: oT k (125 :: R)) [97] (oT k (125 :: R)) (nO k) (125 :: R) R true false false (by simp only [List.length_cons] at hl ⊢; omega) (by rw [skip_no (by decide)]; exact pre_no (by decide)) (jn_a _) (by omega) (by rw [skip_no (by decide)]; exact pre_no (by decide)) (Or.inl ⟨rfl, skip_no (by decide)⟩) (ih (125 :: R) (by omega) (Or.inr ⟨_, rfl⟩)) lg un W (below_but hb0 hw hB) hW).mono ?_
      rintro e w' ⟨o, kids, he, hI, hO, hE, hj, hb⟩
      exact ⟨o, kids, true, he, ⟨rfl, hI, hO, hE, hj⟩, ⟨_, _, _, hj⟩, hb⟩
    · rintro e w' ⟨o, kids, ok, W, X, s, lg2, un2, he, ⟨hok, hI, hO, hE, hj⟩, hB1, hB2, hX, hw', hb, hlt, hS⟩
      exact vq_of he hok hI hO hE hj hX hw' hb hlt hS
theorem rdoc_vc (w0 : World) (b : Nat) (hb0 : w0.heap.size ≤ b) (l : List UInt8) (T : VT) (r : List UInt8) (lg1 un1 : Bool) (hv : VC w0 b l T r lg1 un1) (hend : jskip r = []) (lg un : Bool) (w : World) (hw : Below w0.heap.size w0 w) (h : Jr w b (str l) lg un) :
    Calls Tryz.prog 20 #[.pointer (some ⟨b, 0, none⟩)] w fun e w' => ∃ (o : Own) (kids : List VT), e = .returned (.tuple #[V10 o.kind o.g (lb 0 o.x) (lb 1 o.x) (lb 2 o.x) (lb 3 o.x) o.bits o.text o.la kids.length o.lcap o.ka o.keys.length o.kcap, .bool true]) ∧ (VT.mk o kids).In w' ∧ (VT.mk o kids).Off (fun k => k < w.heap.size) ∧ er (VT.mk o kids) = T ∧ Jr w' b ⟨#[]⟩ (lg || lg1) (un || un1) ∧ But w.heap.size b w w' := by
  refine (rdoc_ok l b lg un w h (fun o kids r2 lg2 un2 W X => (VT.mk o kids).In X ∧ (VT.mk o kids).Off (fun k => k < W.heap.size) ∧ er (VT.mk o kids) = T ∧ r2 = r ∧ lg2 = (lg || lg1) ∧ un2 = (un || un1)) (fun o kids r2 lg2 un2 W X hQ => by rw [hQ.2.2.2.1]; exact hend) (fun W hB hW => ?_)).mono ?_
  · refine (hv lg un W (below_but hb0 hw hB) hW).mono ?_
    rintro e w' ⟨o, kids, he, hI, hO, hE, hj, hb⟩
    exact ⟨o, kids, r, _, _, he, ⟨hI, hO, hE, rfl, rfl, rfl⟩, hj, hb⟩
  · rintro e w' ⟨o, kids, r2, lg2, un2, W, X, he, ⟨hI, hO, hE, hr, hl2, hu2⟩, hB, hj, hb, hlt, hS⟩
    have hbw := h.lt
    subst hr; subst hl2; subst hu2
    rw [hend] at hj
    exact ⟨o, kids, he, hS.keep hI (hO.mono (fun k hk => by rcases hk with rfl | rfl <;> omega)), hO.mono (fun k hk => Nat.lt_trans hk hlt), hE, hj, hb⟩
theorem dans_obj (w : World) (hT : Tb w) (k : Nat) (hk : k ≤ 400) : DAns w (oT k []) (if 16 < k + 1 then 4 else 0) := by
  intro W g cap hW hB
  have hl : (oT k []).length ≤ 65536 := by rw [oT_len, List.length_nil]; omega
  have hn : (nO k).nodes ≤ 10000 := by rw [nO_nodes]; omega
  by_cases h : 16 < k + 1
  · rw [if_pos h]
    refine (jdec_may (oT k []) hl g 0 cap _ (str_size _).symm W hB (nO k) false false 4 (by decide) (fun W2 b hB2 hbb hW2 => ?_) (fun o kids W2 hB2 hI hE => ?_)).mono ?_
    · exact rdoc_vc W b hbb (oT k []) (nO k) [] false false (vc_obj W b hbb (tb_on hT hW) k [] (by rw [List.length_nil]; omega) (Or.inl rfl)) rfl false false W2 hB2 hW2
    · have h1 := vmay (.mk o kids) (by rw [← er_nodes, hE]; exact hn) W2 ⟨hI, tb_on (tb_on hT hW) hB2, er_small (by rw [hE]; exact nO_small k)⟩
      rw [← er_may, hE, nO_may, if_pos h] at h1
      exact h1
    · rintro e w' ⟨he, hb⟩
      exact ⟨_, _, _, _, _, _, _, _, _, _, _, _, _, _, he, hb⟩
  · rw [if_neg h]
    refine (jdec_ok (oT k []) hl g 0 cap _ (str_size _).symm W hB (nO k) (fun W2 b hB2 hbb hW2 => ?_) (fun o kids W2 hB2 hI hE => ?_)).mono ?_
    · exact rdoc_vc W b hbb (oT k []) (nO k) [] false false (vc_obj W b hbb (tb_on hT hW) k [] (by rw [List.length_nil]; omega) (Or.inl rfl)) rfl false false W2 hB2 hW2
    · have h1 := vmay (.mk o kids) (by rw [← er_nodes, hE]; exact hn) W2 ⟨hI, tb_on (tb_on hT hW) hB2, er_small (by rw [hE]; exact nO_small k)⟩
      rw [← er_may, hE, nO_may, if_neg h] at h1
      exact h1
    · rintro e w' ⟨o, kids, he, _, _, _, hb⟩
      exact ⟨_, _, _, _, _, _, _, _, _, _, _, _, _, _, he, hb⟩
theorem dans_arr (w : World) (hT : Tb w) (k : Nat) (hk : k ≤ 400) : DAns w (aT k []) (if 16 < k + 1 then 4 else 0) := by
  intro W g cap hW hB
  have hl : (aT k []).length ≤ 65536 := by rw [aT_len, List.length_nil]; omega
  have hn : (nA k).nodes ≤ 10000 := by rw [nA_nodes]; omega
  by_cases h : 16 < k + 1
  · rw [if_pos h]
    refine (jdec_over (aT k []) hl g 0 cap _ (str_size _).symm W hB (tb_on hT hW) (nA k) [] rfl hn (nA_small k) false false (jv_aT k []) 4 (by decide) (by rw [nA_may, if_pos h])).mono ?_
    rintro e w' ⟨he, hb⟩
    exact ⟨_, _, _, _, _, _, _, _, _, _, _, _, _, _, he, hb⟩
  · rw [if_neg h]
    refine (jdec_good (aT k []) hl g 0 cap _ (str_size _).symm W hB (tb_on hT hW) (nA k) [] rfl hn (nA_small k) (jv_aT k []) (by rw [nA_may, if_neg h])).mono ?_
    rintro e w' ⟨o, kids, he, _, _, _, hb⟩
    exact ⟨_, _, _, _, _, _, _, _, _, _, _, _, _, _, he, hb⟩
theorem dans_acut (w : World) (hT : Tb w) (k : Nat) (hk : k ≤ 400) : DAns w (91 :: aT k []) 3 := by
  intro W g cap hW hB
  have ha := aT_len k []
  have hc : (91 :: aT k []).length = (aT k []).length + 1 := List.length_cons
  rw [List.length_nil] at ha
  refine (jdec_no (91 :: aT k []) (by omega) g 0 cap _ (str_size _).symm W hB (fun W1 b hB1 hbb hJ => ?_)).mono ?_
  · refine (rdoc_no (91 :: aT k []) b false false W1 hJ (fun o kids r lg2 un2 X Y => True) (fun W2 hB2 hJ2 => ?_)).mono ?_
    · refine (rv_arr (91 :: aT k []) (91 :: aT k []) (by omega) (skip_no (by decide)) b false false W2 hJ2 (aT k []) rfl (fun P hP => pre4 P hP _) (fun o kids ok X Y => ok = false) (fun W3 _ hB3 hJ3 => ?_)).mono ?_
      · have hW2 := below_but hbb hB1 hB2
        have hW3 := below_but hbb hW2 hB3
        obtain ⟨t, ht⟩ := aT_head k []
        have hs : jskip (aT k []) = aT k [] := by rw [ht]; exact skip_no (by decide)
        refine (rarr_cut W b hbb (aT k []) (nA k) [] false false (by omega) (by simp) (by rw [hs, ht]; exact pre_no (by decide)) rfl rfl (by rw [hs]; exact jv_any W b hbb (tb_on hT hW) _ _ _ _ _ _ (Nat.le_refl _) (by omega) (jv_aT k [])) false false W3 hW3 hJ3).mono ?_
        rintro e w' ⟨o, kids, s, lg2, un2, he, hj, hb⟩
        exact ⟨o, kids, false, he, rfl, ⟨_, _, _, hj⟩, hb⟩
      · rintro e w' ⟨o, kids, ok, W3, X, s, lg2, un2, he, hok, hB1, hB2, hX, hw', hb, hlt, hS⟩
        subst hok
        exact ⟨o, kids, s.data.toList, lg2, un2, he, trivial, hw', hb⟩
    · rintro e w' ⟨o, kids, r, lg2, un2, W2, X, he, _, hB1, hj, hb, _⟩
      exact ⟨o, kids, _, _, _, he, hj, hb⟩
  · rintro e w' ⟨he, hb⟩
    exact ⟨_, _, _, _, _, _, _, _, _, _, _, _, _, _, he, hb⟩
theorem dans_ocut (w : World) (hT : Tb w) (k : Nat) (hk : k ≤ 400) : DAns w (oL k []) 3 := by
  intro W g cap hW hB
  have ha := oT_len k []
  have hc := oL_len k []
  rw [List.length_nil] at ha hc
  refine (jdec_no (oL k []) (by omega) g 0 cap _ (str_size _).symm W hB (fun W1 b hB1 hbb hJ => ?_)).mono ?_
  · refine (rdoc_no (oL k []) b false false W1 hJ (fun o kids r lg2 un2 X Y => True) (fun W2 hB2 hJ2 => ?_)).mono ?_
    · refine (rv_obj (oL k []) (oL k []) (by omega) (skip_no (by decide)) b false false W2 hJ2 (34 :: 97 :: 34 :: 58 :: oT k []) rfl (fun P hP => pre5 P hP _) (fun o kids ok X Y => ok = false) (fun W3 _ hB3 hJ3 => ?_)).mono ?_
      · have hW2 := below_but hbb hB1 hB2
        have hW3 := below_but hbb hW2 hB3
        refine (robj_one W b hbb (34 :: 97 :: 34 :: 58 :: oT k []) [97] (oT k []) (nO k) [] [] false false false (by simp only [List.length_cons]; omega) (by rw [skip_no (by decide)]; exact pre_no (by decide)) (jn_a _) (by rw [List.length_nil]; omega) rfl (Or.inr ⟨rfl, rfl, rfl⟩) (vc_obj W b hbb (tb_on hT hW) k [] (by rw [List.length_nil]; omega) (Or.inl rfl)) false false W3 hW3 hJ3).mono ?_
        rintro e w' ⟨o, kids, he, hI, hO, hE, hj, hb⟩
        exact ⟨o, kids, false, he, rfl, ⟨_, _, _, hj⟩, hb⟩
      · rintro e w' ⟨o, kids, ok, W3, X, s, lg2, un2, he, hok, hB1, hB2, hX, hw', hb, hlt, hS⟩
        subst hok
        exact ⟨o, kids, s.data.toList, lg2, un2, he, trivial, hw', hb⟩
    · rintro e w' ⟨o, kids, r, lg2, un2, W2, X, he, _, hB1, hj, hb, _⟩
      exact ⟨o, kids, _, _, _, he, hj, hb⟩
  · rintro e w' ⟨he, hb⟩
    exact ⟨_, _, _, _, _, _, _, _, _, _, _, _, _, _, he, hb⟩
end Go.Proofs.YtocffoemimghhaaGreatDoor
