/-
  entrepotlaw6.ValueNumbers: for any bits, any value, any name.
-/
import Derived.Test.YtjdogiehcgfmjaaGreatDoorNumbersW
import Derived.Test.YtjdogiehcgfmjaaGreatDoorR6Long
import Derived.Test.YtjdogiehcgfmjaaGreatDoorGB
namespace Go.Proofs.YtjdogiehcgfmjaaGreatDoor
open Go.RowKit Go.Shelf

/-- A value of a kind, a whole number and bits alone. -/
def leafG (k : Int) (g : Bool) (x : Nat) (b : Int) : VT := .mk ⟨k, g, x, b, ⟨#[]⟩, none, 0, none, 0, []⟩ []
section
variable {k : Int} {g : Bool} {x : Nat} {b : Int}
theorem leafG_in (hk : -100 ≤ k ∧ k ≤ 100) (hx : x < 2 ^ 256) (hb : 0 ≤ b ∧ b ≤ 18446744073709551615) (w : World) : (leafG k g x b).In w :=
  .mk _ _ ⟨⟨by show _ ≤ k; omega, by show k ≤ _; omega⟩, hx, hb, Nat.zero_le _, ⟨Nat.le_refl _, Nat.zero_le _⟩, ⟨Nat.le_refl _, Nat.zero_le _⟩, fun s h => by cases h⟩
    ⟨0, 0, fun h => absurd h (by simp), fun i s h => by simp at h⟩ ⟨0, 0, fun h => absurd h (by simp), fun i s h => by simp at h⟩ (fun i t h => by simp at h)
theorem leafG_q (hk : -100 ≤ k ∧ k ≤ 100) (hx : x < 2 ^ 256) (hb : 0 ≤ b ∧ b ≤ 18446744073709551615) (w : World) (hT : Tb w) : Qv (leafG k g x b) w :=
  ⟨leafG_in hk hx hb w, hT, .mk _ _ ⟨Nat.zero_le _, fun s h => by cases h⟩ (fun t h => by cases h)⟩
theorem leafG_nodes : (leafG k g x b).nodes = 1 := by unfold leafG; rw [VT.nodes_mk]; rfl
theorem leafG_may (h34 : k = 3 ∨ k = 4) (hq : ownB (leafG k g x b).o 0 = true) : mayN (leafG k g x b) = 0 := by
  have ho : overT (leafG k g x b) = false := by
    show overB (leafG k g x b).o 0 = false
    rcases h34 with rfl | rfl <;> rfl
  have hd : (leafG k g x b).depth = 1 := by unfold leafG; rw [VT.depth_mk]; rfl
  have hh : ∀ p, hasT p (leafG k g x b) = p (leafG k g x b) := fun p => by rw [hasT_mk]; simp [leafG]
  unfold mayN
  rw [hd, if_neg (by omega), hh, ho, if_neg (by simp), hh]
  have : wrongT (leafG k g x b) = !true := by rw [← hq]; rfl
  rw [this]; rfl
theorem leafG_same : sameT (leafG k g x b) (leafG k g x b) = true := by
  unfold leafG
  rw [sameT]
  simp only [VT.o_mk, VT.kids_mk]
  rw [eqO_self, keysEq_self, kidsEq_of rfl (fun j c t hc _ => by simp at hc)]
  rfl
end
theorem whole_own (z : Int) (hz : z.natAbs < 2 ^ 256) : ownB (leafG 3 (decide (z < 0)) z.natAbs 0).o 0 = true := by
  have : outB (leafG 3 (decide (z < 0)) z.natAbs 0).o 0 = true := by
    show eqO 3 (decide (z < 0)) (lb 0 z.natAbs) (lb 1 z.natAbs) (lb 2 z.natAbs) (lb 3 z.natAbs) 0 ⟨#[]⟩ ((0 : Nat) : Int) ((0 : Nat) : Int) 3 (decide (z < 0)) (lb 0 z.natAbs) (lb 1 z.natAbs) (lb 2 z.natAbs) (lb 3 z.natAbs) 0 ⟨#[]⟩ ((0 : Nat) : Int) ((0 : Nat) : Int) = true
    exact eqO_same _ _ _ _ _ _ _ _ _ _
  unfold ownB
  rw [this]
  show (true && okI (decide (z < 0)) z.natAbs) = true
  unfold okI
  have h := eq5_int (decide (z < 0)) true z.natAbs 0 hz (by decide)
  simp only [lb_zero] at h
  rw [h, decide_eq_false]
  · rfl
  · intro e
    obtain ⟨e1, e2⟩ := e
    have := of_decide_eq_true e1
    omega
theorem float_own (b : Nat) (hw : whl b = none) : ownB (leafG 4 false 0 (can b : Nat)).o 0 = true := by
  have hout : outB (leafG 4 false 0 (can b : Nat)).o 0 = true := by
    show eqO 4 false (lb 0 0) (lb 1 0) (lb 2 0) (lb 3 0) ((can b : Nat) : Int) ⟨#[]⟩ ((0 : Nat) : Int) ((0 : Nat) : Int) 4 false 0 0 0 0 ((can b : Nat) : Int) ⟨#[]⟩ ((0 : Nat) : Int) ((0 : Nat) : Int) = true
    simp only [lb_zero]
    exact eqO_same _ _ _ _ _ _ _ _ _ _
  unfold ownB
  rw [hout]
  show (true && mayF ((can b : Nat) : Int).toNat) = true
  rw [Int.toNat_natCast, Bool.true_and]
  unfold mayF
  by_cases h : INF < rg b
  · rw [can_nan h]
    decide +kernel
  · rw [can_id (by omega), can_id (by omega)]
    have : cls b ≠ 0 := by
      unfold cls
      rw [if_neg h, hw]
      split
      · split <;> omega
      · simp
        split <;> omega
    simp [this]
/-- What a float's bits mean: as a value. -/
def numT (b : Nat) : VT :=
  match whl b with
  | some n => leafG 3 (decide ((if sg b = 1 then -(n : Int) else n) < 0)) (if sg b = 1 then -(n : Int) else n).natAbs 0
  | none => leafG 4 false 0 (can b : Nat)
theorem can_lt (b : Nat) (hb : b < 18446744073709551616) : can b < 18446744073709551616 := by
  unfold can
  split
  · decide
  · exact hb
/-- All that the walk asks of a number: it lies in any memory, is the same as itself, may be; both sides answer it. -/
theorem num_all (b : Nat) (hb : b < 18446744073709551616) : ∃ (kn : Int) (gn : Bool) (xn : Nat) (bn : Int), (∀ W, VT.In W (leafG kn gn xn bn)) ∧ sameT (leafG kn gn xn bn) (leafG kn gn xn bn) = true ∧
    (∀ W, Tb W → Calls Tryz.prog 21 #[.int .u64 (b : Nat)] W fun e w' => e = .returned (V10 kn gn (lb 0 xn) (lb 1 xn) (lb 2 xn) (lb 3 xn) bn ⟨#[]⟩ none 0 0 none 0 0) ∧ Below W.heap.size W w') ∧
    (∀ W, Calls Tryz.prog 22 #[.int .u64 (b : Nat)] W fun e w' => e = .returned (V10 kn gn (lb 0 xn) (lb 1 xn) (lb 2 xn) (lb 3 xn) bn ⟨#[]⟩ none 0 0 none 0 0) ∧ Below W.heap.size W w') ∧
    (∀ W, Tb W → Calls Tryz.prog 23 #[V10 kn gn (lb 0 xn) (lb 1 xn) (lb 2 xn) (lb 3 xn) bn ⟨#[]⟩ none 0 0 none 0 0] W fun e w' => e = .returned (.int .i64 0) ∧ Below W.heap.size W w') := by
  have hw1 := fun W hW => whole_any b hb W hW
  have hw2 := fun W => rfwhole b hb W
  unfold WEnd at hw1 hw2
  cases hw : whl b with
  | some n =>
    rw [hw] at hw1 hw2
    have hn : n < 2 ^ 256 := by
      unfold whl at hw
      split at hw
      · rename_i h; cases hw; exact h.2.2
      · cases hw
    obtain ⟨z, hz⟩ : ∃ z : Int, z = if sg b = 1 then -(n : Int) else n := ⟨_, rfl⟩
    have hz2 : z.natAbs < 2 ^ 256 := by rw [hz]; split <;> omega
    simp only at hw1 hw2
    rw [← hz] at hw1 hw2
    refine ⟨3, decide (z < 0), z.natAbs, 0, leafG_in (by omega) hz2 (by omega), leafG_same, fun W hW => ?_, fun W => ?_, fun W hW => ?_⟩
    · exact number_yes b _ _ _ _ _ W fun W' hb' => hw1 W' (tb_on hW hb')
    · exact rnumber_yes b _ _ _ _ _ W fun W' _ => hw2 W'
    · have := vmay (leafG 3 (decide (z < 0)) z.natAbs 0) (by rw [leafG_nodes]; omega) W (leafG_q (by omega) hz2 (by omega) W hW)
      rw [leafG_may (.inl rfl) (whole_own z hz2)] at this
      exact this
  | none =>
    rw [hw] at hw1 hw2
    simp only at hw1 hw2
    have hc := can_lt b hb
    have e : V10 4 false (lb 0 0) (lb 1 0) (lb 2 0) (lb 3 0) ((can b : Nat) : Int) ⟨#[]⟩ none 0 0 none 0 0 = V10 4 false 0 0 0 0 ((can b : Nat) : Int) ⟨#[]⟩ none 0 0 none 0 0 := by simp only [lb_zero]
    refine ⟨4, false, 0, (can b : Nat), leafG_in (by omega) (by omega) (by omega), leafG_same, fun W hW => ?_, fun W => ?_, fun W hW => ?_⟩
    · rw [e]
      exact number_no b _ W (fun W' hb' => hw1 W' (tb_on hW hb')) (fun W' => (canon_any b hb W').mono fun _ _ h => ⟨h.1, h.2.symm⟩)
    · rw [e]
      exact rnumber_no b _ W (fun W' _ => hw2 W') (fun W' _ => rcanon b hb W')
    · have := vmay (leafG 4 false 0 (can b : Nat)) (by rw [leafG_nodes]; omega) W (leafG_q (by omega) (by omega) (by omega) W hW)
      rw [leafG_may (.inr rfl) (float_own b hw)] at this
      exact this

theorem pick_at (bits : Int) (keys : List ByteArray) (hk : ¬ keys.length = 0) (h4 : keys.length ≤ 400) :
    ∃ (j : Nat), wrap64 (bits / 2 % (keys.length : Int)) = (j : Int) ∧ j < keys.length ∧ ∃ key, keys[j]? = some key := by
  have hm0 := Int.emod_nonneg (bits / 2) (show (keys.length : Int) ≠ 0 by omega)
  have hm1 := Int.emod_lt_of_pos (bits / 2) (show (0 : Int) < (keys.length : Int) by omega)
  obtain ⟨j, hj⟩ : ∃ j : Nat, bits / 2 % (keys.length : Int) = (j : Int) := ⟨(bits / 2 % (keys.length : Int)).toNat, by omega⟩
  have hjl : j < keys.length := by omega
  refine ⟨j, ?_, hjl, keys[j], List.getElem?_eq_getElem hjl⟩
  rw [hj]
  unfold wrap64
  omega
theorem getO_mem {kd : Int} {keys : List ByteArray} {kids : List VT} {name : ByteArray} {t : VT} (h : getO kd keys kids name = some t) : t ∈ kids := by
  unfold getO at h
  split at h
  · exact List.mem_of_getElem? h
  · cases h
/-- Both Gets, as the walk asks for them. -/
theorem gets_both (T : VT) (hE : T.Every TinyO) (hn : T.nodes ≤ 400) (nm : ByteArray) (w : World) (hI : T.In w) :
    ∃ (kdu : Int) (gu : Bool) (xu : Nat) (bu : Int) (su : ByteArray) (lau : Option Addr) (lcu : Nat) (kau : Option Addr) (kcu : Nat) (ksu : List ByteArray) (lu : List VT) (q : Bool), VT.In w (.mk ⟨kdu, gu, xu, bu, su, lau, lcu, kau, kcu, ksu⟩ lu) ∧
      (∀ W, Below w.heap.size w W → Calls Tryz.prog 19 #[T.val, .string nm] W (GetA W (.mk ⟨kdu, gu, xu, bu, su, lau, lcu, kau, kcu, ksu⟩ lu) q)) ∧
      (∀ W, Below w.heap.size w W → Calls Tryz.prog 20 #[T.val, .string nm] W fun e w' => e = .returned (.tuple #[V10 kdu gu (lb 0 xu) (lb 1 xu) (lb 2 xu) (lb 3 xu) bu su lau lu.length lcu kau ksu.length kcu, .bool q]) ∧ Below W.heap.size W w') := by
  have h1 := fun W (hb : Below w.heap.size w W) => vget T hE hn nm W (hI.keep hb)
  have h2 := fun W (hb : Below w.heap.size w W) => rget T nm W (hI.keep hb)
  cases hg : getT T nm with
  | some t =>
    rw [hg] at h1 h2
    have hm : t ∈ T.kids := getO_mem hg
    have ht := hI.mem hm
    obtain ⟨⟨kdu, gu, xu, bu, su, lau, lcu, kau, kcu, ksu⟩, lu⟩ := t
    refine ⟨kdu, gu, xu, bu, su, lau, lcu, kau, kcu, ksu, lu, true, ht, fun W hb => (h1 W hb).mono fun e w' h => ?_, fun W hb => h2 W hb⟩
    obtain ⟨kd, g, x, b, s, la, lc, ka, kc, ks, l, h3, h4, h5, h6⟩ := h
    exact ⟨kd, g, x, b, s, la, lc, ka, kc, ks, l, h3, h4.ins, h5, h6⟩
  | none =>
    rw [hg] at h1 h2
    have e : V10 0 false (lb 0 0) (lb 1 0) (lb 2 0) (lb 3 0) 0 ⟨#[]⟩ none ([] : List VT).length 0 none ([] : List ByteArray).length 0 = Z10 := by simp only [lb_zero, List.length_nil]
    refine ⟨0, false, 0, 0, ⟨#[]⟩, none, 0, none, 0, [], [], false, leafG_in (by omega) (by omega) (by omega) w, fun W hb => (h1 W hb).mono fun e' w' h => ?_, fun W hb => ?_⟩
    · exact ⟨0, false, 0, 0, ⟨#[]⟩, none, 0, none, 0, [], [], by rw [e]; exact h.1, leafG_in (by omega) (by omega) (by omega) w', leafG_same, h.2⟩
    · rw [e]
      exact h2 W hb

/-- The law, for any bits, any value, any name. -/
theorem numbers_any (bits : Int) (hb0 : 0 ≤ bits) (hb1 : bits ≤ 18446744073709551615) (T : VT) (name : ByteArray) (w : World) (hI : T.In w) (hT : Tb w) :
    Calls Tryz.prog 4 #[.int .u64 bits, T.val, .string name] w fun e w' => e = .returned (.bool true) ∧ Below w.heap.size w w' := by
  have k1 := fun W (hb : Below w.heap.size w W) => vfew T W (hI.keep hb)
  cases hf : fewOk T with
  | false =>
    rw [hf] at k1
    obtain ⟨⟨kd, g, x, b, s, la, lc, ka, kc, keys⟩, kids⟩ := T
    exact numbers_few kd g x b s la lc kc bits name w hT _ _ ka k1
  | true =>
    rw [hf] at k1
    obtain ⟨hQ, hn, hd, hE⟩ := few_all hf hI hT
    have k2 := fun W (hb : Below w.heap.size w W) => r6may_few T W (hQ.keep hb) hn hd hE
    have hg := fun nm => gets_both T hE hn nm w hI
    have hl4 : T.kids.length ≤ 400 := by
      obtain ⟨o, kids⟩ := T
      have := VT.length_nodes o kids
      show kids.length ≤ 400
      omega
    have hk4 : T.o.keys.length ≤ 400 := by
      obtain ⟨o, kids⟩ := T
      exact hE.own.2.1
    obtain ⟨z, hz⟩ : ∃ z, z = mayN T := ⟨_, rfl⟩
    rw [← hz] at k2
    clear hz
    obtain ⟨nb, rfl⟩ : ∃ nb : Nat, bits = (nb : Int) := ⟨bits.toNat, by omega⟩
    obtain ⟨kn, gn, xn, bn, hN, hNN, k5, k6, k7⟩ := num_all nb (by omega)
    have k5' := fun W (hb : Below w.heap.size w W) => k5 W (tb_on hT hb)
    have k6' := fun W (_ : Below w.heap.size w W) => k6 W
    have k7' := fun W (hb : Below w.heap.size w W) => k7 W (tb_on hT hb)
    by_cases hz : z = 0
    · subst hz
      by_cases h0 : T.o.keys.length = 0
      · obtain ⟨kdu, gu, xu, bu, su, lau, lcu, kau, kcu, ksu, lu, q, hU, k3, k4⟩ := hg name
        obtain ⟨⟨kd, g, x, b, s, la, lc, ka, kc, keys⟩, kids⟩ := T
        obtain rfl : keys = [] := List.eq_nil_of_length_eq_zero h0
        exact numbers_main_nil kd g x b s la lc kc nb hb0 hb1 name w hT kids.length ka hl4 kdu gu xu bu su lau lcu kau kcu ksu lu q hU kn gn xn bn hN hNN k1 k2 k3 k4 k5' k6' k7'
      · by_cases hne : T.o.keys.length = T.kids.length
        · cases hbit : (Go.bits BinOp.and IntKind.u64 (nb : Int) 1 == 1) with
          | false =>
            obtain ⟨kdu, gu, xu, bu, su, lau, lcu, kau, kcu, ksu, lu, q, hU, k3, k4⟩ := hg name
            obtain ⟨⟨kd, g, x, b, s, la, lc, ka, kc, keys⟩, kids⟩ := T
            have hne' : keys.length = kids.length := hne
            have e : (VT.mk ⟨kd, g, x, b, s, la, lc, ka, kc, keys⟩ kids).val = V10 kd g (lb 0 x) (lb 1 x) (lb 2 x) (lb 3 x) b s la kids.length lc ka kids.length kc := by
              show V10 kd g (lb 0 x) (lb 1 x) (lb 2 x) (lb 3 x) b s la kids.length lc ka keys.length kc = _
              rw [hne']
            rw [e] at k1 k2 k3 k4 ⊢
            exact numbers_main_bit kd g x b s la lc kc nb hb0 hb1 name w hT kids.length ka hl4 (by have h1 : ¬ keys.length = 0 := h0; omega) hbit kdu gu xu bu su lau lcu kau kcu ksu lu q hU kn gn xn bn hN hNN k1 k2 k3 k4 k5' k6' k7'
          | true =>
            obtain ⟨j, hj, hjn, key, hkey⟩ := pick_at (nb : Int) T.o.keys h0 hk4
            obtain ⟨kdu, gu, xu, bu, su, lau, lcu, kau, kcu, ksu, lu, q, hU, k3, k4⟩ := hg key
            obtain ⟨o, kids⟩ := T
            obtain ⟨kb, koff, hKK⟩ := hI.keys'
            obtain ⟨kd, g, x, b, s, la, lc, ka, kc, keys⟩ := o
            have hne' : keys.length = kids.length := hne
            have hka : ka = some ⟨kb, koff, none⟩ := hKK.ka (by have h1 : ¬ keys.length = 0 := h0; show 0 < keys.length; omega)
            subst hka
            have hcell := hKK.cells j key hkey
            have e : (VT.mk ⟨kd, g, x, b, s, la, lc, some ⟨kb, koff, none⟩, kc, keys⟩ kids).val = V10 kd g (lb 0 x) (lb 1 x) (lb 2 x) (lb 3 x) b s la kids.length lc (some ⟨kb, koff, none⟩) kids.length kc := by
              show V10 kd g (lb 0 x) (lb 1 x) (lb 2 x) (lb 3 x) b s la kids.length lc (some ⟨kb, koff, none⟩) keys.length kc = _
              rw [hne']
            rw [e] at k1 k2 k3 k4 ⊢
            simp only [VT.o_mk] at hj hjn
            rw [hne'] at hj hjn
            exact numbers_main_pick kd g x b s la lc kc nb hb0 hb1 name w hT kids.length kb koff key j hj hjn hcell hl4 (by omega) hbit kdu gu xu bu su lau lcu kau kcu ksu lu q hU kn gn xn bn hN hNN k1 k2 k3 k4 k5' k6' k7'
        · obtain ⟨kdu, gu, xu, bu, su, lau, lcu, kau, kcu, ksu, lu, q, hU, k3, k4⟩ := hg name
          obtain ⟨⟨kd, g, x, b, s, la, lc, ka, kc, keys⟩, kids⟩ := T
          exact numbers_main_ne kd g x b s la lc kc nb hb0 hb1 name w hT kids.length keys.length ka hl4 hk4 (by have h1 : ¬ keys.length = 0 := h0; omega) hne kdu gu xu bu su lau lcu kau kcu ksu lu q hU kn gn xn bn hN hNN k1 k2 k3 k4 k5' k6' k7'
    · have hz' : (z != 0) = true := by rw [bne_iff_ne]; exact hz
      by_cases h0 : T.o.keys.length = 0
      · obtain ⟨⟨kd, g, x, b, s, la, lc, ka, kc, keys⟩, kids⟩ := T
        obtain rfl : keys = [] := List.eq_nil_of_length_eq_zero h0
        exact numbers_may_nil kd g x b s la lc kc nb hb0 hb1 name w hT kids.length ka hl4 z hz' k1 k2
      · by_cases hne : T.o.keys.length = T.kids.length
        · cases hbit : (Go.bits BinOp.and IntKind.u64 (nb : Int) 1 == 1) with
          | false =>
            obtain ⟨⟨kd, g, x, b, s, la, lc, ka, kc, keys⟩, kids⟩ := T
            have hne' : keys.length = kids.length := hne
            have e : (VT.mk ⟨kd, g, x, b, s, la, lc, ka, kc, keys⟩ kids).val = V10 kd g (lb 0 x) (lb 1 x) (lb 2 x) (lb 3 x) b s la kids.length lc ka kids.length kc := by
              show V10 kd g (lb 0 x) (lb 1 x) (lb 2 x) (lb 3 x) b s la kids.length lc ka keys.length kc = _
              rw [hne']
            rw [e] at k1 k2 ⊢
            exact numbers_may_bit kd g x b s la lc kc nb hb0 hb1 name w hT kids.length ka hl4 (by have h1 : ¬ keys.length = 0 := h0; omega) hbit z hz' k1 k2
          | true =>
            obtain ⟨j, hj, hjn, key, hkey⟩ := pick_at (nb : Int) T.o.keys h0 hk4
            obtain ⟨o, kids⟩ := T
            obtain ⟨kb, koff, hKK⟩ := hI.keys'
            obtain ⟨kd, g, x, b, s, la, lc, ka, kc, keys⟩ := o
            have hne' : keys.length = kids.length := hne
            have hka : ka = some ⟨kb, koff, none⟩ := hKK.ka (by have h1 : ¬ keys.length = 0 := h0; show 0 < keys.length; omega)
            subst hka
            have hcell := hKK.cells j key hkey
            have e : (VT.mk ⟨kd, g, x, b, s, la, lc, some ⟨kb, koff, none⟩, kc, keys⟩ kids).val = V10 kd g (lb 0 x) (lb 1 x) (lb 2 x) (lb 3 x) b s la kids.length lc (some ⟨kb, koff, none⟩) kids.length kc := by
              show V10 kd g (lb 0 x) (lb 1 x) (lb 2 x) (lb 3 x) b s la kids.length lc (some ⟨kb, koff, none⟩) keys.length kc = _
              rw [hne']
            rw [e] at k1 k2 ⊢
            simp only [VT.o_mk] at hj hjn
            rw [hne'] at hj hjn
            exact numbers_may_pick kd g x b s la lc kc nb hb0 hb1 name w hT kids.length kb koff key j hj hjn hcell hl4 (by omega) hbit z hz' k1 k2
        · obtain ⟨⟨kd, g, x, b, s, la, lc, ka, kc, keys⟩, kids⟩ := T
          exact numbers_may_ne kd g x b s la lc kc nb hb0 hb1 name w hT kids.length keys.length ka hl4 hk4 (by have h1 : ¬ keys.length = 0 := h0; omega) hne z hz' k1 k2
end Go.Proofs.YtjdogiehcgfmjaaGreatDoor
