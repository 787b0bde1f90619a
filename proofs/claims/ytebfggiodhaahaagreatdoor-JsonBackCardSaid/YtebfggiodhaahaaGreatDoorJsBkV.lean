/-
  What JsonBack writes with blanks, whole; texts of numbers without their last byte; trees that differ in addresses alone are the same.
-/
import Derived.Test.YtebfggiodhaahaaGreatDoorGK3
import Derived.Test.YtebfggiodhaahaaGreatDoorGK5
import Derived.Test.YtebfggiodhaahaaGreatDoorR6Same
namespace Go.Proofs.YtebfggiodhaahaaGreatDoor
open Go.RowKit Go.Shelf Go.Maps Go.Sort
set_option linter.unusedVariables false

/-- What is told behind a text: behind a backslash, inside a text. -/
def stB : Bool → Bool → List UInt8 → Bool × Bool
  | e, n, [] => (e, n)
  | e, n, c :: t => if e = true then stB false n t else if n = true ∧ c = 92 then stB true n t else stB false (if c = 34 then !n else n) t
section
variable {K : Nat → Nat} {i : Nat} {n : Bool} {c : UInt8} {t : List UInt8}
theorem blk_t : blk K i true n (c :: t) = c :: blk K (i + 1) false n t := by rw [blk, if_pos rfl]
theorem blk_b : blk K i false true (92 :: t) = 92 :: blk K (i + 1) true true t := by rw [blk, if_neg (by decide), if_neg (by simp), if_pos ⟨rfl, rfl⟩]
theorem stB_t : stB true n (c :: t) = stB false n t := by rw [stB, if_pos rfl]
theorem stB_b : stB false true (92 :: t) = stB true true t := by rw [stB, if_neg (by decide), if_pos ⟨rfl, rfl⟩]
theorem stB_o (h : ¬ (n = true ∧ c = 92)) : stB false n (c :: t) = stB false (if c = 34 then !n else n) t := by rw [stB, if_neg (by decide), if_neg h]
end
theorem blk_app (K : Nat → Nat) : ∀ (l R : List UInt8) (i : Nat) (e n : Bool), blk K i e n (l ++ R) = blk K i e n l ++ blk K (i + l.length) (stB e n l).1 (stB e n l).2 R := by
  intro l
  induction l with
  | nil => intro R i e n; rfl
  | cons c l ih =>
    intro R i e n
    have hi : i + 1 + l.length = i + (l.length + 1) := by omega
    cases e with
    | true => rw [List.cons_append, blk_t, blk_t, ih, stB_t, List.length_cons, hi, List.cons_append]
    | false =>
      cases n with
      | false =>
        have h9 : ¬ ((false : Bool) = true ∧ c = 92) := fun h => by cases h.1
        by_cases hs : isS c = true
        · have h34 : c ≠ 34 := by rintro rfl; revert hs; decide
          rw [List.cons_append, blk_S hs, blk_S hs, ih, stB_o h9, if_neg h34, List.length_cons, hi]
          simp
        · have hs : isS c = false := by simpa using hs
          by_cases h34 : c = 34
          · subst h34
            rw [List.cons_append, blk_Q, blk_Q, ih, stB_o h9, if_pos rfl, List.length_cons, hi, List.cons_append]
            all_goals rfl
          · rw [List.cons_append, blk_O hs h34, blk_O hs h34, ih, stB_o h9, if_neg h34, List.length_cons, hi, List.cons_append]
      | true =>
        by_cases h92 : c = 92
        · subst h92
          rw [List.cons_append, blk_b, blk_b, ih, stB_b, List.length_cons, hi, List.cons_append]
        · have h9 : ¬ ((true : Bool) = true ∧ c = 92) := fun h => h92 h.2
          by_cases h34 : c = 34
          · subst h34
            rw [List.cons_append, blk_N, blk_N, ih, stB_o h9, if_pos rfl, List.length_cons, hi, List.cons_append]
            all_goals rfl
          · rw [List.cons_append, blk_I h34 h92, blk_I h34 h92, ih, stB_o h9, if_neg h34, List.length_cons, hi, List.cons_append]
theorem ldtr_ne : ∀ k, k < 4 → ldB k ++ 91 :: trB k ≠ [91] := by decide
/-- What is written of a value ends outside its texts. -/
theorem stB_end {K : Nat → Nat} (hK : ∀ i, K i < 4) {T : VT} (h : BOK K T) : stB false false (jencT T) = (false, false) := by
  obtain ⟨B, _, _, _, h1, _⟩ := h 0
  have e0 := h1 []
  rw [List.append_nil] at e0
  have e0 : blk K 0 false false (jencT T) = B := e0.trans (List.append_nil B)
  have e1 := h1 [91]
  rw [blk_app, e0] at e1
  have e2 := List.append_cancel_left e1
  have hk := hK (0 + (jencT T).length)
  rw [blk_S (t := []) (by decide)] at e2
  have e3 : blk K (0 + (jencT T).length) (stB false false (jencT T)).1 (stB false false (jencT T)).2 [91] = ldB (K (0 + (jencT T).length)) ++ 91 :: trB (K (0 + (jencT T).length)) := by
    rw [e2]
    show _ ++ 91 :: (_ ++ []) = _
    rw [List.append_nil]
  have hne := ldtr_ne _ hk
  generalize stB false false (jencT T) = p at e3 ⊢
  obtain ⟨e, n⟩ := p
  cases e with
  | true =>
    simp only at e3
    rw [blk_t] at e3
    exact absurd e3.symm hne
  | false =>
    cases n with
    | true =>
      simp only at e3
      rw [blk_I (by decide) (by decide)] at e3
      exact absurd e3.symm hne
    | false => rfl
theorem blk_len (K : Nat → Nat) : ∀ (l : List UInt8) (i : Nat) (e n : Bool), l.length ≤ (blk K i e n l).length ∧ (blk K i e n l).length ≤ 6 * l.length := by
  intro l
  induction l with
  | nil => intro i e n; exact ⟨Nat.zero_le _, Nat.zero_le _⟩
  | cons c t ih =>
    intro i e n
    have h1 : (ldB (K i)).length ≤ 1 := by unfold ldB; rw [List.length_take]; omega
    have h2 : (trB (K i)).length ≤ 4 := by unfold trB; rw [List.length_drop]; simp only [List.length_cons, List.length_nil]; omega
    rw [blk, List.length_cons]
    by_cases c1 : e = true
    · have := ih (i + 1) false n
      rw [if_pos c1, List.length_cons]
      omega
    by_cases c2 : n = false ∧ isS c = true
    · have := ih (i + 1) false n
      rw [if_neg c1, if_pos c2, List.length_append, List.length_cons, List.length_append]
      omega
    by_cases c3 : n = true ∧ c = 92
    · have := ih (i + 1) true n
      rw [if_neg c1, if_neg c2, if_pos c3, List.length_cons]
      omega
    · have := ih (i + 1) false (if c = 34 then !n else n)
      rw [if_neg c1, if_neg c2, if_neg c3, List.length_cons]
      omega
/-- Where the loop stands: what is written, what is to be written. -/
def BkAt (K : Nat → Nat) (L : List UInt8) (k : Nat) (n : Bool) (S : List UInt8) : Prop := S ++ blk K k false n (L.drop k) = blk K 0 false false L ∧ stB false n (L.drop k) = (false, false)
section
variable {K : Nat → Nat} {L : List UInt8} {k : Nat} {S : List UInt8}
theorem BkAt.size {n : Bool} (h : BkAt K L k n S) : S.length ≤ 6 * L.length := by
  have h1 := congrArg List.length h.1
  have h2 := blk_len K L 0 false false
  rw [List.length_append] at h1
  omega
theorem BkAt.ended {n : Bool} (h : BkAt K L k n S) (hk : L.length ≤ k) : S = blk K 0 false false L := by
  have h1 := h.1
  rw [List.drop_eq_nil_of_le hk] at h1
  exact (List.append_nil S).symm.trans h1
variable {c : UInt8} (hc : L[k]? = some c)
include hc
theorem bk_drop : L.drop k = c :: L.drop (k + 1) := by
  obtain ⟨hlt, e⟩ := List.getElem?_eq_some_iff.1 hc
  rw [List.drop_eq_getElem_cons hlt, e]
theorem BkAt.sgn (h : BkAt K L k false S) (hs : isS c = true) : BkAt K L (k + 1) false (S ++ ldB (K k) ++ [c] ++ trB (K k)) := by
  obtain ⟨h1, h2⟩ := h
  rw [bk_drop hc] at h1 h2
  have h34 : c ≠ 34 := by rintro rfl; revert hs; decide
  rw [blk_S hs] at h1
  rw [stB_o (fun h => by cases h.1), if_neg h34] at h2
  refine ⟨?_, h2⟩
  rw [← h1]
  simp
theorem BkAt.quo {n : Bool} (h : BkAt K L k n S) (hq : c = 34) : BkAt K L (k + 1) (!n) (S ++ [c]) := by
  obtain ⟨h1, h2⟩ := h
  rw [bk_drop hc] at h1 h2
  subst hq
  rw [stB_o (fun h => absurd h.2 (by decide)), if_pos rfl] at h2
  refine ⟨?_, h2⟩
  rw [← h1]
  cases n with
  | true => rw [blk_N, List.append_assoc]; rfl
  | false => rw [blk_Q, List.append_assoc]; rfl
theorem BkAt.out (h : BkAt K L k false S) (hs : isS c = false) (h34 : c ≠ 34) : BkAt K L (k + 1) false (S ++ [c]) := by
  obtain ⟨h1, h2⟩ := h
  rw [bk_drop hc] at h1 h2
  rw [stB_o (fun h => by cases h.1), if_neg h34] at h2
  refine ⟨?_, h2⟩
  rw [← h1, blk_O hs h34, List.append_assoc]
  rfl
theorem BkAt.inn (h : BkAt K L k true S) (h34 : c ≠ 34) (h92 : c ≠ 92) : BkAt K L (k + 1) true (S ++ [c]) := by
  obtain ⟨h1, h2⟩ := h
  rw [bk_drop hc] at h1 h2
  rw [stB_o (fun h => h92 h.2), if_neg h34] at h2
  refine ⟨?_, h2⟩
  rw [← h1, blk_I h34 h92, List.append_assoc]
  rfl
theorem BkAt.esc (h : BkAt K L k true S) (h92 : c = 92) : ∃ d, L[k + 1]? = some d ∧ BkAt K L (k + 2) true (S ++ [c, d]) := by
  obtain ⟨h1, h2⟩ := h
  rw [bk_drop hc] at h1 h2
  subst h92
  rw [stB_b] at h2
  cases hd : L[k + 1]? with
  | none =>
    rw [List.drop_eq_nil_of_le (List.getElem?_eq_none_iff.1 hd)] at h2
    cases h2
  | some d =>
    refine ⟨d, rfl, ?_⟩
    rw [bk_drop hd] at h1 h2
    rw [blk_E] at h1
    rw [stB_t] at h2
    refine ⟨?_, h2⟩
    rw [← h1, List.append_assoc]
    rfl
end
/-- Which blanks. -/
def bK (z : Int) (i : Nat) : Nat := (bits .and .i64 (wrap64 (z + (i : Int))) 3).toNat
theorem and3 (a : Int) : ∃ k : Nat, k < 4 ∧ bits .and .i64 a 3 = (k : Int) := by
  have hlt : (BitVec.ofInt 64 a &&& BitVec.ofInt 64 3).toNat < 4 := by
    rw [BitVec.toNat_and, show (BitVec.ofInt 64 (3 : Int)).toNat = 3 from by decide]
    exact Nat.lt_of_le_of_lt Nat.and_le_right (by decide)
  refine ⟨(BitVec.ofInt 64 a &&& BitVec.ofInt 64 3).toNat, hlt, ?_⟩
  show IntKind.i64.wrap (((BitVec.ofInt 64 a &&& BitVec.ofInt 64 3).toNat : Nat) : Int) = _
  generalize (BitVec.ofInt 64 a &&& BitVec.ofInt 64 3).toNat = n at *
  simp [IntKind.wrap, IntKind.bits, IntKind.signed]
  omega
theorem bK_at (z : Int) (i : Nat) : bK z i < 4 ∧ bits .and .i64 (wrap64 (z + (i : Int))) 3 = (bK z i : Int) := by
  obtain ⟨k, hk, e⟩ := and3 (wrap64 (z + (i : Int)))
  unfold bK
  rw [e, Int.toNat_natCast]
  exact ⟨hk, rfl⟩
theorem ldB_at : ∀ k, k < 4 → (⟨#[32, 9, 10, 13]⟩ : ByteArray).extract k (k + 1) = str (ldB k) := by decide +kernel
theorem trB_at : ∀ k, k < 4 → (⟨#[13, 10, 9, 32]⟩ : ByteArray).extract k 4 = str (trB k) := by decide +kernel
theorem keysEq_same : ∀ a : List ByteArray, keysEq a a = true := by
  intro a
  unfold keysEq
  rw [decide_eq_true rfl, Bool.true_and]
  induction a with
  | nil => rfl
  | cons x a ih => rw [List.zip_cons_cons, List.all_cons, ih]; simp
theorem kidsEq_er {a b : List VT} (h : a.map er = b.map er) (ih : ∀ t ∈ a, ∀ u, er t = er u → sameT t u = true) : kidsEq (a.map fun k => sameT k) b = true := by
  have hl : a.length = b.length := by have := congrArg List.length h; rwa [List.length_map, List.length_map] at this
  unfold kidsEq
  rw [List.length_map, decide_eq_true hl, Bool.true_and, List.zip_map_left, List.all_eq_true]
  intro p hp
  obtain ⟨q, hq, rfl⟩ := List.mem_map.1 hp
  obtain ⟨i, hi⟩ := List.getElem?_of_mem hq
  rw [List.getElem?_zip_eq_some] at hi
  refine ih q.1 (List.mem_of_getElem? hi.1) q.2 ?_
  have h1 : (a.map er)[i]? = some (er q.1) := by rw [List.getElem?_map, hi.1]; rfl
  have h2 : (b.map er)[i]? = some (er q.2) := by rw [List.getElem?_map, hi.2]; rfl
  rw [h, h2] at h1
  injection h1 with h1
  exact h1.symm
theorem sameT_er : ∀ (T U : VT), er T = er U → sameT T U = true := by
  intro T
  induction T using VT.ind with
  | h o l ih =>
    intro U h
    obtain ⟨o', us⟩ := U
    rw [er_mk o' us] at h
    obtain ⟨e1, e2, e3, e4, e5, e6, e7⟩ := er_inj_shape h
    simp only at e1 e2 e3 e4 e5 e6
    have hl : l.length = us.length := by have := congrArg List.length e7; rwa [List.length_map, List.length_map] at this
    rw [sameT]
    simp only [VT.o_mk, VT.kids_mk]
    rw [e1, e2, e3, e4, e5, e6, hl, keysEq_same, kidsEq_er e7 ih]
    simp [eqO, eq5, eq4]
theorem plv_lt {g : Bool} {n : Nat} {p : Int} {y : Nat} (hn : n < 2 ^ 256) (h0 : n ≠ 0) (hp : p < 0) (hpl : -20000 ≤ p) (h : plv g n p = some y) : y < 18446744073709551616 := by
  unfold plv at h
  split at h
  · rename_i hc
    obtain ⟨h5, hx, _⟩ := hc
    injection h with h
    rw [← h]
    clear h
    have hks := five_small hn h0 h5
    have hq : n / 5 ^ (-p).toNat < 2 ^ 256 := Nat.lt_of_le_of_lt (Nat.div_le_self _ _) hn
    have hq0 : n / 5 ^ (-p).toNat ≠ 0 := by
      have h1 : 5 ^ (-p).toNat ≤ n := Nat.le_of_dvd (by omega) h5
      have := Nat.div_pos h1 (Nat.pow_pos (by decide))
      omega
    generalize n / 5 ^ (-p).toNat = q at *
    obtain ⟨d, m, t, hd, e, et, hl, ht, _, hdiv⟩ := exq_parts hq hq0 hx
    have hd0 : d ≠ 0 := by omega
    have hwb : wby g q p = g.toNat * 9223372036854775808 + nr d ((t : Int) + p) := by
      unfold wby
      rw [← et, hdiv]
    have hnr := (nr_spec (d := d) (p := (t : Int) + p) hd0 hl (by omega) (by omega)).1
    have hI : INF = 9218868437227405312 := rfl
    rw [hwb]
    cases g <;> simp only [Bool.toNat_true, Bool.toNat_false] <;> omega
  · cases h
/-- What Parse may answer. -/
theorem dpans_cases (l : List UInt8) : dpans l = ER 8 ∨ dpans l = ER 5 ∨ dpans l = ER 3 ∨ ∃ (k : Int) (g : Bool) (x : Nat) (y : Int), (k = 3 ∨ k = 4) ∧ x < 2 ^ 256 ∧ (0 ≤ y ∧ y ≤ 18446744073709551615) ∧ dpans l = .tuple #[VV k g x y, .int .i64 0] := by
  unfold dpans
  by_cases h400 : 400 < l.length
  · exact Or.inl (if_pos h400)
  rw [if_neg h400]
  cases hr : rd l with
  | none => exact Or.inr (Or.inr (Or.inl rfl))
  | some q =>
    obtain ⟨g, ds, p⟩ := q
    obtain ⟨b1, b2, b3, b4⟩ := rd_bounds (by omega) hr
    simp only
    by_cases h0 : ds = []
    · rw [if_pos h0]
      exact Or.inr (Or.inr (Or.inr ⟨3, false, 0, 0, Or.inl rfl, by decide, by omega, rfl⟩))
    rw [if_neg h0]
    cases hn : parseN (str ds) with
    | none => exact Or.inr (Or.inl rfl)
    | some n =>
      have hb := parseN_below (str ds)
      rw [hn] at hb
      have hb : n < 2 ^ 256 := hb
      have hne : n ≠ 0 := by
        cases hds : ds with
        | nil => exact absurd hds h0
        | cons c t => rw [hds] at hn; exact parseN_pos (b3 c t hds) hn
      simp only
      unfold dpv
      by_cases hp : 0 ≤ p
      · rw [if_pos hp]
        by_cases hv : n * 10 ^ p.toNat < 2 ^ 256
        · rw [if_pos hv]
          exact Or.inr (Or.inr (Or.inr ⟨3, g, _, 0, Or.inl rfl, hv, by omega, rfl⟩))
        · rw [if_neg hv]
          exact Or.inr (Or.inl rfl)
      · rw [if_neg hp]
        cases hpl : plv g n p with
        | none => exact Or.inr (Or.inl rfl)
        | some y =>
          have := plv_lt hb hne (by omega) (by omega) hpl
          exact Or.inr (Or.inr (Or.inr ⟨4, false, 0, (y : Nat), Or.inr rfl, by decide, by omega, rfl⟩))
theorem vf_bad (w0 : World) (b : Nat) (hb0 : w0.heap.size ≤ b) (hT0 : Tb w0) (l : List UInt8) (hl : l.length ≤ 65536) (hs : jskip l = l) (hno : ∀ P ∈ pres6, Lib.hasPrefix l P = false) (hz : dpans (l.take (nsz l)) = ER 3) : VF w0 b l := by
  intro lg un W hB hJ
  refine (rv_num l l (by omega) hs b lg un W hJ hno (fun o kids ok X Y => ok = false) (fun W3 _ hB3 hJ3 => ?_)).mono ?_
  · refine (rnum_bad l (by omega) b lg un W3 hJ3 (tb_on hT0 (below_but hb0 hB hB3)) hz).mono ?_
    rintro e w' ⟨he, hj, hb⟩
    exact ⟨⟨1, false, 0, 0, ⟨#[]⟩, none, 0, none, 0, []⟩, [], false, by rw [he]; rfl, rfl, ⟨_, _, _, hj⟩, hb⟩
  · rintro e w' ⟨o, kids, ok, W3, X, s, lg2, un2, he, hok, hB1, hB2, hX, hw', hb, hlt, hS⟩
    subst hok
    exact ⟨o, kids, _, _, _, he, hw', hb⟩
/-- Some answer, with the error E such as P says. -/
def DSome (P : Int → Prop) (w : World) (e : Ending) (w' : World) : Prop := ∃ (kd1 : Int) (bg1 : Bool) (y1 p1a p1b p1c bi1 : Int) (s1 : ByteArray) (la1 : Option Addr) (n1 lc1 : Nat) (ka1 : Option Addr) (m1 kc1 : Nat) (E : Int), e = .returned (.tuple #[V10 kd1 bg1 y1 p1a p1b p1c bi1 s1 la1 n1 lc1 ka1 m1 kc1, .int .i64 E]) ∧ P E ∧ Below w.heap.size w w'
theorem dsome_of {P : Int → Prop} {w w' : World} {e : Ending} {E : Int} (hP : P E) (h : e = .returned (.tuple #[V10 0 false 0 0 0 0 0 ⟨#[]⟩ none 0 0 none 0 0, .int .i64 E]) ∧ Below w.heap.size w w') : DSome P w e w' := ⟨_, _, _, _, _, _, _, _, _, _, _, _, _, _, E, h.1, hP, h.2⟩
/-- Decode of what begins as a number, or of nothing: some answer. -/
theorem jdec_num (l : List UInt8) (hl : l.length ≤ 65536) (gg off cap N : Nat) (hN : l.length = N) (w : World) (hb : BytesAt w gg off l) (hT : Tb w) (h : l = [] ∨ ∃ c t, l = c :: t ∧ numc c = true) :
    Calls Tryz.prog 6 #[.slice (some ⟨gg, off, none⟩) N cap] w fun e w' => DSome (fun _ => True) w e w' := by
  rcases h with rfl | ⟨c, t, rfl, hc⟩
  · exact (jdec_vf [] hl gg off cap N hN w hb (fun b hb0 => vf_nil w b hb0 hT)).mono (fun e w' h => dsome_of trivial h)
  have hs : jskip (c :: t) = c :: t := skip_no (by rintro (rfl | rfl | rfl | rfl) <;> exact absurd hc (by decide))
  have hnull : ∀ m, (lf 1 false 0 0 ⟨#[]⟩).nodes ≤ m + 1 := fun m => by rw [lf_nodes]; omega
  have hnd : ∀ k g x y s, (lf k g x y s).nodes ≤ 10000 := fun k g x y s => by rw [lf_nodes]; omega
  have hsm : ∀ k g x y, (lf k g x y ⟨#[]⟩).Every SmallO := fun k g x y => lf_small _ _ _ _ _ (by decide)
  rcases dpans_cases ((c :: t).take (nsz (c :: t))) with h8 | h5 | h3 | ⟨k, g, x, y, hk, hx, hy, hd⟩
  · have hv := JV.lng hs hc h8
    by_cases hr : jskip ((c :: t).drop (nsz (c :: t))) = []
    · exact (jdec_long (c :: t) hl gg off cap N hN w hb hT _ _ hr (hnd _ _ _ _ _) (hsm _ _ _ _) false hv null_may7).mono (fun e w' h => dsome_of trivial h)
    · exact (jdecX_behind (c :: t) hl gg off cap N hN w hb hT _ _ _ _ (.leaf hv) hr).mono (fun e w' h => dsome_of trivial h)
  · have hv := JV.unr hs hc h5
    by_cases hr : jskip ((c :: t).drop (nsz (c :: t))) = []
    · refine (jdec_unr (c :: t) hl gg off cap N hN w hb (lf 1 false 0 0 ⟨#[]⟩) (fun W b hB hbb hW => ?_) (fun o kids W hB hI hE => ?_)).mono (fun e w' h => dsome_of trivial h)
      · have := rdoc_jv w b hbb hT (c :: t) _ _ _ _ (by omega) hv hr false false W hB hW
        rw [Bool.false_or, Bool.false_or] at this
        exact this
      · have h1 := vmay (.mk o kids) (by rw [← er_nodes, hE]; exact hnd _ _ _ _ _) W ⟨hI, tb_on hT hB, er_small (by rw [hE]; exact hsm _ _ _ _)⟩
        rw [← er_may, hE, null_may7] at h1
        exact h1
    · exact (jdecX_behind (c :: t) hl gg off cap N hN w hb hT _ _ _ _ (.leaf hv) hr).mono (fun e w' h => dsome_of trivial h)
  · exact (jdec_vf (c :: t) hl gg off cap N hN w hb (fun b hb0 => vf_bad w b hb0 hT (c :: t) hl hs (fun P hP => by
      unfold pres6 at hP
      simp only [List.mem_cons, List.not_mem_nil, or_false] at hP
      rcases hP with rfl | rfl | rfl | rfl | rfl | rfl <;> exact pre_no (numc_ne hc _ (by decide))) h3)).mono (fun e w' h => dsome_of trivial h)
  · have hv := JV.num hs hc hk hx hy hd
    by_cases hr : jskip ((c :: t).drop (nsz (c :: t))) = []
    · by_cases hm : mayN (lf k g x y ⟨#[]⟩) = 0
      · refine (jdecX_good (c :: t) hl gg off cap N hN w hb hT _ _ hr (hnd _ _ _ _ _) (hsm _ _ _ _) (.leaf hv) hm).mono ?_
        rintro e w' ⟨o, kids, he, _, _, _, hb⟩
        exact ⟨_, _, _, _, _, _, _, _, _, _, _, _, _, _, 0, he, trivial, hb⟩
      · exact (jdecX_over (c :: t) hl gg off cap N hN w hb hT _ _ hr (hnd _ _ _ _ _) (hsm _ _ _ _) _ _ (.leaf hv) _ hm rfl).mono (fun e w' h => dsome_of trivial h)
    · exact (jdecX_behind (c :: t) hl gg off cap N hN w hb hT _ _ _ _ (.leaf hv) hr).mono (fun e w' h => dsome_of trivial h)
theorem numc_of {c : UInt8} (hc : c = 45 ∨ dfig c = true) : numc c = true := by
  unfold numc
  rcases hc with rfl | hc
  · rfl
  · unfold dfig at hc
    rw [hc, Bool.or_true]
theorem cut_num {L : List UInt8} {c : UInt8} {t : List UInt8} (h : L = c :: t) (hc : c = 45 ∨ dfig c = true) : L.dropLast = [] ∨ ∃ c t, L.dropLast = c :: t ∧ numc c = true := by
  subst h
  cases t with
  | nil => exact Or.inl rfl
  | cons d t => exact Or.inr ⟨c, (d :: t).dropLast, rfl, numc_of hc⟩
/-- Encode of what may be written: what stands in memory, and how much may. -/
theorem jenc_cap (T : VT) (hn : T.nodes ≤ 10000) (w : World) (hQ : Qv T w) (hT : Tabs w) (h0 : mayN T = 0) (hj : hasT notJsonT T = false) (h1 : (jencT T).length ≤ 65536) :
    Calls Tryz.prog 10 #[T.val] w fun e w' => ∃ g cap, e = .returned (.tuple #[.slice (some ⟨g, 0, none⟩) (jencT T).length cap, .int .i64 0]) ∧ BytesAt w' g 0 (jencT T) ∧ (jencT T).length ≤ cap ∧ cap ≤ 9223372036854775807 ∧ Below w.heap.size w w' := by
  have k1 := fun W (hb : Below w.heap.size w W) => vmay T hn W (hQ.keep hb)
  have k2 := fun W (hb : Below w.heap.size w W) => vin T hn 1 W (hQ.keep hb)
  obtain ⟨hG, hd⟩ := gd_of hQ.ins h0
  rw [h0] at k1
  have hin : inB T 1 = !hasT notJsonT T := by unfold inB; rw [if_pos h0, if_pos rfl]
  rw [hin, hj] at k2
  have av := jvs_any T w hQ.ins hT hG hj hd
  have k3 := fun W (hb : Below w.heap.size w W) => av W hb w.heap.size (.slice none 0 0) [] (Nat.le_refl _) hb.size (Bo.nil _ _) (by rw [List.length_nil]; omega)
  refine (jenc_ok _ _ _ _ _ _ _ _ _ _ _ _ _ _ w k1 k2 (jencT T) (jencT_pos T) h1 (fun W hb => (k3 W hb).mono ?_)).mono ?_
  · rintro e w' ⟨v', r, rfl, hB, hO, hL⟩
    rw [hL.told.1 h1] at hB
    exact ⟨v', rfl, hB, hO⟩
  · rintro e w' ⟨v', rfl, hB, hb⟩
    obtain ⟨g, cap, rfl, hg, c1, c2, c3, hc⟩ := hB.some (jencT_pos T)
    exact ⟨g, cap, rfl, fun i b hi => by rw [Nat.zero_add]; exact hc i b hi, c2, by unfold maxLen at c3; omega, hb⟩
end Go.Proofs.YtebfggiodhaahaaGreatDoor
