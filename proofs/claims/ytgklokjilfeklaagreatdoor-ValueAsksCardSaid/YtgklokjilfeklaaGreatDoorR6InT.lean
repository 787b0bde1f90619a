/-
  entrepotref6.Inside, In: for every value; they are what value.In is.
-/
import Derived.Test.YtgklokjilfeklaaGreatDoorR6In
namespace Go.Proofs.YtgklokjilfeklaaGreatDoor
open Go.RowKit Go.Shelf

/-- Is a value by itself inside a language? -/
def insB (lang : Int) (o : Own) (be ar : Bool) : Bool :=
  if lang = 1 then !(decide (o.kind = 6) || (decide (o.kind = 4) && (((cls o.bits.toNat : Nat) : Int) != 1)))
  else if lang = 3 then !(decide (o.kind = 1) || ((!be && decide (o.kind ≠ 8)) || (ar && decide (o.kind = 7)))) && !(decide (o.kind = 3) && !protoB o.g o.x)
  else true
def insideT (lang : Int) : VT → Bool → Bool → Bool
  | .mk o l, be, ar => insB lang o be ar && (l.map fun k => insideT lang k true (o.kind == 7)).all id
theorem insideT_mk (lang : Int) (o : Own) (l : List VT) (be ar : Bool) : insideT lang (.mk o l) be ar = (insB lang o be ar && l.all fun k => insideT lang k true (o.kind == 7)) := by
  rw [insideT, List.all_map]; rfl
theorem ok_of_right {o : Own} {l : List VT} (h : hasT wrongT (.mk o l) = false) (h3 : o.kind = 3) : okI o.g o.x = true := by
  have h1 := (hasT_false h).1
  have h2 : ownB o l.length = true := by
    have : (!ownB o l.length) = false := h1
    simpa using this
  unfold ownB at h2
  rw [Bool.and_eq_true] at h2
  have h4 := h2.2
  unfold restB at h4
  rw [if_neg (by omega), if_neg (by omega), if_pos h3] at h4
  exact h4
/-- Inside, of what is right. -/
theorem inside_any (lang : Int) (hl : lang = 1 ∨ lang = 2 ∨ lang = 3) : ∀ (T : VT), hasT wrongT T = false → ∀ (be ar : Bool) (w : World), Qv T w →
    Calls Tryz.prog 44 #[T.val, .int .i64 lang, .bool be, .bool ar] w fun e w' => e = .returned (.bool (insideT lang T be ar)) ∧ Below w.heap.size w w' := by
  intro T
  induction T using VT.ind with
  | h o kids ih =>
    intro hR be ar w hQ
    obtain ⟨bb, off, hK⟩ := hQ.ins.kids'
    obtain ⟨_, hx, ⟨hb0, hb1⟩, _, _⟩ := hQ.ins.wf
    have hok := fun h => ok_of_right hR h
    have hq : ∀ t ∈ kids, Qv t w := fun t ht => hQ.kid t ht
    obtain ⟨a, ha⟩ : ∃ a, (o.kind == 7) = a := ⟨_, rfl⟩
    have ih' : ∀ t ∈ kids, ∀ W, Qv t W → Calls Tryz.prog 44 #[t.val, .int .i64 lang, .bool true, .bool a] W fun e w' => e = .returned (.bool (insideT lang t true a)) ∧ Below W.heap.size W w' := fun t ht W hW => ih t ht ((hasT_false hR).2 t ht) true a W hW
    rw [insideT_mk, ha, val_eq]
    obtain ⟨kd, g, x, b, s, la, lc, ka, kc, ks⟩ := o
    simp only [VT.o_mk] at hx hb0 hb1 hok ha ⊢
    have hcl : ∀ W, Calls Tryz.prog 97 #[.int .u64 b] W fun e w' => e = .returned (.int .i64 (cls b.toNat : Nat)) ∧ Below W.heap.size W w' := fun W => by
      have e : b = ((b.toNat : Nat) : Int) := by omega
      have := rclass b.toNat (by omega) W
      rw [← e] at this
      exact this
    have fin : ∀ {q r : Bool} {P : Prop} {e : Ending}, e = .returned (.bool q) ∧ P → q = r → e = .returned (.bool r) ∧ P := fun h1 h2 => ⟨h1.1.trans (ret_bool h2), h1.2⟩
    rcases hl with rfl | rfl | rfl
    · by_cases h6 : kd = 6
      · subst h6
        exact (inside_j6 _ _ _ _ _ _ _ _ _ _ _ _ kids w be ar).mono fun e w' h => fin h (by simp [insB])
      by_cases h4 : kd = 4
      · subst h4
        obtain rfl : false = a := ha
        cases hc : (((cls b.toNat : Nat) : Int) != 1) with
        | true => exact (inside_j4 _ _ _ _ _ _ _ _ _ _ _ _ kids w be ar _ hc (fun W _ => hcl W)).mono fun e w' h => fin h (by simp only [insB, hc]; simp)
        | false => exact (inside_j4g _ _ _ _ _ _ _ _ _ _ _ _ kids bb off w _ hK hq be ar _ hc (fun W _ => hcl W) ih').mono fun e w' h => fin h (by simp only [insB, hc]; simp)
      · exact (inside_jg _ _ _ _ _ _ _ _ _ _ _ _ kids bb off w _ hK hq be ar kd (beq_eq_false_iff_ne.2 h4) (beq_eq_false_iff_ne.2 h6) a ha ih').mono fun e w' h => fin h (by simp [insB, h4, h6])
    · exact (inside_cg _ _ _ _ _ _ _ _ _ _ _ _ kids bb off w _ hK hq be ar kd a ha ih').mono fun e w' h => fin h (by simp [insB])
    · by_cases h1 : kd = 1
      · subst h1
        exact (inside_p1 _ _ _ _ _ _ _ _ _ _ _ _ kids w be ar).mono fun e w' h => fin h (by simp [insB])
      by_cases h8 : kd = 8
      · subst h8
        obtain rfl : false = a := ha
        exact (inside_p8 _ _ _ _ _ _ _ _ _ _ _ _ kids bb off w _ hK hq be ar ih').mono fun e w' h => fin h (by simp [insB])
      cases be with
      | false => exact (inside_ptop _ _ _ _ _ _ _ _ _ _ _ _ kids w ar kd (beq_eq_false_iff_ne.2 h1) (bne_iff_ne.2 h8)).mono fun e w' h => fin h (by simp [insB, h8])
      | true =>
        by_cases h7 : kd = 7
        · subst h7
          obtain rfl : true = a := ha
          cases ar with
          | true => exact (inside_parr _ _ _ _ _ _ _ _ _ _ _ _ kids w).mono fun e w' h => fin h (by simp [insB])
          | false => exact (inside_p7 _ _ _ _ _ _ _ _ _ _ _ _ kids bb off w _ hK hq ih').mono fun e w' h => fin h (by simp [insB])
        by_cases h3 : kd = 3
        · subst h3
          obtain rfl : false = a := ha
          have hg := okI_iff g x hx (hok rfl)
          have k1 := fun W (_ : Below w.heap.size w W) => range64_any g x hx hg W
          have k2 := fun W (_ : Below w.heap.size w W) => rexq g x hx hg W
          have hp := proto_range g x hg
          cases hr : rangeB g x with
          | true =>
            rw [hr] at k1
            exact (inside_p3r _ _ _ _ _ _ _ _ _ _ _ _ kids bb off w _ hK hq ar k1 ih').mono fun e w' h => fin h (by simp [insB, hp, hr])
          | false =>
            rw [hr] at k1
            cases hxx : exq x with
            | true =>
              rw [hxx] at k2
              exact (inside_p3x _ _ _ _ _ _ _ _ _ _ _ _ kids bb off w _ hK hq ar k1 k2 ih').mono fun e w' h => fin h (by simp [insB, hp, hxx])
            | false =>
              rw [hxx] at k2
              exact (inside_p3 _ _ _ _ _ _ _ _ _ _ _ _ kids w ar k1 k2).mono fun e w' h => fin h (by simp [insB, hp, hr, hxx])
        obtain rfl : false = a := by rw [← ha]; exact (beq_eq_false_iff_ne.2 h7).symm
        exact (inside_pg _ _ _ _ _ _ _ _ _ _ _ _ kids bb off w _ hK hq ar kd (beq_eq_false_iff_ne.2 h1) (beq_eq_false_iff_ne.2 h3) (beq_eq_false_iff_ne.2 h7) ih').mono fun e w' h => fin h (by simp [insB, h1, h3, h7])

theorem inside_json : ∀ (T : VT) (be ar : Bool), insideT 1 T be ar = !hasT notJsonT T := by
  intro T
  induction T using VT.ind with
  | h o kids ih =>
    intro be ar
    rw [insideT_mk, hasT_mk]
    have e1 : insB 1 o be ar = !notJsonT (.mk o kids) := rfl
    have e2 : (kids.all fun k => insideT 1 k true (o.kind == 7)) = !kids.any (hasT notJsonT) := by
      rw [Bool.eq_iff_iff]
      simp only [List.all_eq_true, Bool.not_eq_true', List.any_eq_false]
      exact ⟨fun h t ht => by have := h t ht; rw [ih t ht] at this; simpa using this, fun h t ht => by rw [ih t ht]; have := h t ht; simpa using this⟩
    rw [e1, e2, VT.kids_mk]
    cases notJsonT (.mk o kids) <;> simp
theorem inside_cbor : ∀ (T : VT) (be ar : Bool), insideT 2 T be ar = true := by
  intro T
  induction T using VT.ind with
  | h o kids ih =>
    intro be ar
    rw [insideT_mk, show insB 2 o be ar = true from rfl, Bool.true_and, List.all_eq_true]
    exact fun t ht => ih t ht _ _
theorem inside_proto : ∀ (T : VT) (ar : Bool), insideT 3 T true ar = (!(ar && decide (T.o.kind = 7)) && !hasT notProtoT T) := by
  intro T
  induction T using VT.ind with
  | h o kids ih =>
    intro ar
    rw [insideT_mk, hasT_mk]
    have e2 : (kids.all fun k => insideT 3 k true (o.kind == 7)) = (!((o.kind == 7) && kids.any fun t => t.o.kind == 7) && !kids.any (hasT notProtoT)) := by
      rw [Bool.eq_iff_iff]
      simp only [List.all_eq_true, Bool.and_eq_true, Bool.not_eq_true', List.any_eq_false, Bool.and_eq_false_iff]
      constructor
      · intro h
        refine ⟨?_, fun t ht => by have := h t ht; rw [ih t ht] at this; simp at this; simp [this.2]⟩
        by_cases h7 : o.kind = 7
        · right
          intro t ht
          have := h t ht
          rw [ih t ht, h7] at this
          simp at this
          simpa using this.1
        · left; exact beq_eq_false_iff_ne.2 h7
      · rintro ⟨h1, h2⟩ t ht
        rw [ih t ht]
        have := h2 t ht
        rcases h1 with h1 | h1
        · rw [h1]; simpa using this
        · have h3 := h1 t ht
          have h4 : decide (t.o.kind = 7) = false := by simpa using h3
          rw [h4, Bool.and_false]
          simpa using this
    rw [e2, VT.kids_mk, VT.o_mk]
    by_cases h1 : o.kind = 1
    · simp [insB, notProtoT, h1]
    by_cases h3 : o.kind = 3
    · simp [insB, notProtoT, h3]
    by_cases h7 : o.kind = 7
    · cases ar <;> simp [insB, notProtoT, h7]
    · simp [insB, notProtoT, h1, h3, h7]
theorem inside_top (T : VT) : insideT 3 T false false = (decide (T.o.kind = 8) && !hasT notProtoT T) := by
  have h := inside_proto T false
  obtain ⟨o, kids⟩ := T
  rw [insideT_mk] at h ⊢
  by_cases h8 : o.kind = 8
  · have e : insB 3 o false false = insB 3 o true false := by simp [insB, h8]
    rw [e, h]
    simp [h8]
  · have e : insB 3 o false false = false := by simp [insB, h8]
    rw [e]
    simp [h8]

section
variable (kd : Int) (g : Bool) (x0 x1 x2 x3 b : Int) (s : ByteArray) (la : Option Addr) (n lc : Nat) (ka : Option Addr) (m kc : Nat) (lang : Int) (w : World)
theorem rin_out (h : lang < 1 ∨ (¬ lang < 1 ∧ 3 < lang)) : Calls Tryz.prog 14 #[V10 kd g x0 x1 x2 x3 b s la n lc ka m kc, .int .i64 lang] w fun e w' => e = .returned (.bool false) ∧ Below w.heap.size w w' := by
  rcases h with h | ⟨h1, h2⟩
  · go_enter Tryz.func14, Tryz.ntmps14
    go_wp2
    go_ret
    exact ⟨rfl, bal (Below.refl _ _) _⟩
  · go_enter Tryz.func14, Tryz.ntmps14
    go_wp2
    go_ret
    exact ⟨rfl, bal (Below.refl _ _) _⟩
theorem rin_no (h1 : ¬ lang < 1) (h2 : ¬ 3 < lang) (c : Int) (hc : (c == 0) = false)
    (k1 : ∀ W, Below w.heap.size w W → Calls Tryz.prog 16 #[V10 kd g x0 x1 x2 x3 b s la n lc ka m kc] W fun e w' => e = .returned (.int .i64 c) ∧ Below W.heap.size W w') :
    Calls Tryz.prog 14 #[V10 kd g x0 x1 x2 x3 b s la n lc ka m kc, .int .i64 lang] w fun e w' => e = .returned (.bool false) ∧ Below w.heap.size w w' := by
  have K1 := Lib.hid k1; clear k1
  have h3 : lang ≤ 3 := by omega
  have h4 : 1 ≤ lang := by omega
  go_enter Tryz.func14, Tryz.ntmps14
  go_wp2_with (go_at_call 16; ((with_reducible refine (K1.out _ (bal (Below.refl _ _) _)).mono ?_); rintro e w1 ⟨rfl, hb1⟩))
  go_ret
  exact ⟨rfl, btr (bal (Below.refl _ _) _) hb1⟩
theorem rin_yes (h1 : ¬ lang < 1) (h2 : ¬ 3 < lang) (q : Bool)
    (k1 : ∀ W, Below w.heap.size w W → Calls Tryz.prog 16 #[V10 kd g x0 x1 x2 x3 b s la n lc ka m kc] W fun e w' => e = .returned (.int .i64 0) ∧ Below W.heap.size W w')
    (k2 : ∀ W, Below w.heap.size w W → Calls Tryz.prog 44 #[V10 kd g x0 x1 x2 x3 b s la n lc ka m kc, .int .i64 lang, .bool false, .bool false] W fun e w' => e = .returned (.bool q) ∧ Below W.heap.size W w') :
    Calls Tryz.prog 14 #[V10 kd g x0 x1 x2 x3 b s la n lc ka m kc, .int .i64 lang] w fun e w' => e = .returned (.bool q) ∧ Below w.heap.size w w' := by
  have K1 := Lib.hid k1; have K2 := Lib.hid k2; clear k1 k2
  have h3 : lang ≤ 3 := by omega
  have h4 : 1 ≤ lang := by omega
  go_enter Tryz.func14, Tryz.ntmps14
  go_wp2_with fail
  ((with_reducible refine (K1.out _ (bal (Below.refl _ _) _)).mono ?_); rintro e w1 ⟨rfl, hb1⟩)
  have R := Row10.keep hb1 (Row10.new w (.int .i64 kd) (.bool g) (.int .u64 x0) (.int .u64 x1) (.int .u64 x2) (.int .u64 x3) (.int .u64 b) (.string s) (.slice la n lc) (.slice ka m kc))
  have B1 := Lib.hid (btr (bal (Below.refl _ w) _) hb1)
  obtain ⟨p0, p1, p2, p3, p4, p5, p6, p7, p8, p9⟩ := R.parts
  clear hb1 R
  go_wp2_with (go_at_call 44; ((with_reducible refine (K2.out _ B1.out).mono ?_); rintro e w2 ⟨rfl, hb2⟩))
  go_ret
  exact ⟨rfl, btr B1.out hb2⟩
end
/-- entrepotref6.In, of a few: what value.In answers. -/
theorem rin_few (T : VT) (lang : Int) (w : World) (hQ : Qv T w) (hn : T.nodes ≤ 400) (hd : T.depth ≤ 40) (hE : T.Every TinyO) :
    Calls Tryz.prog 14 #[T.val, .int .i64 lang] w fun e w' => e = .returned (.bool (inB T lang)) ∧ Below w.heap.size w w' := by
  have k1 := fun W (hb : Below w.heap.size w W) => r6may_few T W (hQ.keep hb) hn hd hE
  by_cases ho : lang < 1 ∨ (¬ lang < 1 ∧ 3 < lang)
  · have : inB T lang = false := by
      unfold inB
      split
      · rw [if_neg (by omega), if_neg (by omega), if_neg (by omega)]
      · rfl
    rw [this]
    exact rin_out _ _ _ _ _ _ _ _ _ _ _ _ _ _ lang w ho
  have h1 : ¬ lang < 1 := fun h => ho (.inl h)
  have h2 : ¬ 3 < lang := fun h => ho (.inr ⟨h1, h⟩)
  by_cases h0 : mayN T = 0
  · rw [h0] at k1
    have hR : hasT wrongT T = false := by
      unfold mayN at h0
      cases hh : hasT wrongT T with
      | false => rfl
      | true => rw [hh, tiny_over T hE (by omega)] at h0; simp at h0; split at h0 <;> omega
    have k2 := fun W (hb : Below w.heap.size w W) => inside_any lang (by omega) T hR false false W (hQ.keep hb)
    have e : insideT lang T false false = inB T lang := by
      unfold inB
      rw [if_pos h0]
      rcases (show lang = 1 ∨ lang = 2 ∨ lang = 3 by omega) with rfl | rfl | rfl
      · rw [if_pos rfl, inside_json]
      · rw [if_neg (by decide), if_pos rfl, inside_cbor]
      · rw [if_neg (by decide), if_neg (by decide), if_pos rfl, inside_top]
    rw [e] at k2
    exact rin_yes _ _ _ _ _ _ _ _ _ _ _ _ _ _ lang w h1 h2 _ k1 k2
  · have : inB T lang = false := by unfold inB; rw [if_neg h0]
    rw [this]
    exact rin_no _ _ _ _ _ _ _ _ _ _ _ _ _ _ lang w h1 h2 _ (beq_eq_false_iff_ne.2 h0) k1
end Go.Proofs.YtgklokjilfeklaaGreatDoor
