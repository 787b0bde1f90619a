/-
  entrepotlaw9.SpanHas: its walk.
-/
import Derived.Test.YtajhfihkgekffaaDoorSZ
namespace Go.Proofs.YtajhfihkgekffaaDoor
open Go.RowKit Go.Shelf
open Go.Sort (grow)
attribute [local go_sem ↓] eql_nat neq_nat eql_int5 neq_int5

theorem few_any (la : Option Addr) (n lca : Nat) (la2 : Option Addr) (m lcb : Nat) (w : World) : Calls Tryd.prog 6 #[.slice la n lca, .slice la2 m lcb] w fun e w' => e = .returned (.bool (decide (n ≤ 12) && decide (m ≤ 12))) ∧ w = w' := by
  by_cases h1 : n ≤ 12 <;> by_cases h2 : m ≤ 12
  all_goals
    have HD1 := Lib.hid h1; have HD2 := Lib.hid h2
    have e1 : (n : Int) ≤ 12 ∨ ¬ (n : Int) ≤ 12 := by omega
    have e2 : (m : Int) ≤ 12 ∨ ¬ (m : Int) ≤ 12 := by omega
    go_enter Tryd.func6, Tryd.ntmps6
    rcases e1 with e1 | e1 <;> rcases e2 with e2 | e2 <;> first | (exfalso; have a1 := HD1.out; have a2 := HD2.out; omega) | (go_wp2; go_ret; exact ⟨ret_bool9 (by simp [HD1.out, HD2.out]), rfl⟩)
theorem in9_of {w : World} {la : Option Addr} {lc : Nat} {l : List RS} {bb off : Nat} (hK : Ls w la l bb off) (h1 : l.length ≤ lc) (h2 : lc ≤ maxLen) (hx : ∀ r ∈ l, r.xl < 2 ^ 256 ∧ r.xh < 2 ^ 256) (hm : mayL l = true) : ∃ A : List Sp, l = A.map rsp ∧ In9 w (.slice la l.length lc) A := by
  unfold mayL at hm
  rw [Bool.and_eq_true] at hm
  obtain ⟨A, rfl, hR⟩ := rsp_list hx hm.2
  have h0 := of_decide_eq_true hm.1
  rw [List.length_map] at *
  exact ⟨A, rfl, la, lc, bb, off, rfl, hK, h1, h2, hR, h0⟩

/-- A number as it lies, whatever it is. -/
abbrev RI := Bool × Nat
def ciI (r : RI) : List Value := [.bool r.1, .int .u64 (lb 0 r.2), .int .u64 (lb 1 r.2), .int .u64 (lb 2 r.2), .int .u64 (lb 3 r.2)]
theorem ciI_len (r : RI) : (ciI r).length = 5 := rfl
theorem ciI_one (r : RI) : ∀ u ∈ ciI r, u.oneCell' = true := by
  intro u hu
  simp only [ciI, List.mem_cons, List.not_mem_nil, or_false] at hu
  rcases hu with rfl | rfl | rfl | rfl | rfl <;> rfl
def csI (l : List RI) : List Value := l.flatMap ciI
theorem csI_app (l m : List RI) : csI (l ++ m) = csI l ++ csI m := by unfold csI; rw [List.flatMap_append]
theorem csI_len (l : List RI) : (csI l).length = l.length * 5 := by
  unfold csI
  induction l with
  | nil => rfl
  | cons t l ih => rw [List.flatMap_cons, List.length_append, ih, ciI_len, List.length_cons]; omega
theorem csI_at : ∀ {l : List RI} {k j : Nat} {r : RI} {u : Value}, l[k]? = some r → (ciI r)[j]? = some u → (csI l)[k * 5 + j]? = some u := by
  intro l
  induction l with
  | nil => intro k j r u h; simp at h
  | cons a l ih =>
    intro k j r u h hu
    have hj : j < 5 := by have := (List.getElem?_eq_some_iff.1 hu).1; rwa [ciI_len] at this
    have e : csI (a :: l) = ciI a ++ csI l := by unfold csI; rw [List.flatMap_cons]
    rw [e]
    cases k with
    | zero =>
      simp at h
      subst h
      rw [List.getElem?_append_left (by rw [ciI_len]; omega), show 0 * 5 + j = j by omega]
      exact hu
    | succ k =>
      rw [List.getElem?_append_right (by rw [ciI_len]; omega), ciI_len, show (k + 1) * 5 + j - 5 = k * 5 + j by omega]
      exact ih (by simpa using h) hu
/-- A row of numbers that the call owns, its block from base on. -/
def Bi (W : World) (base : Nat) (v : Value) (l : List RI) : Prop := W.ownsRow base 33 5 v l.length (csI l)
theorem Bi.keep {W W' : World} {base : Nat} {v : Value} {l : List RI} (h : Bi W base v l) (hb : Below W.heap.size W W') : Bi W' base v l := own_keep9 h hb
theorem info_int : (Tryd.prog.info? 33).map (fun i => (i.zero, i.size, i.bytes)) = some (some (.agg #[.bool false, .int .u64 0, .int .u64 0, .int .u64 0, .int .u64 0]), 5, 40) := by kernel_rfl
theorem und_ints : Tryd.prog.underlying 36 = some (.slice 33) := by kernel_rfl
def C5 (w : World) (b p : Nat) (r : RI) : Prop := w.cell? ⟨b, p, none⟩ = some (.bool r.1) ∧ w.cell? ⟨b, p + 1, none⟩ = some (.int .u64 (lb 0 r.2)) ∧ w.cell? ⟨b, p + 2, none⟩ = some (.int .u64 (lb 1 r.2)) ∧ w.cell? ⟨b, p + 3, none⟩ = some (.int .u64 (lb 2 r.2)) ∧ w.cell? ⟨b, p + 4, none⟩ = some (.int .u64 (lb 3 r.2))
theorem Bi.form {W : World} {base : Nat} {v : Value} {l : List RI} (h : Bi W base v l) (hl : 0 < l.length) : ∃ g lc, v = .slice (some ⟨g, 0, none⟩) l.length lc ∧ l.length ≤ lc ∧ base ≤ g ∧ ∀ i r, l[i]? = some r → C5 W g (i * 5) r := by
  have h' := h
  rcases h.2 with ⟨h2, h3⟩ | ⟨g, cap, cur, h3, h4, h5, h6, h7, _⟩
  · omega
  · refine ⟨g, cap, h3, h6, h4, fun i r hi => ?_⟩
    have key : ∀ j u, (ciI r)[j]? = some u → W.cell? ⟨g, i * 5 + j, none⟩ = some u := fun j u hu => by
      have := World.ownsRow.cells h' (g := g) (by rw [h3]; rfl) (i * 5 + j) u (csI_at hi hu)
      rw [addr_add9] at this
      rw [← this]
      congr 2
      omega
    exact ⟨key 0 _ rfl, key 1 _ rfl, key 2 _ rfl, key 3 _ rfl, key 4 _ rfl⟩
theorem Bi.two (W : World) (e : TypeId) (base H : Nat) (r s : RI) (h : W.heap.size = H) (hb : base ≤ H) (he : e = 33) : Bi (W.alloc (.cells #[.bool r.1, .int .u64 (lb 0 r.2), .int .u64 (lb 1 r.2), .int .u64 (lb 2 r.2), .int .u64 (lb 3 r.2), .bool s.1, .int .u64 (lb 0 s.2), .int .u64 (lb 1 s.2), .int .u64 (lb 2 s.2), .int .u64 (lb 3 s.2)] e)) base (.slice (some ⟨H, 0, none⟩) 2 2) [r, s] := by
  subst h he
  exact ⟨rfl, .inr ⟨W.heap.size, 2, _, rfl, hb, heap_alloc_new W _, Nat.le_refl _, by unfold maxLen; omega, rfl, rfl⟩⟩
/-- The two ends of a span, as numbers that are asked. -/
def endsI (s : Sp) : List RI := [(decide (s.1.getD 0 < 0), (s.1.getD 0).natAbs), (decide (s.2.getD 0 < 0), (s.2.getD 0).natAbs)]
theorem Bi.app {W : World} {base n : Nat} {v : Value} {l : List RI} {m : List RI} {cs : List Value} (h : W.ownsRow base 33 5 v n (csI l ++ cs)) (hn : n = l.length + m.length) (hc : cs = csI m) : Bi W base v (l ++ m) := by
  subst hc
  unfold Bi
  rw [List.length_append, ← hn, csI_app]
  exact h
/-- What the first loop has collected. -/
def Col (W : World) (base : Nat) (v : Value) (l : List RI) (n : Nat) : Prop := Bi W base v l ∧ 0 < l.length ∧ l.length ≤ n ∧ ∀ r ∈ l, r.2 < 2 ^ 256
theorem Col.keep {W W' : World} {base n : Nat} {v : Value} {l : List RI} (h : Col W base v l n) (hb : Below W.heap.size W W') : Col W' base v l n := ⟨h.1.keep hb, h.2⟩
def TEN (w : World) (b p : Nat) (g1 : Bool) (x1 : Nat) (g2 : Bool) (x2 : Nat) : Prop := w.cell? ⟨b, p + 2, none⟩ = some (.bool g1) ∧ w.cell? ⟨b, p + 3, none⟩ = some (.int .u64 (lb 0 x1)) ∧ w.cell? ⟨b, p + 4, none⟩ = some (.int .u64 (lb 1 x1)) ∧ w.cell? ⟨b, p + 5, none⟩ = some (.int .u64 (lb 2 x1)) ∧ w.cell? ⟨b, p + 6, none⟩ = some (.int .u64 (lb 3 x1)) ∧ w.cell? ⟨b, p + 7, none⟩ = some (.bool g2) ∧ w.cell? ⟨b, p + 8, none⟩ = some (.int .u64 (lb 0 x2)) ∧ w.cell? ⟨b, p + 9, none⟩ = some (.int .u64 (lb 1 x2)) ∧ w.cell? ⟨b, p + 10, none⟩ = some (.int .u64 (lb 2 x2)) ∧ w.cell? ⟨b, p + 11, none⟩ = some (.int .u64 (lb 3 x2))
theorem C12.ten {w : World} {b p : Nat} {hl hh gl : Bool} {xl : Nat} {gh : Bool} {xh : Nat} (h : C12 w b p ⟨hl, hh, gl, xl, gh, xh⟩) : TEN w b p gl xl gh xh := h.twelve.2.2
theorem C5.keep {W W' : World} {b p : Nat} {r : RI} (h : C5 W b p r) (hb : Below W.heap.size W W') : C5 W' b p r := ⟨cell_keep9 hb h.1, cell_keep9 hb h.2.1, cell_keep9 hb h.2.2.1, cell_keep9 hb h.2.2.2.1, cell_keep9 hb h.2.2.2.2⟩
theorem col_two {W W' : World} {base k : Nat} {v v' : Value} {l : List RI} {a b : RI} (h : Col W base v l (2 + 3 * k)) (hO : W'.ownsRow base 33 5 v' (l.length + 2) (csI l ++ csI [a, b])) (ha : a.2 < 2 ^ 256) (hb : b.2 < 2 ^ 256) : Col W' base v' (l ++ [a, b]) (2 + 3 * (k + 1)) := by
  refine ⟨Bi.app hO rfl rfl, by simp, by have := h.2.2.1; simp; omega, fun r hr => ?_⟩
  rcases List.mem_append.1 hr with hr | hr
  · exact h.2.2.2 r hr
  · simp at hr
    rcases hr with rfl | rfl
    · exact ha
    · exact hb
theorem col_three {W W' : World} {base k : Nat} {v v' : Value} {l : List RI} {a b c : RI} (h : Col W base v l (2 + 3 * k)) (hO : W'.ownsRow base 33 5 v' (l.length + 2 + 1) ((csI l ++ csI [a, b]) ++ csI [c])) (ha : a.2 < 2 ^ 256) (hb : b.2 < 2 ^ 256) (hc : c.2 < 2 ^ 256) : Col W' base v' (l ++ [a, b, c]) (2 + 3 * (k + 1)) := by
  refine ⟨Bi.app (m := [a, b, c]) (cs := csI [a, b] ++ csI [c]) (by rw [← List.append_assoc]; exact hO) rfl (by rw [← csI_app]; rfl), by simp, by have := h.2.2.1; simp; omega, fun r hr => ?_⟩
  rcases List.mem_append.1 hr with hr | hr
  · exact h.2.2.2 r hr
  · simp at hr
    rcases hr with rfl | rfl | rfl
    · exact ha
    · exact hb
    · exact hc
theorem all_mem {A : List Sp} (x : Int) (h1 : -topM ≤ x) (h2 : x ≤ topM) : (memS A x || !memS A x) = memS [(none, none)] x := by
  rw [memS_cons, show loE (none, none) = -topM from rfl, show hiE (none, none) = topM from rfl, decide_eq_true h1, decide_eq_true h2]
  cases memS A x <;> rfl

theorem good_z {g : Bool} {x : Nat} (h : ¬ (g = true ∧ x = 0)) : ∃ z : Int, I5 g x = Iz z ∧ z.natAbs = x := by
  rcases int_or g x with h1 | h1
  · exact h1
  · exact absurd h1 h

set_option maxRecDepth 400000 in
set_option maxHeartbeats 16000000 in
theorem has_main (la : Option Addr) (lca : Nat) (A : List Sp) (la2 : Option Addr) (lcb : Nat) (B : List Sp) (g : Bool) (x : Nat) (hx : x < 2 ^ 256) (w0 : World) (hT : Tb w0) (hA : In9 w0 (.slice la A.length lca) A) (hB : In9 w0 (.slice la2 B.length lcb) B) (a12 : A.length ≤ 12) (b12 : B.length ≤ 12) :
    Calls Tryd.prog 4 #[.slice la A.length lca, .slice la2 B.length lcb, .agg #[.bool g, .int .u64 (lb 0 x), .int .u64 (lb 1 x), .int .u64 (lb 2 x), .int .u64 (lb 3 x)]] w0 fun e w' => e = .returned (.bool true) ∧ Below w0.heap.size w0 w' := by
  obtain ⟨i0, hi0, hz0, hz1, hz2⟩ := info9 info_int
  have HT := Lib.hid hT; have JA := Lib.hid hA; have IA := Lib.hid (IS.of hA); have IB := Lib.hid (IS.of hB); have KM := Lib.hid (rmay_in hA); have KN := Lib.hid (rmay_in hB)
  have HX := Lib.hid hx
  have hfew := fun W => few_any la A.length lca la2 B.length lcb W
  rw [decide_eq_true a12, decide_eq_true b12] at hfew
  have HFW := Lib.hid hfew
  obtain ⟨la1, lc1, ba, offa, ev, hlA, _, _, hR, _⟩ := hA
  obtain ⟨rfl, rfl⟩ : la = la1 ∧ lca = lc1 := by injection ev; exact ⟨by assumption, by assumption⟩
  have HLA := Lib.hid hlA; have HR := Lib.hid hR
  clear hT hB hfew hlA hR hx ev
  go_enter Tryd.func4, Tryd.ntmps4
  go_wp2_with fail
  ((with_reducible refine (HFW.out _).mono ?_); rintro e w1 ⟨rfl, rfl⟩)
  go_wp2_with fail
  ((with_reducible refine (KM.out _ (bal (Below.refl _ _) _)).mono ?_); rintro e w1 ⟨rfl, hb⟩)
  have X1 := Row5.keep hb (Row5.new w0 (.bool g) (.int .u64 (lb 0 x)) (.int .u64 (lb 1 x)) (.int .u64 (lb 2 x)) (.int .u64 (lb 3 x)))
  have B1 := Lib.hid (btr (bal (Below.refl w0.heap.size w0) _) hb)
  clear hb
  go_wp2_with fail
  ((with_reducible refine (KN.out _ B1.out).mono ?_); rintro e w2 ⟨rfl, hb⟩)
  have X2 := Row5.keep hb X1
  have B2 := Lib.hid (btr B1.out hb)
  clear hb X1
  obtain ⟨p0, p1, p2, p3, p4⟩ := X2.parts
  go_wp2
  have hsz2 : w0.heap.size ≤ w2.heap.size := B2.out.size
  have hCol : Col (w2.alloc (.cells #[.bool g, .int .u64 (lb 0 x), .int .u64 (lb 1 x), .int .u64 (lb 2 x), .int .u64 (lb 3 x), .bool false, .int .u64 0, .int .u64 0, .int .u64 0, .int .u64 0] 33)) w0.heap.size (.slice (some ⟨w2.heap.size, 0, none⟩) 2 2) [(g, x), (false, 0)] 2 := by
    have := Bi.two w2 _ w0.heap.size _ (g, x) (false, 0) rfl hsz2 rfl
    simp only [lb_zero] at this
    refine ⟨this, by simp, by simp, fun r hr => ?_⟩
    rcases List.mem_cons.1 hr with rfl | hr
    · exact HX.out
    · obtain rfl := List.mem_singleton.1 hr
      decide
  have HCol := Lib.hid hCol
  clear hCol p0 p1 p2 p3 p4 X2
  go_loopw [7, 8] (fun v i wr => ∃ (k : Nat) (l : List RI), k ≤ A.length ∧ i = .int .i64 k ∧ Hid (Below w0.heap.size w0 wr) ∧ Hid (Col wr w0.heap.size v l (2 + 3 * k))) (fun _ i _ => A.length - (intOf i).toNat)
  case atStart => exact ⟨0, [(g, x), (false, 0)], Nat.zero_le _, rfl, bal B2.out _, HCol.out⟩
  case round =>
    obtain ⟨k, l, hk, rfl, BW, CO⟩ := hrel
    by_cases hlt : k < A.length
    · obtain ⟨s, hs, hm⟩ : ∃ s, A[k]? = some s ∧ s ∈ A := ⟨A[k], List.getElem?_eq_getElem hlt, List.getElem_mem hlt⟩
      have HC := Lib.hid (fun W (hW : Below w0.heap.size w0 W) => (HLA.out.cells k (rsp s) (by rw [List.getElem?_map, hs]; rfl)).keep hW)
      obtain rfl : la = some ⟨ba, offa, none⟩ := HLA.out.la (by rw [List.length_map]; omega)
      have hln : l.length ≤ 2 + 3 * k := CO.out.2.2.1
      have hk12 : k < 12 := by omega
      have hbA : ba < w0.heap.size := by
        have := (HC.out w0 (Below.refl _ _)).twelve.1
        exact block_lt_of_cell this
      have hr := HC.out wr BW.out
      have hlo : (s.1.getD 0).natAbs < 2 ^ 256 := (rsp_may (HR.out s hm)).2.1
      have hhi : (s.2.getD 0).natAbs < 2 ^ 256 := (rsp_may (HR.out s hm)).2.2
      obtain ⟨a, ha⟩ : ∃ a, s.1.getD 0 = a := ⟨_, rfl⟩
      obtain ⟨b, hb'⟩ : ∃ b, s.2.getD 0 = b := ⟨_, rfl⟩
      have hcells : ∀ W, Below w0.heap.size w0 W → C12 W ba (offa + k * 12) ⟨s.1.isSome, s.2.isSome, decide (a < 0), a.natAbs, decide (b < 0), b.natAbs⟩ := fun W hW => by
        have := HC.out W hW
        unfold rsp at this
        rw [ha, hb'] at this
        exact this
      have HCC := Lib.hid hcells
      rw [ha] at hlo
      rw [hb'] at hhi
      have HLO := Lib.hid hlo; have HHI := Lib.hid hhi
      have KS : Hid (∀ W, Calls Tryd.prog 21 #[.agg #[.bool (decide (b < 0)), .int .u64 (lb 0 b.natAbs), .int .u64 (lb 1 b.natAbs), .int .u64 (lb 2 b.natAbs), .int .u64 (lb 3 b.natAbs)], .bool true] W fun e w' => e = .returned (Znum (b + 1)) ∧ Below W.heap.size W w') := Lib.hid (fun W => rstep_z b hhi true (b + 1) rfl W)
      obtain ⟨_, _, c2, c3, c4, c5, c6, c7, c8, c9, c10, c11⟩ := (HCC.out wr BW.out).twelve
      have CE : Hid (csI [(decide (a < 0), a.natAbs), (decide (b < 0), b.natAbs)] = [.bool (decide (a < 0)), .int .u64 (lb 0 a.natAbs), .int .u64 (lb 1 a.natAbs), .int .u64 (lb 2 a.natAbs), .int .u64 (lb 3 a.natAbs), .bool (decide (b < 0)), .int .u64 (lb 0 b.natAbs), .int .u64 (lb 1 b.natAbs), .int .u64 (lb 2 b.natAbs), .int .u64 (lb 3 b.natAbs)]) := Lib.hid rfl
      have HBO := Lib.hid CO.out.1
      have HSZ := Lib.hid BW.out.size
      clear hr hs hm ha hb' hcells hlo hhi
      have hszw : w0.heap.size ≤ wr.heap.size := HSZ.out
      go_upto_region 7 with (fail)
      go_region_held3 (fun w' => w'.cell? ⟨ba, offa + k * 12 + 2, none⟩ = some (.bool (decide (a < 0))) ∧ w'.cell? ⟨ba, offa + k * 12 + 3, none⟩ = some (.int .u64 (lb 0 a.natAbs)) ∧ w'.cell? ⟨ba, offa + k * 12 + 4, none⟩ = some (.int .u64 (lb 1 a.natAbs)) ∧ w'.cell? ⟨ba, offa + k * 12 + 5, none⟩ = some (.int .u64 (lb 2 a.natAbs)) ∧ w'.cell? ⟨ba, offa + k * 12 + 6, none⟩ = some (.int .u64 (lb 3 a.natAbs)) ∧ w'.cell? ⟨ba, offa + k * 12 + 7, none⟩ = some (.bool (decide (b < 0))) ∧ w'.cell? ⟨ba, offa + k * 12 + 8, none⟩ = some (.int .u64 (lb 0 b.natAbs)) ∧ w'.cell? ⟨ba, offa + k * 12 + 9, none⟩ = some (.int .u64 (lb 1 b.natAbs)) ∧ w'.cell? ⟨ba, offa + k * 12 + 10, none⟩ = some (.int .u64 (lb 2 b.natAbs)) ∧ w'.cell? ⟨ba, offa + k * 12 + 11, none⟩ = some (.int .u64 (lb 3 b.natAbs))) ((refine C12.ten (HCC.out _ ?_); (repeat (first | (with_reducible exact HG1.out) | (with_reducible exact BW.out) | (with_reducible refine bal ?_ _) | (with_reducible refine Below.drew ?_) | (with_reducible refine bdn ?_ _))); done)) (first | (refine step_append_lies _ (by rfl) _ _ _ (by rfl) w0.heap.size 33 i0 _ 5 40 und_ints hi0 hz0 hz1 hz2 rfl (by decide) u7 l.length (csI l) (by rfl) (own_keep9 HBO.out (by repeat (first | (with_reducible exact Below.refl _ _) | (with_reducible refine bal ?_ _) | (with_reducible refine Below.drew ?_) | (with_reducible refine bdn ?_ _)))) ⟨wr.heap.size, 0, none⟩ 2 2 [.bool (decide (a < 0)), .int .u64 (lb 0 a.natAbs), .int .u64 (lb 1 a.natAbs), .int .u64 (lb 2 a.natAbs), .int .u64 (lb 3 a.natAbs), .bool (decide (b < 0)), .int .u64 (lb 0 b.natAbs), .int .u64 (lb 1 b.natAbs), .int .u64 (lb 2 b.natAbs), .int .u64 (lb 3 b.natAbs)] (by first | rfl | (simp [Act.eval]; done)) (by rfl) (by exact news9 _ _ _ _ (by simp)) (by rw [← CE.out]; intro u hu; unfold csI at hu; obtain ⟨t, _, h⟩ := List.mem_flatMap.1 hu; exact ciI_one t u h) (by decide) (by unfold maxLen; omega) (by omega) (by simp <;> omega) _ rfl ?_; intro g1 cap1 w1 hown1 hgr1 hat1 hlt1; have HO1 : Hid (w1.ownsRow w0.heap.size 33 5 (.slice (some ⟨g1, 0, none⟩) (l.length + 2) cap1) (l.length + 2) (csI l ++ csI [(decide (a < 0), a.natAbs), (decide (b < 0), b.natAbs)])) := Lib.hid (by rw [CE.out]; exact hown1); have HG1 : Hid (Below w0.heap.size w0 w1) := Lib.hid (Below.grown (by repeat (first | (with_reducible exact BW.out) | (with_reducible refine bal ?_ _) | (with_reducible refine Below.drew ?_) | (with_reducible refine bdn ?_ _))) hgr1 (by simp <;> omega) (fun q hq => (own_base9 HBO.out q hq).1)); clear hown1 hgr1 hat1 hlt1))
      all_goals
        clear c2 c3 c4 c5 c6 c7 c8 c9 c10 c11
        obtain ⟨_, _, _, _, _, _, _, c7, c8, c9, c10, c11⟩ := (HCC.out w1 HG1.out).twelve
        by_cases hrg : (b + 1).natAbs < 2 ^ 256
        · have HSY : Hid (∀ W, Calls Tryd.prog 21 #[.agg #[.bool (decide (b < 0)), .int .u64 (lb 0 b.natAbs), .int .u64 (lb 1 b.natAbs), .int .u64 (lb 2 b.natAbs), .int .u64 (lb 3 b.natAbs)], .bool true] W fun e w' => e = .returned (.tuple #[.agg #[.bool (decide (b + 1 < 0)), .int .u64 (lb 0 (b + 1).natAbs), .int .u64 (lb 1 (b + 1).natAbs), .int .u64 (lb 2 (b + 1).natAbs), .int .u64 (lb 3 (b + 1).natAbs)], .bool true]) ∧ Below W.heap.size W w') := Lib.hid (fun W => by have := KS.out W; unfold Znum at this; rw [if_pos hrg] at this; exact this)
          have HRG := Lib.hid hrg
          clear hrg
          go_wp2_with fail
          ((with_reducible refine (HSY.out _).mono ?_); rintro e w3 ⟨rfl, hb⟩)
          have HG3 := Lib.hid (btr HG1.out hb)
          have HO3 := Lib.hid (own_keep9 HO1.out hb)
          have hsz3 : w0.heap.size ≤ w3.heap.size := HG3.out.size
          have CE2 : Hid (csI [(decide (b + 1 < 0), (b + 1).natAbs)] = [.bool (decide (b + 1 < 0)), .int .u64 (lb 0 (b + 1).natAbs), .int .u64 (lb 1 (b + 1).natAbs), .int .u64 (lb 2 (b + 1).natAbs), .int .u64 (lb 3 (b + 1).natAbs)]) := Lib.hid rfl
          clear hb c7 c8 c9 c10 c11
          go_wp2_with (at_builtin; refine wpList_append_lies _ rfl (.tmp 66) (.tmp 68) 36 rfl w0.heap.size 33 i0 (.agg #[.bool false, .int .u64 0, .int .u64 0, .int .u64 0, .int .u64 0]) 5 40 und_ints hi0 hz0 hz1 hz2 rfl (by decide) (.slice (some ⟨g1, 0, none⟩) (l.length + 2) cap1) (l.length + 2) _ rfl (own_keep9 HO3.out (by repeat (first | (with_reducible exact Below.refl _ _) | (with_reducible refine bal ?_ _) | (with_reducible refine Below.drew ?_) | (with_reducible refine bdn ?_ _)))) ⟨w3.heap.size + 1, 0, none⟩ 1 1 _ rfl rfl (news9 _ _ _ _ (by simp)) (by rw [← CE2.out]; intro u hu; unfold csI at hu; obtain ⟨t, _, h⟩ := List.mem_flatMap.1 hu; exact ciI_one t u h) (by decide) (by unfold maxLen; omega) (by omega) (by simp <;> omega) _ rfl ?_; intro g2 cap2 w4 hown2 hgr2 hat2 hlt2; have HO2 := Lib.hid hown2; have HG2 : Hid (Below w0.heap.size w0 w4) := Lib.hid (Below.grown (by repeat (first | (with_reducible exact HG3.out) | (with_reducible refine bal ?_ _) | (with_reducible refine Below.drew ?_) | (with_reducible refine bdn ?_ _))) hgr2 (by simp <;> omega) (fun q hq => (own_base9 HO3.out q hq).1)); clear hown2 hgr2 hat2 hlt2)
          go_roundw
          case rel => exact ⟨k + 1, l ++ [(decide (a < 0), a.natAbs), (decide (b < 0), b.natAbs), (decide (b + 1 < 0), (b + 1).natAbs)], by omega, by go_num, HG2.out, col_three CO.out HO2.out HLO.out HHI.out HRG.out⟩
          case measure => simp [intOf]; omega
        · have HSN : Hid (∀ W, Calls Tryd.prog 21 #[.agg #[.bool (decide (b < 0)), .int .u64 (lb 0 b.natAbs), .int .u64 (lb 1 b.natAbs), .int .u64 (lb 2 b.natAbs), .int .u64 (lb 3 b.natAbs)], .bool true] W fun e w' => e = .returned (.tuple #[.agg #[.bool false, .int .u64 0, .int .u64 0, .int .u64 0, .int .u64 0], .bool false]) ∧ Below W.heap.size W w') := Lib.hid (fun W => by have := KS.out W; unfold Znum at this; rw [if_neg hrg] at this; exact this)
          clear hrg
          go_wp2_with fail
          ((with_reducible refine (HSN.out _).mono ?_); rintro e w3 ⟨rfl, hb⟩)
          have HG3 := Lib.hid (btr HG1.out hb)
          have HO3 := Lib.hid (own_keep9 HO1.out hb)
          clear hb c7 c8 c9 c10 c11
          go_wp2
          go_roundw
          case rel => exact ⟨k + 1, l ++ [(decide (a < 0), a.natAbs), (decide (b < 0), b.natAbs)], by omega, by go_num, bal HG3.out _, col_two CO.out (World.ownsRow.alloc HO3.out _) HLO.out HHI.out⟩
          case measure => simp [intOf]; omega
    · have hge : ¬ (k : Int) < (A.length : Int) := by omega
      obtain ⟨wo, rfl⟩ : ∃ wo : World, wo = wr := ⟨_, rfl⟩
      have hl38 : l.length ≤ 38 := by have := CO.out.2.2.1; omega
      obtain ⟨gq, lcl, hv, hcap, hgl, hC5⟩ := CO.out.1.form CO.out.2.1
      subst hv
      have HRL := Lib.hid CO.out.2.2.2
      have HC5 := Lib.hid hC5
      clear hC5 hgl
      go_wp2_with fail
      ((with_reducible refine (or_is (IA.out.keep BW.out) (IB.out.keep BW.out)).mono ?_); rintro e w3 ⟨v3, rfl, hN, hb⟩)
      have S3 : Hid (IS w3 v3 (fun x => memS A x || memS B x) (1 + A.length + B.length)) := Lib.hid (hN.is (by omega))
      have D3 := Lib.hid hb
      clear hN hb
      go_wp2_with fail
      ((with_reducible refine (and_is (IA.out.keep (btr BW.out D3.out)) (IB.out.keep (btr BW.out D3.out))).mono ?_); rintro e w4 ⟨v4, rfl, hN, hb⟩)
      have S4 : Hid (IS w4 v4 (fun x => memS A x && memS B x) (1 + A.length + B.length)) := Lib.hid (hN.is (by omega))
      have T3 := Lib.hid (S3.out.keep hb)
      have D4 := Lib.hid (btr D3.out hb)
      clear hN hb S3
      go_wp2_with fail
      ((with_reducible refine (not_is (IA.out.keep (btr BW.out D4.out))).mono ?_); rintro e w5 ⟨v5, rfl, hN, hb⟩)
      have S5 : Hid (IS w5 v5 (fun x => !memS A x) (1 + A.length)) := Lib.hid (hN.is (by omega))
      have U3 := Lib.hid (T3.out.keep hb)
      have U4 := Lib.hid (S4.out.keep hb)
      have D5 := Lib.hid (btr D4.out hb)
      clear hN hb T3 S4
      go_wp2_with fail
      ((with_reducible refine (norm_is (IA.out.keep (btr BW.out D5.out))).mono ?_); rintro e w6 ⟨v6, rfl, hN, hb⟩)
      have Q6 : Hid (IS w6 v6 (fun x => memS A x) (1 + A.length)) := Lib.hid (hN.is (by omega))
      have Q3 := Lib.hid (U3.out.keep hb)
      have Q4 := Lib.hid (U4.out.keep hb)
      have Q5 := Lib.hid (S5.out.keep hb)
      have D6 := Lib.hid (btr D5.out hb)
      have E6 := Lib.hid (btr BW.out D6.out)
      clear hN hb U3 U4 S5 D3 D4 D5
      go_wp2
      go_loopw [15] (fun i wr => ∃ k2 : Nat, k2 ≤ l.length ∧ i = .int .i64 k2 ∧ Hid (Below w6.heap.size w6 wr)) (fun i _ => l.length - (intOf i).toNat)
      case atStart => exact ⟨0, Nat.zero_le _, rfl, Below.refl _ _⟩
      case round =>
        obtain ⟨k2, hk2, rfl, BX⟩ := hrel
        by_cases hlt : k2 < l.length
        · obtain ⟨r, hr, hrm⟩ : ∃ r, l[k2]? = some r ∧ r ∈ l := ⟨l[k2], List.getElem?_eq_getElem hlt, List.getElem_mem hlt⟩
          obtain ⟨gx, xx⟩ := r
          have hxx : xx < 2 ^ 256 := HRL.out _ hrm
          have hc5 := (HC5.out k2 _ hr).keep (btr D6.out BX.out)
          obtain ⟨c0, c1, c2, c3, c4⟩ := hc5
          have X0 := Row5.new wr (.bool gx) (.int .u64 (lb 0 xx)) (.int .u64 (lb 1 xx)) (.int .u64 (lb 2 xx)) (.int .u64 (lb 3 xx))
          have EX := Lib.hid (btr E6.out BX.out)
          clear hr hrm
          by_cases hbad : gx = true ∧ xx = 0
          · obtain ⟨rfl, rfl⟩ := hbad
            have KB : Hid (∀ W, Calls Tryd.prog 22 #[.agg #[.bool true, .int .u64 (lb 0 0), .int .u64 (lb 1 0), .int .u64 (lb 2 0), .int .u64 (lb 3 0)]] W fun e w' => e = .returned (.bool false) ∧ Below W.heap.size W w') := Lib.hid (fun W => rmay_bad W)
            have KH : Hid (∀ W, Below w0.heap.size w0 W → Calls Tryd.prog 23 #[.slice la A.length lca, .agg #[.bool true, .int .u64 (lb 0 0), .int .u64 (lb 1 0), .int .u64 (lb 2 0), .int .u64 (lb 3 0)]] W fun e w' => e = .returned (.bool false) ∧ Below W.heap.size W w') := Lib.hid (fun W hW => has_bad (IA.out.keep hW))
            clear hxx
            go_wp2_with fail
            ((with_reducible refine (KB.out _).mono ?_); rintro e w7 ⟨rfl, hb⟩)
            have X7 := Row5.keep hb X0
            have B7 := Lib.hid (btr (bal BX.out _) hb)
            clear hb X0 c0 c1 c2 c3 c4
            obtain ⟨q0, q1, q2, q3, q4⟩ := X7.parts
            go_wp2_with fail
            ((with_reducible refine (KH.out _ (btr E6.out B7.out)).mono ?_); rintro e w8 ⟨rfl, hb⟩)
            have B8 := Lib.hid (btr B7.out hb)
            clear hb q0 q1 q2 q3 q4 X7
            go_wp2
            go_roundw
            case rel => exact ⟨k2 + 1, by omega, by go_num, B8.out⟩
            case measure => simp [intOf]; omega
          · obtain ⟨z, hz, hzn⟩ := good_z hbad
            have hzr : inR z := inR_abs.2 (by rw [hzn]; exact hxx)
            have KG : Hid (∀ W, Calls Tryd.prog 22 #[.agg #[.bool gx, .int .u64 (lb 0 xx), .int .u64 (lb 1 xx), .int .u64 (lb 2 xx), .int .u64 (lb 3 xx)]] W fun e w' => e = .returned (.bool true) ∧ Below W.heap.size W w') := Lib.hid (fun W => rmay_good gx xx hxx hbad W)
            obtain ⟨p, hp⟩ : ∃ p, memS A z = p := ⟨_, rfl⟩
            obtain ⟨q, hq⟩ : ∃ q, memS B z = q := ⟨_, rfl⟩
            have KA : Hid (∀ W, Below w0.heap.size w0 W → Calls Tryd.prog 23 #[.slice la A.length lca, .agg #[.bool gx, .int .u64 (lb 0 xx), .int .u64 (lb 1 xx), .int .u64 (lb 2 xx), .int .u64 (lb 3 xx)]] W fun e w' => e = .returned (.bool p) ∧ Below W.heap.size W w') := Lib.hid (fun W hW => by have := has_is (IA.out.keep hW) z hzr; rw [← hz] at this; simp only [hp] at this; exact this)
            have KB : Hid (∀ W, Below w0.heap.size w0 W → Calls Tryd.prog 23 #[.slice la2 B.length lcb, .agg #[.bool gx, .int .u64 (lb 0 xx), .int .u64 (lb 1 xx), .int .u64 (lb 2 xx), .int .u64 (lb 3 xx)]] W fun e w' => e = .returned (.bool q) ∧ Below W.heap.size W w') := Lib.hid (fun W hW => by have := has_is (IB.out.keep hW) z hzr; rw [← hz] at this; simp only [hq] at this; exact this)
            have KR : Hid (∀ W, Below w0.heap.size w0 W → Calls Tryd.prog 24 #[.slice la A.length lca, .agg #[.bool gx, .int .u64 (lb 0 xx), .int .u64 (lb 1 xx), .int .u64 (lb 2 xx), .int .u64 (lb 3 xx)]] W fun e w' => e = .returned (.bool p) ∧ Below W.heap.size W w') := Lib.hid (fun W hW => by have := rhas_in (JA.out.keep hW) z hzr; rw [← hz] at this; simp only [hp] at this; exact this)
            have KO : Hid (∀ W, Below w6.heap.size w6 W → Calls Tryd.prog 23 #[v3, .agg #[.bool gx, .int .u64 (lb 0 xx), .int .u64 (lb 1 xx), .int .u64 (lb 2 xx), .int .u64 (lb 3 xx)]] W fun e w' => e = .returned (.bool (p || q)) ∧ Below W.heap.size W w') := Lib.hid (fun W hW => by have := has_is (Q3.out.keep hW) z hzr; rw [← hz] at this; simp only [hp, hq] at this; exact this)
            have KN2 : Hid (∀ W, Below w6.heap.size w6 W → Calls Tryd.prog 23 #[v4, .agg #[.bool gx, .int .u64 (lb 0 xx), .int .u64 (lb 1 xx), .int .u64 (lb 2 xx), .int .u64 (lb 3 xx)]] W fun e w' => e = .returned (.bool (p && q)) ∧ Below W.heap.size W w') := Lib.hid (fun W hW => by have := has_is (Q4.out.keep hW) z hzr; rw [← hz] at this; simp only [hp, hq] at this; exact this)
            have KT : Hid (∀ W, Below w6.heap.size w6 W → Calls Tryd.prog 23 #[v5, .agg #[.bool gx, .int .u64 (lb 0 xx), .int .u64 (lb 1 xx), .int .u64 (lb 2 xx), .int .u64 (lb 3 xx)]] W fun e w' => e = .returned (.bool (!p)) ∧ Below W.heap.size W w') := Lib.hid (fun W hW => by have := has_is (Q5.out.keep hW) z hzr; rw [← hz] at this; simp only [hp] at this; exact this)
            have KM2 : Hid (∀ W, Below w6.heap.size w6 W → Calls Tryd.prog 23 #[v6, .agg #[.bool gx, .int .u64 (lb 0 xx), .int .u64 (lb 1 xx), .int .u64 (lb 2 xx), .int .u64 (lb 3 xx)]] W fun e w' => e = .returned (.bool p) ∧ Below W.heap.size W w') := Lib.hid (fun W hW => by have := has_is (Q6.out.keep hW) z hzr; rw [← hz] at this; simp only [hp] at this; exact this)
            clear hp hq hz hzn hzr hxx hbad
            cases p <;> cases q
            · have KO' : Hid (∀ W, Below w6.heap.size w6 W → Calls Tryd.prog 23 #[v3, .agg #[.bool gx, .int .u64 (lb 0 xx), .int .u64 (lb 1 xx), .int .u64 (lb 2 xx), .int .u64 (lb 3 xx)]] W fun e w' => e = .returned (.bool false) ∧ Below W.heap.size W w') := KO
              have KN2' : Hid (∀ W, Below w6.heap.size w6 W → Calls Tryd.prog 23 #[v4, .agg #[.bool gx, .int .u64 (lb 0 xx), .int .u64 (lb 1 xx), .int .u64 (lb 2 xx), .int .u64 (lb 3 xx)]] W fun e w' => e = .returned (.bool false) ∧ Below W.heap.size W w') := KN2
              have KT' : Hid (∀ W, Below w6.heap.size w6 W → Calls Tryd.prog 23 #[v5, .agg #[.bool gx, .int .u64 (lb 0 xx), .int .u64 (lb 1 xx), .int .u64 (lb 2 xx), .int .u64 (lb 3 xx)]] W fun e w' => e = .returned (.bool true) ∧ Below W.heap.size W w') := KT
              clear KO KN2 KT
              go_wp2_with fail
              ((with_reducible refine (KG.out _).mono ?_); rintro e w7 ⟨rfl, hb⟩)
              have R7 := Row5.keep hb X0
              have B7 := Lib.hid (btr (bal BX.out _) hb)
              clear hb X0 c0 c1 c2 c3 c4
              go_upto_region 19 with (fail)
              go_region_held3 (fun w' => w'.cell? ⟨wr.heap.size, 0, none⟩ = some (.bool gx) ∧ w'.cell? ⟨wr.heap.size, 1, none⟩ = some (.int .u64 (lb 0 xx)) ∧ w'.cell? ⟨wr.heap.size, 2, none⟩ = some (.int .u64 (lb 1 xx)) ∧ w'.cell? ⟨wr.heap.size, 3, none⟩ = some (.int .u64 (lb 2 xx)) ∧ w'.cell? ⟨wr.heap.size, 4, none⟩ = some (.int .u64 (lb 3 xx))) ((refine Row5.parts ?_; (repeat (first | (with_reducible assumption) | (with_reducible refine Row5.alloc ?_ _) | (with_reducible refine Row5.drew ?_) | (with_reducible refine Row5.drewN ?_ _))); done)) (first | (go_at_call 23; (with_reducible refine (KA.out _ (btr E6.out (by repeat (first | (with_reducible exact Ba.out) | (with_reducible exact B7.out) | (with_reducible refine bal ?_ _) | (with_reducible refine Below.drew ?_) | (with_reducible refine bdn ?_ _))))).mono ?_); rintro e wa ⟨rfl, hb⟩; have Ra : Row5 wa wr.heap.size (.bool gx) (.int .u64 (lb 0 xx)) (.int .u64 (lb 1 xx)) (.int .u64 (lb 2 xx)) (.int .u64 (lb 3 xx)) := Row5.keep hb (by repeat (first | (with_reducible assumption) | (with_reducible refine Row5.alloc ?_ _) | (with_reducible refine Row5.drew ?_) | (with_reducible refine Row5.drewN ?_ _))); have Ba : Hid (Below w6.heap.size w6 wa) := Lib.hid (btr (by repeat (first | (with_reducible exact Ba.out) | (with_reducible exact B7.out) | (with_reducible refine bal ?_ _) | (with_reducible refine Below.drew ?_) | (with_reducible refine bdn ?_ _))) hb); clear hb) | (go_at_call 23; (with_reducible refine (KB.out _ (btr E6.out (by repeat (first | (with_reducible exact Ba.out) | (with_reducible exact B7.out) | (with_reducible refine bal ?_ _) | (with_reducible refine Below.drew ?_) | (with_reducible refine bdn ?_ _))))).mono ?_); rintro e wa ⟨rfl, hb⟩; have Ra : Row5 wa wr.heap.size (.bool gx) (.int .u64 (lb 0 xx)) (.int .u64 (lb 1 xx)) (.int .u64 (lb 2 xx)) (.int .u64 (lb 3 xx)) := Row5.keep hb (by repeat (first | (with_reducible assumption) | (with_reducible refine Row5.alloc ?_ _) | (with_reducible refine Row5.drew ?_) | (with_reducible refine Row5.drewN ?_ _))); have Ba : Hid (Below w6.heap.size w6 wa) := Lib.hid (btr (by repeat (first | (with_reducible exact Ba.out) | (with_reducible exact B7.out) | (with_reducible refine bal ?_ _) | (with_reducible refine Below.drew ?_) | (with_reducible refine bdn ?_ _))) hb); clear hb) | fail)
              all_goals
                obtain ⟨q0, q1, q2, q3, q4⟩ := Ra.parts
                go_wp2_with fail
                ((with_reducible refine (KR.out _ (btr E6.out (by repeat (first | (with_reducible exact Ba.out) | (with_reducible refine bal ?_ _) | (with_reducible refine Below.drew ?_) | (with_reducible refine bdn ?_ _))))).mono ?_); rintro e wb ⟨rfl, hb⟩)
                have Rb : Row5 wb wr.heap.size (.bool gx) (.int .u64 (lb 0 xx)) (.int .u64 (lb 1 xx)) (.int .u64 (lb 2 xx)) (.int .u64 (lb 3 xx)) := Row5.keep hb (by repeat (first | (with_reducible assumption) | (with_reducible refine Row5.alloc ?_ _) | (with_reducible refine Row5.drew ?_) | (with_reducible refine Row5.drewN ?_ _)))
                have Bb : Hid (Below w6.heap.size w6 wb) := Lib.hid (btr (by repeat (first | (with_reducible exact Ba.out) | (with_reducible refine bal ?_ _) | (with_reducible refine Below.drew ?_) | (with_reducible refine bdn ?_ _))) hb)
                clear hb q0 q1 q2 q3 q4 Ra
                obtain ⟨q0, q1, q2, q3, q4⟩ := Rb.parts
                go_wp2_with fail
                ((with_reducible refine (KO'.out _ (by repeat (first | (with_reducible exact Bb.out) | (with_reducible refine bal ?_ _) | (with_reducible refine Below.drew ?_) | (with_reducible refine bdn ?_ _)))).mono ?_); rintro e wc ⟨rfl, hb⟩)
                have Rc : Row5 wc wr.heap.size (.bool gx) (.int .u64 (lb 0 xx)) (.int .u64 (lb 1 xx)) (.int .u64 (lb 2 xx)) (.int .u64 (lb 3 xx)) := Row5.keep hb (by repeat (first | (with_reducible assumption) | (with_reducible refine Row5.alloc ?_ _) | (with_reducible refine Row5.drew ?_) | (with_reducible refine Row5.drewN ?_ _)))
                have Bc : Hid (Below w6.heap.size w6 wc) := Lib.hid (btr (by repeat (first | (with_reducible exact Bb.out) | (with_reducible refine bal ?_ _) | (with_reducible refine Below.drew ?_) | (with_reducible refine bdn ?_ _))) hb)
                clear hb q0 q1 q2 q3 q4 Rb
                obtain ⟨q0, q1, q2, q3, q4⟩ := Rc.parts
                go_wp2_with fail
                ((with_reducible refine (KN2'.out _ (by repeat (first | (with_reducible exact Bc.out) | (with_reducible refine bal ?_ _) | (with_reducible refine Below.drew ?_) | (with_reducible refine bdn ?_ _)))).mono ?_); rintro e wd ⟨rfl, hb⟩)
                have Rd : Row5 wd wr.heap.size (.bool gx) (.int .u64 (lb 0 xx)) (.int .u64 (lb 1 xx)) (.int .u64 (lb 2 xx)) (.int .u64 (lb 3 xx)) := Row5.keep hb (by repeat (first | (with_reducible assumption) | (with_reducible refine Row5.alloc ?_ _) | (with_reducible refine Row5.drew ?_) | (with_reducible refine Row5.drewN ?_ _)))
                have Bd : Hid (Below w6.heap.size w6 wd) := Lib.hid (btr (by repeat (first | (with_reducible exact Bc.out) | (with_reducible refine bal ?_ _) | (with_reducible refine Below.drew ?_) | (with_reducible refine bdn ?_ _))) hb)
                clear hb q0 q1 q2 q3 q4 Rc
                obtain ⟨q0, q1, q2, q3, q4⟩ := Rd.parts
                go_wp2_with fail
                ((with_reducible refine (KT'.out _ (by repeat (first | (with_reducible exact Bd.out) | (with_reducible refine bal ?_ _) | (with_reducible refine Below.drew ?_) | (with_reducible refine bdn ?_ _)))).mono ?_); rintro e we ⟨rfl, hb⟩)
                have Re : Row5 we wr.heap.size (.bool gx) (.int .u64 (lb 0 xx)) (.int .u64 (lb 1 xx)) (.int .u64 (lb 2 xx)) (.int .u64 (lb 3 xx)) := Row5.keep hb (by repeat (first | (with_reducible assumption) | (with_reducible refine Row5.alloc ?_ _) | (with_reducible refine Row5.drew ?_) | (with_reducible refine Row5.drewN ?_ _)))
                have Be : Hid (Below w6.heap.size w6 we) := Lib.hid (btr (by repeat (first | (with_reducible exact Bd.out) | (with_reducible refine bal ?_ _) | (with_reducible refine Below.drew ?_) | (with_reducible refine bdn ?_ _))) hb)
                clear hb q0 q1 q2 q3 q4 Rd
                obtain ⟨q0, q1, q2, q3, q4⟩ := Re.parts
                go_wp2_with fail
                ((with_reducible refine (KM2.out _ (by repeat (first | (with_reducible exact Be.out) | (with_reducible refine bal ?_ _) | (with_reducible refine Below.drew ?_) | (with_reducible refine bdn ?_ _)))).mono ?_); rintro e wf ⟨rfl, hb⟩)
                have Rf : Row5 wf wr.heap.size (.bool gx) (.int .u64 (lb 0 xx)) (.int .u64 (lb 1 xx)) (.int .u64 (lb 2 xx)) (.int .u64 (lb 3 xx)) := Row5.keep hb (by repeat (first | (with_reducible assumption) | (with_reducible refine Row5.alloc ?_ _) | (with_reducible refine Row5.drew ?_) | (with_reducible refine Row5.drewN ?_ _)))
                have Bf : Hid (Below w6.heap.size w6 wf) := Lib.hid (btr (by repeat (first | (with_reducible exact Be.out) | (with_reducible refine bal ?_ _) | (with_reducible refine Below.drew ?_) | (with_reducible refine bdn ?_ _))) hb)
                clear hb q0 q1 q2 q3 q4 Re
                obtain ⟨q0, q1, q2, q3, q4⟩ := Rf.parts
                go_wp2
                go_roundw
                case rel => exact ⟨k2 + 1, by omega, by go_num, Lib.hid (by repeat (first | (with_reducible exact Bf.out) | (with_reducible refine bal ?_ _) | (with_reducible refine Below.drew ?_) | (with_reducible refine bdn ?_ _)))⟩
                case measure => simp [intOf]; omega
            · have KO' : Hid (∀ W, Below w6.heap.size w6 W → Calls Tryd.prog 23 #[v3, .agg #[.bool gx, .int .u64 (lb 0 xx), .int .u64 (lb 1 xx), .int .u64 (lb 2 xx), .int .u64 (lb 3 xx)]] W fun e w' => e = .returned (.bool true) ∧ Below W.heap.size W w') := KO
              have KN2' : Hid (∀ W, Below w6.heap.size w6 W → Calls Tryd.prog 23 #[v4, .agg #[.bool gx, .int .u64 (lb 0 xx), .int .u64 (lb 1 xx), .int .u64 (lb 2 xx), .int .u64 (lb 3 xx)]] W fun e w' => e = .returned (.bool false) ∧ Below W.heap.size W w') := KN2
              have KT' : Hid (∀ W, Below w6.heap.size w6 W → Calls Tryd.prog 23 #[v5, .agg #[.bool gx, .int .u64 (lb 0 xx), .int .u64 (lb 1 xx), .int .u64 (lb 2 xx), .int .u64 (lb 3 xx)]] W fun e w' => e = .returned (.bool true) ∧ Below W.heap.size W w') := KT
              clear KO KN2 KT
              go_wp2_with fail
              ((with_reducible refine (KG.out _).mono ?_); rintro e w7 ⟨rfl, hb⟩)
              have R7 := Row5.keep hb X0
              have B7 := Lib.hid (btr (bal BX.out _) hb)
              clear hb X0 c0 c1 c2 c3 c4
              go_upto_region 19 with (fail)
              go_region_held3 (fun w' => w'.cell? ⟨wr.heap.size, 0, none⟩ = some (.bool gx) ∧ w'.cell? ⟨wr.heap.size, 1, none⟩ = some (.int .u64 (lb 0 xx)) ∧ w'.cell? ⟨wr.heap.size, 2, none⟩ = some (.int .u64 (lb 1 xx)) ∧ w'.cell? ⟨wr.heap.size, 3, none⟩ = some (.int .u64 (lb 2 xx)) ∧ w'.cell? ⟨wr.heap.size, 4, none⟩ = some (.int .u64 (lb 3 xx))) ((refine Row5.parts ?_; (repeat (first | (with_reducible assumption) | (with_reducible refine Row5.alloc ?_ _) | (with_reducible refine Row5.drew ?_) | (with_reducible refine Row5.drewN ?_ _))); done)) (first | (go_at_call 23; (with_reducible refine (KA.out _ (btr E6.out (by repeat (first | (with_reducible exact Ba.out) | (with_reducible exact B7.out) | (with_reducible refine bal ?_ _) | (with_reducible refine Below.drew ?_) | (with_reducible refine bdn ?_ _))))).mono ?_); rintro e wa ⟨rfl, hb⟩; have Ra : Row5 wa wr.heap.size (.bool gx) (.int .u64 (lb 0 xx)) (.int .u64 (lb 1 xx)) (.int .u64 (lb 2 xx)) (.int .u64 (lb 3 xx)) := Row5.keep hb (by repeat (first | (with_reducible assumption) | (with_reducible refine Row5.alloc ?_ _) | (with_reducible refine Row5.drew ?_) | (with_reducible refine Row5.drewN ?_ _))); have Ba : Hid (Below w6.heap.size w6 wa) := Lib.hid (btr (by repeat (first | (with_reducible exact Ba.out) | (with_reducible exact B7.out) | (with_reducible refine bal ?_ _) | (with_reducible refine Below.drew ?_) | (with_reducible refine bdn ?_ _))) hb); clear hb) | (go_at_call 23; (with_reducible refine (KB.out _ (btr E6.out (by repeat (first | (with_reducible exact Ba.out) | (with_reducible exact B7.out) | (with_reducible refine bal ?_ _) | (with_reducible refine Below.drew ?_) | (with_reducible refine bdn ?_ _))))).mono ?_); rintro e wa ⟨rfl, hb⟩; have Ra : Row5 wa wr.heap.size (.bool gx) (.int .u64 (lb 0 xx)) (.int .u64 (lb 1 xx)) (.int .u64 (lb 2 xx)) (.int .u64 (lb 3 xx)) := Row5.keep hb (by repeat (first | (with_reducible assumption) | (with_reducible refine Row5.alloc ?_ _) | (with_reducible refine Row5.drew ?_) | (with_reducible refine Row5.drewN ?_ _))); have Ba : Hid (Below w6.heap.size w6 wa) := Lib.hid (btr (by repeat (first | (with_reducible exact Ba.out) | (with_reducible exact B7.out) | (with_reducible refine bal ?_ _) | (with_reducible refine Below.drew ?_) | (with_reducible refine bdn ?_ _))) hb); clear hb) | fail)
              all_goals
                obtain ⟨q0, q1, q2, q3, q4⟩ := Ra.parts
                go_wp2_with fail
                ((with_reducible refine (KR.out _ (btr E6.out (by repeat (first | (with_reducible exact Ba.out) | (with_reducible refine bal ?_ _) | (with_reducible refine Below.drew ?_) | (with_reducible refine bdn ?_ _))))).mono ?_); rintro e wb ⟨rfl, hb⟩)
                have Rb : Row5 wb wr.heap.size (.bool gx) (.int .u64 (lb 0 xx)) (.int .u64 (lb 1 xx)) (.int .u64 (lb 2 xx)) (.int .u64 (lb 3 xx)) := Row5.keep hb (by repeat (first | (with_reducible assumption) | (with_reducible refine Row5.alloc ?_ _) | (with_reducible refine Row5.drew ?_) | (with_reducible refine Row5.drewN ?_ _)))
                have Bb : Hid (Below w6.heap.size w6 wb) := Lib.hid (btr (by repeat (first | (with_reducible exact Ba.out) | (with_reducible refine bal ?_ _) | (with_reducible refine Below.drew ?_) | (with_reducible refine bdn ?_ _))) hb)
                clear hb q0 q1 q2 q3 q4 Ra
                obtain ⟨q0, q1, q2, q3, q4⟩ := Rb.parts
                go_wp2_with fail
                ((with_reducible refine (KO'.out _ (by repeat (first | (with_reducible exact Bb.out) | (with_reducible refine bal ?_ _) | (with_reducible refine Below.drew ?_) | (with_reducible refine bdn ?_ _)))).mono ?_); rintro e wc ⟨rfl, hb⟩)
                have Rc : Row5 wc wr.heap.size (.bool gx) (.int .u64 (lb 0 xx)) (.int .u64 (lb 1 xx)) (.int .u64 (lb 2 xx)) (.int .u64 (lb 3 xx)) := Row5.keep hb (by repeat (first | (with_reducible assumption) | (with_reducible refine Row5.alloc ?_ _) | (with_reducible refine Row5.drew ?_) | (with_reducible refine Row5.drewN ?_ _)))
                have Bc : Hid (Below w6.heap.size w6 wc) := Lib.hid (btr (by repeat (first | (with_reducible exact Bb.out) | (with_reducible refine bal ?_ _) | (with_reducible refine Below.drew ?_) | (with_reducible refine bdn ?_ _))) hb)
                clear hb q0 q1 q2 q3 q4 Rb
                obtain ⟨q0, q1, q2, q3, q4⟩ := Rc.parts
                go_wp2_with fail
                ((with_reducible refine (KN2'.out _ (by repeat (first | (with_reducible exact Bc.out) | (with_reducible refine bal ?_ _) | (with_reducible refine Below.drew ?_) | (with_reducible refine bdn ?_ _)))).mono ?_); rintro e wd ⟨rfl, hb⟩)
                have Rd : Row5 wd wr.heap.size (.bool gx) (.int .u64 (lb 0 xx)) (.int .u64 (lb 1 xx)) (.int .u64 (lb 2 xx)) (.int .u64 (lb 3 xx)) := Row5.keep hb (by repeat (first | (with_reducible assumption) | (with_reducible refine Row5.alloc ?_ _) | (with_reducible refine Row5.drew ?_) | (with_reducible refine Row5.drewN ?_ _)))
                have Bd : Hid (Below w6.heap.size w6 wd) := Lib.hid (btr (by repeat (first | (with_reducible exact Bc.out) | (with_reducible refine bal ?_ _) | (with_reducible refine Below.drew ?_) | (with_reducible refine bdn ?_ _))) hb)
                clear hb q0 q1 q2 q3 q4 Rc
                obtain ⟨q0, q1, q2, q3, q4⟩ := Rd.parts
                go_wp2_with fail
                ((with_reducible refine (KT'.out _ (by repeat (first | (with_reducible exact Bd.out) | (with_reducible refine bal ?_ _) | (with_reducible refine Below.drew ?_) | (with_reducible refine bdn ?_ _)))).mono ?_); rintro e we ⟨rfl, hb⟩)
                have Re : Row5 we wr.heap.size (.bool gx) (.int .u64 (lb 0 xx)) (.int .u64 (lb 1 xx)) (.int .u64 (lb 2 xx)) (.int .u64 (lb 3 xx)) := Row5.keep hb (by repeat (first | (with_reducible assumption) | (with_reducible refine Row5.alloc ?_ _) | (with_reducible refine Row5.drew ?_) | (with_reducible refine Row5.drewN ?_ _)))
                have Be : Hid (Below w6.heap.size w6 we) := Lib.hid (btr (by repeat (first | (with_reducible exact Bd.out) | (with_reducible refine bal ?_ _) | (with_reducible refine Below.drew ?_) | (with_reducible refine bdn ?_ _))) hb)
                clear hb q0 q1 q2 q3 q4 Rd
                obtain ⟨q0, q1, q2, q3, q4⟩ := Re.parts
                go_wp2_with fail
                ((with_reducible refine (KM2.out _ (by repeat (first | (with_reducible exact Be.out) | (with_reducible refine bal ?_ _) | (with_reducible refine Below.drew ?_) | (with_reducible refine bdn ?_ _)))).mono ?_); rintro e wf ⟨rfl, hb⟩)
                have Rf : Row5 wf wr.heap.size (.bool gx) (.int .u64 (lb 0 xx)) (.int .u64 (lb 1 xx)) (.int .u64 (lb 2 xx)) (.int .u64 (lb 3 xx)) := Row5.keep hb (by repeat (first | (with_reducible assumption) | (with_reducible refine Row5.alloc ?_ _) | (with_reducible refine Row5.drew ?_) | (with_reducible refine Row5.drewN ?_ _)))
                have Bf : Hid (Below w6.heap.size w6 wf) := Lib.hid (btr (by repeat (first | (with_reducible exact Be.out) | (with_reducible refine bal ?_ _) | (with_reducible refine Below.drew ?_) | (with_reducible refine bdn ?_ _))) hb)
                clear hb q0 q1 q2 q3 q4 Re
                obtain ⟨q0, q1, q2, q3, q4⟩ := Rf.parts
                go_wp2
                go_roundw
                case rel => exact ⟨k2 + 1, by omega, by go_num, Lib.hid (by repeat (first | (with_reducible exact Bf.out) | (with_reducible refine bal ?_ _) | (with_reducible refine Below.drew ?_) | (with_reducible refine bdn ?_ _)))⟩
                case measure => simp [intOf]; omega
            · have KO' : Hid (∀ W, Below w6.heap.size w6 W → Calls Tryd.prog 23 #[v3, .agg #[.bool gx, .int .u64 (lb 0 xx), .int .u64 (lb 1 xx), .int .u64 (lb 2 xx), .int .u64 (lb 3 xx)]] W fun e w' => e = .returned (.bool true) ∧ Below W.heap.size W w') := KO
              have KN2' : Hid (∀ W, Below w6.heap.size w6 W → Calls Tryd.prog 23 #[v4, .agg #[.bool gx, .int .u64 (lb 0 xx), .int .u64 (lb 1 xx), .int .u64 (lb 2 xx), .int .u64 (lb 3 xx)]] W fun e w' => e = .returned (.bool false) ∧ Below W.heap.size W w') := KN2
              have KT' : Hid (∀ W, Below w6.heap.size w6 W → Calls Tryd.prog 23 #[v5, .agg #[.bool gx, .int .u64 (lb 0 xx), .int .u64 (lb 1 xx), .int .u64 (lb 2 xx), .int .u64 (lb 3 xx)]] W fun e w' => e = .returned (.bool false) ∧ Below W.heap.size W w') := KT
              clear KO KN2 KT
              go_wp2_with fail
              ((with_reducible refine (KG.out _).mono ?_); rintro e w7 ⟨rfl, hb⟩)
              have R7 := Row5.keep hb X0
              have B7 := Lib.hid (btr (bal BX.out _) hb)
              clear hb X0 c0 c1 c2 c3 c4
              go_upto_region 19 with (fail)
              go_region_held3 (fun w' => w'.cell? ⟨wr.heap.size, 0, none⟩ = some (.bool gx) ∧ w'.cell? ⟨wr.heap.size, 1, none⟩ = some (.int .u64 (lb 0 xx)) ∧ w'.cell? ⟨wr.heap.size, 2, none⟩ = some (.int .u64 (lb 1 xx)) ∧ w'.cell? ⟨wr.heap.size, 3, none⟩ = some (.int .u64 (lb 2 xx)) ∧ w'.cell? ⟨wr.heap.size, 4, none⟩ = some (.int .u64 (lb 3 xx))) ((refine Row5.parts ?_; (repeat (first | (with_reducible assumption) | (with_reducible refine Row5.alloc ?_ _) | (with_reducible refine Row5.drew ?_) | (with_reducible refine Row5.drewN ?_ _))); done)) (first | (go_at_call 23; (with_reducible refine (KA.out _ (btr E6.out (by repeat (first | (with_reducible exact Ba.out) | (with_reducible exact B7.out) | (with_reducible refine bal ?_ _) | (with_reducible refine Below.drew ?_) | (with_reducible refine bdn ?_ _))))).mono ?_); rintro e wa ⟨rfl, hb⟩; have Ra : Row5 wa wr.heap.size (.bool gx) (.int .u64 (lb 0 xx)) (.int .u64 (lb 1 xx)) (.int .u64 (lb 2 xx)) (.int .u64 (lb 3 xx)) := Row5.keep hb (by repeat (first | (with_reducible assumption) | (with_reducible refine Row5.alloc ?_ _) | (with_reducible refine Row5.drew ?_) | (with_reducible refine Row5.drewN ?_ _))); have Ba : Hid (Below w6.heap.size w6 wa) := Lib.hid (btr (by repeat (first | (with_reducible exact Ba.out) | (with_reducible exact B7.out) | (with_reducible refine bal ?_ _) | (with_reducible refine Below.drew ?_) | (with_reducible refine bdn ?_ _))) hb); clear hb) | (go_at_call 23; (with_reducible refine (KB.out _ (btr E6.out (by repeat (first | (with_reducible exact Ba.out) | (with_reducible exact B7.out) | (with_reducible refine bal ?_ _) | (with_reducible refine Below.drew ?_) | (with_reducible refine bdn ?_ _))))).mono ?_); rintro e wa ⟨rfl, hb⟩; have Ra : Row5 wa wr.heap.size (.bool gx) (.int .u64 (lb 0 xx)) (.int .u64 (lb 1 xx)) (.int .u64 (lb 2 xx)) (.int .u64 (lb 3 xx)) := Row5.keep hb (by repeat (first | (with_reducible assumption) | (with_reducible refine Row5.alloc ?_ _) | (with_reducible refine Row5.drew ?_) | (with_reducible refine Row5.drewN ?_ _))); have Ba : Hid (Below w6.heap.size w6 wa) := Lib.hid (btr (by repeat (first | (with_reducible exact Ba.out) | (with_reducible exact B7.out) | (with_reducible refine bal ?_ _) | (with_reducible refine Below.drew ?_) | (with_reducible refine bdn ?_ _))) hb); clear hb) | fail)
              all_goals
                obtain ⟨q0, q1, q2, q3, q4⟩ := Ra.parts
                go_wp2_with fail
                ((with_reducible refine (KR.out _ (btr E6.out (by repeat (first | (with_reducible exact Ba.out) | (with_reducible refine bal ?_ _) | (with_reducible refine Below.drew ?_) | (with_reducible refine bdn ?_ _))))).mono ?_); rintro e wb ⟨rfl, hb⟩)
                have Rb : Row5 wb wr.heap.size (.bool gx) (.int .u64 (lb 0 xx)) (.int .u64 (lb 1 xx)) (.int .u64 (lb 2 xx)) (.int .u64 (lb 3 xx)) := Row5.keep hb (by repeat (first | (with_reducible assumption) | (with_reducible refine Row5.alloc ?_ _) | (with_reducible refine Row5.drew ?_) | (with_reducible refine Row5.drewN ?_ _)))
                have Bb : Hid (Below w6.heap.size w6 wb) := Lib.hid (btr (by repeat (first | (with_reducible exact Ba.out) | (with_reducible refine bal ?_ _) | (with_reducible refine Below.drew ?_) | (with_reducible refine bdn ?_ _))) hb)
                clear hb q0 q1 q2 q3 q4 Ra
                obtain ⟨q0, q1, q2, q3, q4⟩ := Rb.parts
                go_wp2_with fail
                ((with_reducible refine (KO'.out _ (by repeat (first | (with_reducible exact Bb.out) | (with_reducible refine bal ?_ _) | (with_reducible refine Below.drew ?_) | (with_reducible refine bdn ?_ _)))).mono ?_); rintro e wc ⟨rfl, hb⟩)
                have Rc : Row5 wc wr.heap.size (.bool gx) (.int .u64 (lb 0 xx)) (.int .u64 (lb 1 xx)) (.int .u64 (lb 2 xx)) (.int .u64 (lb 3 xx)) := Row5.keep hb (by repeat (first | (with_reducible assumption) | (with_reducible refine Row5.alloc ?_ _) | (with_reducible refine Row5.drew ?_) | (with_reducible refine Row5.drewN ?_ _)))
                have Bc : Hid (Below w6.heap.size w6 wc) := Lib.hid (btr (by repeat (first | (with_reducible exact Bb.out) | (with_reducible refine bal ?_ _) | (with_reducible refine Below.drew ?_) | (with_reducible refine bdn ?_ _))) hb)
                clear hb q0 q1 q2 q3 q4 Rb
                obtain ⟨q0, q1, q2, q3, q4⟩ := Rc.parts
                go_wp2_with fail
                ((with_reducible refine (KN2'.out _ (by repeat (first | (with_reducible exact Bc.out) | (with_reducible refine bal ?_ _) | (with_reducible refine Below.drew ?_) | (with_reducible refine bdn ?_ _)))).mono ?_); rintro e wd ⟨rfl, hb⟩)
                have Rd : Row5 wd wr.heap.size (.bool gx) (.int .u64 (lb 0 xx)) (.int .u64 (lb 1 xx)) (.int .u64 (lb 2 xx)) (.int .u64 (lb 3 xx)) := Row5.keep hb (by repeat (first | (with_reducible assumption) | (with_reducible refine Row5.alloc ?_ _) | (with_reducible refine Row5.drew ?_) | (with_reducible refine Row5.drewN ?_ _)))
                have Bd : Hid (Below w6.heap.size w6 wd) := Lib.hid (btr (by repeat (first | (with_reducible exact Bc.out) | (with_reducible refine bal ?_ _) | (with_reducible refine Below.drew ?_) | (with_reducible refine bdn ?_ _))) hb)
                clear hb q0 q1 q2 q3 q4 Rc
                obtain ⟨q0, q1, q2, q3, q4⟩ := Rd.parts
                go_wp2_with fail
                ((with_reducible refine (KT'.out _ (by repeat (first | (with_reducible exact Bd.out) | (with_reducible refine bal ?_ _) | (with_reducible refine Below.drew ?_) | (with_reducible refine bdn ?_ _)))).mono ?_); rintro e we ⟨rfl, hb⟩)
                have Re : Row5 we wr.heap.size (.bool gx) (.int .u64 (lb 0 xx)) (.int .u64 (lb 1 xx)) (.int .u64 (lb 2 xx)) (.int .u64 (lb 3 xx)) := Row5.keep hb (by repeat (first | (with_reducible assumption) | (with_reducible refine Row5.alloc ?_ _) | (with_reducible refine Row5.drew ?_) | (with_reducible refine Row5.drewN ?_ _)))
                have Be : Hid (Below w6.heap.size w6 we) := Lib.hid (btr (by repeat (first | (with_reducible exact Bd.out) | (with_reducible refine bal ?_ _) | (with_reducible refine Below.drew ?_) | (with_reducible refine bdn ?_ _))) hb)
                clear hb q0 q1 q2 q3 q4 Rd
                obtain ⟨q0, q1, q2, q3, q4⟩ := Re.parts
                go_wp2_with fail
                ((with_reducible refine (KM2.out _ (by repeat (first | (with_reducible exact Be.out) | (with_reducible refine bal ?_ _) | (with_reducible refine Below.drew ?_) | (with_reducible refine bdn ?_ _)))).mono ?_); rintro e wf ⟨rfl, hb⟩)
                have Rf : Row5 wf wr.heap.size (.bool gx) (.int .u64 (lb 0 xx)) (.int .u64 (lb 1 xx)) (.int .u64 (lb 2 xx)) (.int .u64 (lb 3 xx)) := Row5.keep hb (by repeat (first | (with_reducible assumption) | (with_reducible refine Row5.alloc ?_ _) | (with_reducible refine Row5.drew ?_) | (with_reducible refine Row5.drewN ?_ _)))
                have Bf : Hid (Below w6.heap.size w6 wf) := Lib.hid (btr (by repeat (first | (with_reducible exact Be.out) | (with_reducible refine bal ?_ _) | (with_reducible refine Below.drew ?_) | (with_reducible refine bdn ?_ _))) hb)
                clear hb q0 q1 q2 q3 q4 Re
                obtain ⟨q0, q1, q2, q3, q4⟩ := Rf.parts
                go_wp2
                go_roundw
                case rel => exact ⟨k2 + 1, by omega, by go_num, Lib.hid (by repeat (first | (with_reducible exact Bf.out) | (with_reducible refine bal ?_ _) | (with_reducible refine Below.drew ?_) | (with_reducible refine bdn ?_ _)))⟩
                case measure => simp [intOf]; omega
            · have KO' : Hid (∀ W, Below w6.heap.size w6 W → Calls Tryd.prog 23 #[v3, .agg #[.bool gx, .int .u64 (lb 0 xx), .int .u64 (lb 1 xx), .int .u64 (lb 2 xx), .int .u64 (lb 3 xx)]] W fun e w' => e = .returned (.bool true) ∧ Below W.heap.size W w') := KO
              have KN2' : Hid (∀ W, Below w6.heap.size w6 W → Calls Tryd.prog 23 #[v4, .agg #[.bool gx, .int .u64 (lb 0 xx), .int .u64 (lb 1 xx), .int .u64 (lb 2 xx), .int .u64 (lb 3 xx)]] W fun e w' => e = .returned (.bool true) ∧ Below W.heap.size W w') := KN2
              have KT' : Hid (∀ W, Below w6.heap.size w6 W → Calls Tryd.prog 23 #[v5, .agg #[.bool gx, .int .u64 (lb 0 xx), .int .u64 (lb 1 xx), .int .u64 (lb 2 xx), .int .u64 (lb 3 xx)]] W fun e w' => e = .returned (.bool false) ∧ Below W.heap.size W w') := KT
              clear KO KN2 KT
              go_wp2_with fail
              ((with_reducible refine (KG.out _).mono ?_); rintro e w7 ⟨rfl, hb⟩)
              have R7 := Row5.keep hb X0
              have B7 := Lib.hid (btr (bal BX.out _) hb)
              clear hb X0 c0 c1 c2 c3 c4
              go_upto_region 19 with (fail)
              go_region_held3 (fun w' => w'.cell? ⟨wr.heap.size, 0, none⟩ = some (.bool gx) ∧ w'.cell? ⟨wr.heap.size, 1, none⟩ = some (.int .u64 (lb 0 xx)) ∧ w'.cell? ⟨wr.heap.size, 2, none⟩ = some (.int .u64 (lb 1 xx)) ∧ w'.cell? ⟨wr.heap.size, 3, none⟩ = some (.int .u64 (lb 2 xx)) ∧ w'.cell? ⟨wr.heap.size, 4, none⟩ = some (.int .u64 (lb 3 xx))) ((refine Row5.parts ?_; (repeat (first | (with_reducible assumption) | (with_reducible refine Row5.alloc ?_ _) | (with_reducible refine Row5.drew ?_) | (with_reducible refine Row5.drewN ?_ _))); done)) (first | (go_at_call 23; (with_reducible refine (KA.out _ (btr E6.out (by repeat (first | (with_reducible exact Ba.out) | (with_reducible exact B7.out) | (with_reducible refine bal ?_ _) | (with_reducible refine Below.drew ?_) | (with_reducible refine bdn ?_ _))))).mono ?_); rintro e wa ⟨rfl, hb⟩; have Ra : Row5 wa wr.heap.size (.bool gx) (.int .u64 (lb 0 xx)) (.int .u64 (lb 1 xx)) (.int .u64 (lb 2 xx)) (.int .u64 (lb 3 xx)) := Row5.keep hb (by repeat (first | (with_reducible assumption) | (with_reducible refine Row5.alloc ?_ _) | (with_reducible refine Row5.drew ?_) | (with_reducible refine Row5.drewN ?_ _))); have Ba : Hid (Below w6.heap.size w6 wa) := Lib.hid (btr (by repeat (first | (with_reducible exact Ba.out) | (with_reducible exact B7.out) | (with_reducible refine bal ?_ _) | (with_reducible refine Below.drew ?_) | (with_reducible refine bdn ?_ _))) hb); clear hb) | (go_at_call 23; (with_reducible refine (KB.out _ (btr E6.out (by repeat (first | (with_reducible exact Ba.out) | (with_reducible exact B7.out) | (with_reducible refine bal ?_ _) | (with_reducible refine Below.drew ?_) | (with_reducible refine bdn ?_ _))))).mono ?_); rintro e wa ⟨rfl, hb⟩; have Ra : Row5 wa wr.heap.size (.bool gx) (.int .u64 (lb 0 xx)) (.int .u64 (lb 1 xx)) (.int .u64 (lb 2 xx)) (.int .u64 (lb 3 xx)) := Row5.keep hb (by repeat (first | (with_reducible assumption) | (with_reducible refine Row5.alloc ?_ _) | (with_reducible refine Row5.drew ?_) | (with_reducible refine Row5.drewN ?_ _))); have Ba : Hid (Below w6.heap.size w6 wa) := Lib.hid (btr (by repeat (first | (with_reducible exact Ba.out) | (with_reducible exact B7.out) | (with_reducible refine bal ?_ _) | (with_reducible refine Below.drew ?_) | (with_reducible refine bdn ?_ _))) hb); clear hb) | fail)
              all_goals
                obtain ⟨q0, q1, q2, q3, q4⟩ := Ra.parts
                go_wp2_with fail
                ((with_reducible refine (KR.out _ (btr E6.out (by repeat (first | (with_reducible exact Ba.out) | (with_reducible refine bal ?_ _) | (with_reducible refine Below.drew ?_) | (with_reducible refine bdn ?_ _))))).mono ?_); rintro e wb ⟨rfl, hb⟩)
                have Rb : Row5 wb wr.heap.size (.bool gx) (.int .u64 (lb 0 xx)) (.int .u64 (lb 1 xx)) (.int .u64 (lb 2 xx)) (.int .u64 (lb 3 xx)) := Row5.keep hb (by repeat (first | (with_reducible assumption) | (with_reducible refine Row5.alloc ?_ _) | (with_reducible refine Row5.drew ?_) | (with_reducible refine Row5.drewN ?_ _)))
                have Bb : Hid (Below w6.heap.size w6 wb) := Lib.hid (btr (by repeat (first | (with_reducible exact Ba.out) | (with_reducible refine bal ?_ _) | (with_reducible refine Below.drew ?_) | (with_reducible refine bdn ?_ _))) hb)
                clear hb q0 q1 q2 q3 q4 Ra
                obtain ⟨q0, q1, q2, q3, q4⟩ := Rb.parts
                go_wp2_with fail
                ((with_reducible refine (KO'.out _ (by repeat (first | (with_reducible exact Bb.out) | (with_reducible refine bal ?_ _) | (with_reducible refine Below.drew ?_) | (with_reducible refine bdn ?_ _)))).mono ?_); rintro e wc ⟨rfl, hb⟩)
                have Rc : Row5 wc wr.heap.size (.bool gx) (.int .u64 (lb 0 xx)) (.int .u64 (lb 1 xx)) (.int .u64 (lb 2 xx)) (.int .u64 (lb 3 xx)) := Row5.keep hb (by repeat (first | (with_reducible assumption) | (with_reducible refine Row5.alloc ?_ _) | (with_reducible refine Row5.drew ?_) | (with_reducible refine Row5.drewN ?_ _)))
                have Bc : Hid (Below w6.heap.size w6 wc) := Lib.hid (btr (by repeat (first | (with_reducible exact Bb.out) | (with_reducible refine bal ?_ _) | (with_reducible refine Below.drew ?_) | (with_reducible refine bdn ?_ _))) hb)
                clear hb q0 q1 q2 q3 q4 Rb
                obtain ⟨q0, q1, q2, q3, q4⟩ := Rc.parts
                go_wp2_with fail
                ((with_reducible refine (KN2'.out _ (by repeat (first | (with_reducible exact Bc.out) | (with_reducible refine bal ?_ _) | (with_reducible refine Below.drew ?_) | (with_reducible refine bdn ?_ _)))).mono ?_); rintro e wd ⟨rfl, hb⟩)
                have Rd : Row5 wd wr.heap.size (.bool gx) (.int .u64 (lb 0 xx)) (.int .u64 (lb 1 xx)) (.int .u64 (lb 2 xx)) (.int .u64 (lb 3 xx)) := Row5.keep hb (by repeat (first | (with_reducible assumption) | (with_reducible refine Row5.alloc ?_ _) | (with_reducible refine Row5.drew ?_) | (with_reducible refine Row5.drewN ?_ _)))
                have Bd : Hid (Below w6.heap.size w6 wd) := Lib.hid (btr (by repeat (first | (with_reducible exact Bc.out) | (with_reducible refine bal ?_ _) | (with_reducible refine Below.drew ?_) | (with_reducible refine bdn ?_ _))) hb)
                clear hb q0 q1 q2 q3 q4 Rc
                obtain ⟨q0, q1, q2, q3, q4⟩ := Rd.parts
                go_wp2_with fail
                ((with_reducible refine (KT'.out _ (by repeat (first | (with_reducible exact Bd.out) | (with_reducible refine bal ?_ _) | (with_reducible refine Below.drew ?_) | (with_reducible refine bdn ?_ _)))).mono ?_); rintro e we ⟨rfl, hb⟩)
                have Re : Row5 we wr.heap.size (.bool gx) (.int .u64 (lb 0 xx)) (.int .u64 (lb 1 xx)) (.int .u64 (lb 2 xx)) (.int .u64 (lb 3 xx)) := Row5.keep hb (by repeat (first | (with_reducible assumption) | (with_reducible refine Row5.alloc ?_ _) | (with_reducible refine Row5.drew ?_) | (with_reducible refine Row5.drewN ?_ _)))
                have Be : Hid (Below w6.heap.size w6 we) := Lib.hid (btr (by repeat (first | (with_reducible exact Bd.out) | (with_reducible refine bal ?_ _) | (with_reducible refine Below.drew ?_) | (with_reducible refine bdn ?_ _))) hb)
                clear hb q0 q1 q2 q3 q4 Rd
                obtain ⟨q0, q1, q2, q3, q4⟩ := Re.parts
                go_wp2_with fail
                ((with_reducible refine (KM2.out _ (by repeat (first | (with_reducible exact Be.out) | (with_reducible refine bal ?_ _) | (with_reducible refine Below.drew ?_) | (with_reducible refine bdn ?_ _)))).mono ?_); rintro e wf ⟨rfl, hb⟩)
                have Rf : Row5 wf wr.heap.size (.bool gx) (.int .u64 (lb 0 xx)) (.int .u64 (lb 1 xx)) (.int .u64 (lb 2 xx)) (.int .u64 (lb 3 xx)) := Row5.keep hb (by repeat (first | (with_reducible assumption) | (with_reducible refine Row5.alloc ?_ _) | (with_reducible refine Row5.drew ?_) | (with_reducible refine Row5.drewN ?_ _)))
                have Bf : Hid (Below w6.heap.size w6 wf) := Lib.hid (btr (by repeat (first | (with_reducible exact Be.out) | (with_reducible refine bal ?_ _) | (with_reducible refine Below.drew ?_) | (with_reducible refine bdn ?_ _))) hb)
                clear hb q0 q1 q2 q3 q4 Re
                obtain ⟨q0, q1, q2, q3, q4⟩ := Rf.parts
                go_wp2
                go_roundw
                case rel => exact ⟨k2 + 1, by omega, by go_num, Lib.hid (by repeat (first | (with_reducible exact Bf.out) | (with_reducible refine bal ?_ _) | (with_reducible refine Below.drew ?_) | (with_reducible refine bdn ?_ _)))⟩
                case measure => simp [intOf]; omega
        · have hge2 : ¬ (k2 : Int) < (l.length : Int) := by omega
          clear hge
          go_wp2_with fail
          ((with_reducible refine (told9_true _ (tb_on HT.out (btr E6.out BX.out))).mono ?_); rintro e w7 ⟨rfl, hb⟩)
          have F7 := Lib.hid (btr BX.out hb); clear hb
          go_wp2_with fail
          ((with_reducible refine (not_is (Q5.out.keep F7.out)).mono ?_); rintro e w8 ⟨v8, rfl, hN, hb⟩)
          have S8 := Lib.hid (hN.is (by omega)); have F8 := Lib.hid (btr F7.out hb); clear hN hb
          go_wp2_with fail
          ((with_reducible refine (same_is S8.out (IA.out.keep (btr E6.out F8.out)) (fun x _ _ => by simp)).mono ?_); rintro e w9 ⟨rfl, hb⟩)
          have F9 := Lib.hid (btr F8.out hb); clear hb
          go_wp2_with fail
          ((with_reducible refine (and_is (IA.out.keep (btr E6.out F9.out)) (Q5.out.keep F9.out)).mono ?_); rintro e w10 ⟨v10, rfl, hN, hb⟩)
          have S10 := Lib.hid (hN.is (by omega)); have F10 := Lib.hid (btr F9.out hb); clear hN hb
          go_wp2_with fail
          ((with_reducible refine (same_is S10.out (IS.nil _) (fun x _ _ => by simp)).mono ?_); rintro e w11 ⟨rfl, hb⟩)
          have F11 := Lib.hid (btr F10.out hb); clear hb
          go_wp2_with fail
          ((with_reducible refine (or_is (IA.out.keep (btr E6.out F11.out)) (Q5.out.keep F11.out)).mono ?_); rintro e w12 ⟨v12, rfl, hN, hb⟩)
          have S12 := Lib.hid (hN.is (by omega)); have F12 := Lib.hid (btr F11.out hb); clear hN hb
          go_wp2_with fail
          ((with_reducible refine (all_one _).mono ?_); rintro e w13 ⟨g13, rfl, hI, hb⟩)
          have S13 := Lib.hid (S12.out.keep hb); have I13 := Lib.hid (IS.of hI); have F13 := Lib.hid (btr F12.out hb); clear hI hb
          go_wp2_with fail
          ((with_reducible refine (same_is S13.out I13.out (fun x h1 h2 => all_mem x h1 h2)).mono ?_); rintro e w14 ⟨rfl, hb⟩)
          have F14 := Lib.hid (btr F13.out hb); clear hb
          go_wp2
          go_ret
          exact ⟨rfl, btr E6.out F14.out⟩
set_option maxRecDepth 100000 in
set_option maxHeartbeats 4000000 in
theorem has_l (la : Option Addr) (n lca : Nat) (la2 : Option Addr) (m lcb : Nat) (g : Bool) (x : Nat) (w : World) (hT : Tb w) (h : ¬ (n ≤ 12 ∧ m ≤ 12)) :
    Calls Tryd.prog 4 #[.slice la n lca, .slice la2 m lcb, .agg #[.bool g, .int .u64 (lb 0 x), .int .u64 (lb 1 x), .int .u64 (lb 2 x), .int .u64 (lb 3 x)]] w fun e w' => e = .returned (.bool true) ∧ Below w.heap.size w w' := by
  have hfew := fun W => few_any la n lca la2 m lcb W
  have hq : (decide (n ≤ 12) && decide (m ≤ 12)) = false := by rw [← Bool.not_eq_true]; intro hc; apply h; simpa using hc
  rw [hq] at hfew
  have HFW := Lib.hid hfew; have HT := Lib.hid hT
  clear hfew hT h hq
  go_enter Tryd.func4, Tryd.ntmps4
  go_wp2_with fail
  ((with_reducible refine (HFW.out _).mono ?_); rintro e w1 ⟨rfl, rfl⟩)
  go_wp2_with fail
  ((with_reducible refine (told9_true _ (tb_on HT.out (bal (Below.refl w.heap.size w) _))).mono ?_); rintro e w9 ⟨rfl, hb⟩)
  go_wp2
  go_ret
  exact ⟨rfl, btr (bal (Below.refl _ _) _) hb⟩
set_option maxRecDepth 100000 in
set_option maxHeartbeats 4000000 in
theorem has_m (la : Option Addr) (n lca : Nat) (la2 : Option Addr) (m lcb : Nat) (g : Bool) (x : Nat) (w : World) (hT : Tb w) (h1 : n ≤ 12) (h2 : m ≤ 12)
    (km : ∀ W, Below w.heap.size w W → Calls Tryd.prog 9 #[.slice la n lca] W fun e w' => e = .returned (.bool false) ∧ Below W.heap.size W w') :
    Calls Tryd.prog 4 #[.slice la n lca, .slice la2 m lcb, .agg #[.bool g, .int .u64 (lb 0 x), .int .u64 (lb 1 x), .int .u64 (lb 2 x), .int .u64 (lb 3 x)]] w fun e w' => e = .returned (.bool true) ∧ Below w.heap.size w w' := by
  have hfew := fun W => few_any la n lca la2 m lcb W
  rw [decide_eq_true h1, decide_eq_true h2] at hfew
  have HFW := Lib.hid hfew; have HT := Lib.hid hT; have KM := Lib.hid km
  clear hfew hT h1 h2 km
  go_enter Tryd.func4, Tryd.ntmps4
  go_wp2_with fail
  ((with_reducible refine (HFW.out _).mono ?_); rintro e w1 ⟨rfl, rfl⟩)
  go_wp2_with fail
  ((with_reducible refine (KM.out _ (bal (Below.refl _ _) _)).mono ?_); rintro e w1 ⟨rfl, hb1⟩)
  have B1 := Lib.hid (btr (bal (Below.refl w.heap.size w) _) hb1)
  clear hb1
  go_wp2_with fail
  ((with_reducible refine (told9_true _ (tb_on HT.out B1.out)).mono ?_); rintro e w9 ⟨rfl, hb⟩)
  go_wp2
  go_ret
  exact ⟨rfl, btr B1.out hb⟩
set_option maxRecDepth 100000 in
set_option maxHeartbeats 4000000 in
theorem has_n (la : Option Addr) (n lca : Nat) (la2 : Option Addr) (m lcb : Nat) (g : Bool) (x : Nat) (w : World) (hT : Tb w) (h1 : n ≤ 12) (h2 : m ≤ 12)
    (km : ∀ W, Below w.heap.size w W → Calls Tryd.prog 9 #[.slice la n lca] W fun e w' => e = .returned (.bool true) ∧ Below W.heap.size W w')
    (kn : ∀ W, Below w.heap.size w W → Calls Tryd.prog 9 #[.slice la2 m lcb] W fun e w' => e = .returned (.bool false) ∧ Below W.heap.size W w') :
    Calls Tryd.prog 4 #[.slice la n lca, .slice la2 m lcb, .agg #[.bool g, .int .u64 (lb 0 x), .int .u64 (lb 1 x), .int .u64 (lb 2 x), .int .u64 (lb 3 x)]] w fun e w' => e = .returned (.bool true) ∧ Below w.heap.size w w' := by
  have hfew := fun W => few_any la n lca la2 m lcb W
  rw [decide_eq_true h1, decide_eq_true h2] at hfew
  have HFW := Lib.hid hfew; have HT := Lib.hid hT; have KM := Lib.hid km; have KN := Lib.hid kn
  clear hfew hT h1 h2 km kn
  go_enter Tryd.func4, Tryd.ntmps4
  go_wp2_with fail
  ((with_reducible refine (HFW.out _).mono ?_); rintro e w1 ⟨rfl, rfl⟩)
  go_wp2_with fail
  ((with_reducible refine (KM.out _ (bal (Below.refl _ _) _)).mono ?_); rintro e w1 ⟨rfl, hb1⟩)
  have B1 := Lib.hid (btr (bal (Below.refl w.heap.size w) _) hb1)
  clear hb1
  go_wp2_with fail
  ((with_reducible refine (KN.out _ B1.out).mono ?_); rintro e w2 ⟨rfl, hb1⟩)
  have B2 := Lib.hid (btr B1.out hb1)
  clear hb1
  go_wp2_with fail
  ((with_reducible refine (told9_true _ (tb_on HT.out B2.out)).mono ?_); rintro e w9 ⟨rfl, hb⟩)
  go_wp2
  go_ret
  exact ⟨rfl, btr B2.out hb⟩
/-- entrepotlaw9.SpanHas. -/
theorem has_any (la : Option Addr) (lca : Nat) (l : List RS) (bb off : Nat) (la2 : Option Addr) (lcb : Nat) (m : List RS) (b2 off2 : Nat) (g : Bool) (x : Nat) (hx : x < 2 ^ 256) (w : World) (hT : Tb w) (hK : Ls w la l bb off) (hxl : ∀ r ∈ l, r.xl < 2 ^ 256 ∧ r.xh < 2 ^ 256) (c1 : l.length ≤ lca ∧ lca ≤ maxLen)
    (hM : Ls w la2 m b2 off2) (hxm : ∀ r ∈ m, r.xl < 2 ^ 256 ∧ r.xh < 2 ^ 256) (c2 : m.length ≤ lcb ∧ lcb ≤ maxLen) :
    Calls Tryd.prog 4 #[.slice la l.length lca, .slice la2 m.length lcb, I5 g x] w fun e w' => e = .returned (.bool true) ∧ Below w.heap.size w w' := by
  by_cases h1 : l.length ≤ 12
  · by_cases h2 : m.length ≤ 12
    · have f := fun W hW => rlmay la lca l bb off W (hK.keep hW) hxl
      have f2 := fun W hW => rlmay la2 lcb m b2 off2 W (hM.keep hW) hxm
      cases e1 : mayL l with
      | false => rw [e1] at f; exact has_m la l.length lca la2 m.length lcb g x w hT h1 h2 f
      | true =>
        cases e2 : mayL m with
        | false => rw [e1] at f; rw [e2] at f2; exact has_n la l.length lca la2 m.length lcb g x w hT h1 h2 f f2
        | true =>
          obtain ⟨A, rfl, hA⟩ := in9_of hK c1.1 c1.2 hxl e1
          obtain ⟨B, rfl, hB⟩ := in9_of hM c2.1 c2.2 hxm e2
          rw [List.length_map] at *
          rw [List.length_map] at *
          exact has_main la lca A la2 lcb B g x hx w hT hA hB h1 h2
    · exact has_l la l.length lca la2 m.length lcb g x w hT (fun h => h2 h.2)
  · exact has_l la l.length lca la2 m.length lcb g x w hT (fun h => h1 h.1)
end Go.Proofs.YtajhfihkgekffaaDoor
