/-
  entrepotref9.Norm's first loop: spans put in by their beginnings.
-/
import Derived.Test.YtjlgiejggcbgbaaGreatDoorSX
namespace Go.Proofs.YtjlgiejggcbgbaaGreatDoor
open Go.RowKit Go.Shelf
open Go.Sort (grow)
attribute [local go_sem ↓] eql_nat neq_nat eql_int5 neq_int5

/-- A pair as the reference keeps it: two ends, and no word of whether they are there. -/
def rawp (p : Int × Int) : RS := ⟨false, false, decide (p.1 < 0), p.1.natAbs, decide (p.2 < 0), p.2.natAbs⟩
theorem own_emptyB (W : World) (e : TypeId) (n H base : Nat) (h : W.heap.size = H) (hb : base ≤ H) : (W.alloc (.cells #[] e)).ownsRow base e n (.slice (some ⟨H, 0, none⟩) 0 0) 0 [] := own_mono9 (own_empty9 W e n H h) hb
theorem news_pr {w : World} {B : Nat} {lo hi : Int} (hb : w.heap[B]? = some (.cells #[.bool false, .bool false, .bool (decide (lo < 0)), .int .u64 (lb 0 lo.natAbs), .int .u64 (lb 1 lo.natAbs), .int .u64 (lb 2 lo.natAbs), .int .u64 (lb 3 lo.natAbs), .bool (decide (hi < 0)), .int .u64 (lb 0 hi.natAbs), .int .u64 (lb 1 hi.natAbs), .int .u64 (lb 2 hi.natAbs), .int .u64 (lb 3 hi.natAbs)] 37)) : ∀ (j : Nat) (u : Value), [Value.bool false, .bool false, .bool (decide (lo < 0)), .int .u64 (lb 0 lo.natAbs), .int .u64 (lb 1 lo.natAbs), .int .u64 (lb 2 lo.natAbs), .int .u64 (lb 3 lo.natAbs), .bool (decide (hi < 0)), .int .u64 (lb 0 hi.natAbs), .int .u64 (lb 1 hi.natAbs), .int .u64 (lb 2 hi.natAbs), .int .u64 (lb 3 hi.natAbs)][j]? = some u → w.cell? ((⟨B, 0, none⟩ : Addr).add j) = some u := World.news_of_block hb
theorem hnew {W : World} {o : Obj} {B : Nat} (h : W.heap.size = B) : (W.alloc o).heap[B]? = some o := by subst h; exact heap_alloc_new W o
theorem hold {W : World} {o o' : Obj} {B : Nat} (h : W.heap[B]? = some o) : (W.alloc o').heap[B]? = some o := (Below.heap_alloc W o' B (Array.getElem?_eq_some_iff.1 h).1).trans h
theorem hgrn {W W' : World} {r : Option Nat} {o : Obj} {B : Nat} (hg : W.grownBy W' r) (h : W.heap[B]? = some o) (hne : some B ≠ r) : W'.heap[B]? = some o := (hg.block B (Array.getElem?_eq_some_iff.1 h).1 hne).trans h
theorem tenX {w : World} {b c : Nat} {g1 g2 : Bool} {x1 x2 : Nat} (h : Row5 w b (.bool g1) (.int .u64 (lb 0 x1)) (.int .u64 (lb 1 x1)) (.int .u64 (lb 2 x1)) (.int .u64 (lb 3 x1))) (k : Row5 w c (.bool g2) (.int .u64 (lb 0 x2)) (.int .u64 (lb 1 x2)) (.int .u64 (lb 2 x2)) (.int .u64 (lb 3 x2))) :
    w.cell? ⟨b, 0, none⟩ = some (.bool g1) ∧ w.cell? ⟨b, 1, none⟩ = some (.int .u64 (lb 0 x1)) ∧ w.cell? ⟨b, 2, none⟩ = some (.int .u64 (lb 1 x1)) ∧ w.cell? ⟨b, 3, none⟩ = some (.int .u64 (lb 2 x1)) ∧ w.cell? ⟨b, 4, none⟩ = some (.int .u64 (lb 3 x1)) ∧ w.cell? ⟨c, 0, none⟩ = some (.bool g2) ∧ w.cell? ⟨c, 1, none⟩ = some (.int .u64 (lb 0 x2)) ∧ w.cell? ⟨c, 2, none⟩ = some (.int .u64 (lb 1 x2)) ∧ w.cell? ⟨c, 3, none⟩ = some (.int .u64 (lb 2 x2)) ∧ w.cell? ⟨c, 4, none⟩ = some (.int .u64 (lb 3 x2)) := by
  obtain ⟨p0, p1, p2, p3, p4⟩ := h.parts
  obtain ⟨q0, q1, q2, q3, q4⟩ := k.parts
  exact ⟨p0, p1, p2, p3, p4, q0, q1, q2, q3, q4⟩
theorem cs_hi {L : List RS} {gl : Bool} {xl : Nat} {g0 : Bool} {x0 : Nat} (gh : Bool) (xh : Nat) :
    (((((csS (L ++ [⟨false, false, gl, xl, g0, x0⟩])).set (L.length * 12 + 7) (.bool gh)).set (L.length * 12 + 8) (.int .u64 (lb 0 xh))).set (L.length * 12 + 9) (.int .u64 (lb 1 xh))).set (L.length * 12 + 10) (.int .u64 (lb 2 xh))).set (L.length * 12 + 11) (.int .u64 (lb 3 xh)) = csS (L ++ [⟨false, false, gl, xl, gh, xh⟩]) := by
  have hn : (csS L).length = L.length * 12 := csS_len L
  have key : ∀ (j : Nat) (ys : List Value) (u : Value), (csS L ++ ys).set (L.length * 12 + j) u = csS L ++ ys.set j u := by
    intro j ys u
    rw [List.set_append_right _ _ (by omega), hn, Nat.add_sub_cancel_left]
  rw [csS_app, csS_app, key, key, key, key, key]
  rfl
/-- What has been merged so far. -/
def Mg (W : World) (base : Nat) (v : Value) (L : List (Int × Int)) (i : Nat) (Q : List (Int × Int)) : Prop := Bs W base v (Q.map rawp) ∧ Mrg L i Q
theorem Mg.keep {W W' : World} {base i : Nat} {v : Value} {L Q : List (Int × Int)} (h : Mg W base v L i Q) (hb : Below W.heap.size W W') : Mg W' base v L i Q := ⟨h.1.keep hb, h.2⟩
theorem last_cell (l : List RS) (r : RS) {i : Nat} (hi : i < 12) : (csS (l ++ [r]))[l.length * 12 + i]? = r.cells[i]? := by
  rw [csS_app, List.getElem?_append_right (by rw [csS_len]; omega), csS_len, Nat.add_sub_cancel_left]
  unfold csS
  rw [List.flatMap_cons, List.flatMap_nil, List.append_nil]
theorem mg_row {W : World} {base j : Nat} {v : Value} {L Q0 : List (Int × Int)} {a b : Int} (h : Mg W base v L j (Q0 ++ [(a, b)])) : ∃ g cap, v = .slice (some ⟨g, 0, none⟩) (Q0.length + 1) cap ∧ W.ownsRow base 37 12 (.slice (some ⟨g, 0, none⟩) (Q0.length + 1) cap) (Q0.length + 1) (csS (Q0.map rawp ++ [rawp (a, b)])) := by
  have h1 := h.1
  unfold Bs at h1
  rw [List.map_append, List.length_append, List.length_map] at h1
  have h2 := h1
  rcases h1.2 with ⟨h3, h4⟩ | ⟨g, cap, cur, h3, _⟩
  · simp at h4
  · exact ⟨g, cap, h3, by rw [h3] at h2; exact h2⟩
def ACells (w : World) (g p : Nat) (b : Int) : Prop := w.cell? ⟨g, p + 7, none⟩ = some (.bool (decide (b < 0))) ∧ w.cell? ⟨g, p + 8, none⟩ = some (.int .u64 (lb 0 b.natAbs)) ∧ w.cell? ⟨g, p + 9, none⟩ = some (.int .u64 (lb 1 b.natAbs)) ∧ w.cell? ⟨g, p + 10, none⟩ = some (.int .u64 (lb 2 b.natAbs)) ∧ w.cell? ⟨g, p + 11, none⟩ = some (.int .u64 (lb 3 b.natAbs))
theorem mg_cells {W : World} {base g n cap m : Nat} {Q0 : List (Int × Int)} {a b : Int} (h : W.ownsRow base 37 12 (.slice (some ⟨g, 0, none⟩) n cap) m (csS (Q0.map rawp ++ [rawp (a, b)]))) : ACells W g (Q0.length * 12) b := by
  have key : ∀ i u, i < 12 → (rawp (a, b)).cells[i]? = some u → W.cell? ⟨g, Q0.length * 12 + i, none⟩ = some u := fun i u hi hu => own_at9 h (by have := last_cell (Q0.map rawp) (rawp (a, b)) hi; rw [List.length_map] at this; rw [this]; exact hu)
  exact ⟨key 7 _ (by omega) rfl, key 8 _ (by omega) rfl, key 9 _ (by omega) rfl, key 10 _ (by omega) rfl, key 11 _ (by omega) rfl⟩
theorem mg_put {W : World} {base g n cap m : Nat} {Q0 : List (Int × Int)} {a b c : Int} (h : W.ownsRow base 37 12 (.slice (some ⟨g, 0, none⟩) n cap) m (csS (Q0.map rawp ++ [rawp (a, b)]))) :
    (((((W.setCell ⟨g, Q0.length * 12 + 7, none⟩ (.bool (decide (c < 0)))).setCell ⟨g, Q0.length * 12 + 8, none⟩ (.int .u64 (lb 0 c.natAbs))).setCell ⟨g, Q0.length * 12 + 9, none⟩ (.int .u64 (lb 1 c.natAbs))).setCell ⟨g, Q0.length * 12 + 10, none⟩ (.int .u64 (lb 2 c.natAbs))).setCell ⟨g, Q0.length * 12 + 11, none⟩ (.int .u64 (lb 3 c.natAbs))).ownsRow base 37 12 (.slice (some ⟨g, 0, none⟩) n cap) m (csS (Q0.map rawp ++ [rawp (a, c)])) := by
  have := own_put9 (own_put9 (own_put9 (own_put9 (own_put9 h (Q0.length * 12 + 7) (.bool (decide (c < 0)))) (Q0.length * 12 + 8) (.int .u64 (lb 0 c.natAbs))) (Q0.length * 12 + 9) (.int .u64 (lb 1 c.natAbs))) (Q0.length * 12 + 10) (.int .u64 (lb 2 c.natAbs))) (Q0.length * 12 + 11) (.int .u64 (lb 3 c.natAbs))
  have e := cs_hi (L := Q0.map rawp) (gl := decide (a < 0)) (xl := a.natAbs) (g0 := decide (b < 0)) (x0 := b.natAbs) (decide (c < 0)) c.natAbs
  rw [List.length_map] at e
  unfold rawp at this
  simp only at this
  rw [show csS (List.map rawp Q0 ++ [rawp (a, c)]) = _ from e.symm]
  exact this
theorem mg_of {W : World} {base g cap j : Nat} {L Q0 : List (Int × Int)} {a b : Int} (h : W.ownsRow base 37 12 (.slice (some ⟨g, 0, none⟩) (Q0.length + 1) cap) (Q0.length + 1) (csS (Q0.map rawp ++ [rawp (a, b)]))) (hM : Mrg L j (Q0 ++ [(a, b)])) : Mg W base (.slice (some ⟨g, 0, none⟩) (Q0.length + 1) cap) L j (Q0 ++ [(a, b)]) := by
  refine ⟨?_, hM⟩
  unfold Bs
  rw [List.map_append, List.length_append, List.length_map]
  exact h
theorem mrg_isN {L Q : List (Int × Int)} {A : List Sp} (h : Mrg L L.length Q) (hL : ∀ x, memP L x = memS A x) : IsN Q (fun x => memS A x) := ⟨h.sep, fun x _ _ => by rw [h.mem, List.take_of_length_le (Nat.le_refl _), hL]⟩
/-- A row that the last loop has turned so far. -/
def turned (Q : List (Int × Int)) (m : Nat) : List RS := (Q.take m).map (fun p => rsp (ofSp p)) ++ (Q.drop m).map rawp
theorem turned_len (Q : List (Int × Int)) {m : Nat} (h : m ≤ Q.length) : (turned Q m).length = Q.length := by unfold turned; rw [List.length_append, List.length_map, List.length_map, List.length_take, List.length_drop]; omega
theorem turned_zero (Q : List (Int × Int)) : turned Q 0 = Q.map rawp := by unfold turned; simp
theorem turned_all (Q : List (Int × Int)) : turned Q Q.length = Q.map fun p => rsp (ofSp p) := by unfold turned; simp
theorem turned_at {Q : List (Int × Int)} {m : Nat} {q : Int × Int} (h : Q[m]? = some q) : (turned Q m)[m]? = some (rawp q) := by
  have hm := (List.getElem?_eq_some_iff.1 h).1
  unfold turned
  rw [List.getElem?_append_right (by rw [List.length_map, List.length_take]; omega), List.length_map, List.length_take, Nat.min_eq_left (by omega), Nat.sub_self, List.getElem?_map, List.getElem?_drop, Nat.add_zero, h]
  rfl
theorem turned_next {Q : List (Int × Int)} {m : Nat} {q : Int × Int} (h : Q[m]? = some q) : (turned Q m).set m (rsp (ofSp q)) = turned Q (m + 1) := by
  obtain ⟨hm, rfl⟩ := List.getElem?_eq_some_iff.1 h
  unfold turned
  rw [List.set_append_right _ _ (by rw [List.length_map, List.length_take]; omega), List.length_map, List.length_take, Nat.min_eq_left (by omega), Nat.sub_self, List.drop_eq_getElem_cons hm, List.map_cons, List.set_cons_zero, List.take_succ_eq_append_getElem hm, List.map_append, List.append_assoc]
  rfl
/-- Twelve stores at a span's place. -/
def set12 (xs : List Value) (p : Nat) (r : RS) : List Value := (((((((((((xs.set p (.bool r.hl)).set (p + 1) (.bool r.hh)).set (p + 2) (.bool r.gl)).set (p + 3) (.int .u64 (lb 0 r.xl))).set (p + 4) (.int .u64 (lb 1 r.xl))).set (p + 5) (.int .u64 (lb 2 r.xl))).set (p + 6) (.int .u64 (lb 3 r.xl))).set (p + 7) (.bool r.gh)).set (p + 8) (.int .u64 (lb 0 r.xh))).set (p + 9) (.int .u64 (lb 1 r.xh))).set (p + 10) (.int .u64 (lb 2 r.xh))).set (p + 11) (.int .u64 (lb 3 r.xh))
theorem set12_cs : ∀ {l : List RS} {m : Nat} (r : RS), m < l.length → set12 (csS l) (m * 12) r = csS (l.set m r)
  | [], m, r, h => absurd h (by simp)
  | a :: l, 0, r, _ => by
    have e : csS (a :: l) = a.cells ++ csS l := by unfold csS; rw [List.flatMap_cons]
    have e2 : csS ((a :: l).set 0 r) = r.cells ++ csS l := by unfold csS; rw [List.set_cons_zero, List.flatMap_cons]
    rw [e, e2]
    unfold set12 RS.cells
    rfl
  | a :: l, m + 1, r, h => by
    have e : csS (a :: l) = a.cells ++ csS l := by unfold csS; rw [List.flatMap_cons]
    have e2 : csS ((a :: l).set (m + 1) r) = a.cells ++ csS (l.set m r) := by unfold csS; rw [List.set_cons_succ, List.flatMap_cons]
    rw [e, e2, ← set12_cs r (by simpa using h)]
    unfold set12
    have key : ∀ (j : Nat) (ys : List Value) (u : Value), (a.cells ++ ys).set ((m + 1) * 12 + j) u = a.cells ++ ys.set (m * 12 + j) u := by
      intro j ys u
      rw [List.set_append_right _ _ (by rw [RS.cells_length]; omega), RS.cells_length, show (m + 1) * 12 + j - 12 = m * 12 + j by omega]
    have key0 : ∀ (ys : List Value) (u : Value), (a.cells ++ ys).set ((m + 1) * 12) u = a.cells ++ ys.set (m * 12) u := fun ys u => key 0 ys u
    rw [key0, key, key, key, key, key, key, key, key, key, key, key]
theorem own_set12 {W : World} {base g n cap c p : Nat} {e : TypeId} {sz : Nat} {xs : List Value} (r : RS) (h : W.ownsRow base e sz (.slice (some ⟨g, 0, none⟩) n cap) c xs) :
    ((((((((((((W.setCell ⟨g, p, none⟩ (.bool r.hl)).setCell ⟨g, p + 1, none⟩ (.bool r.hh)).setCell ⟨g, p + 2, none⟩ (.bool r.gl)).setCell ⟨g, p + 3, none⟩ (.int .u64 (lb 0 r.xl))).setCell ⟨g, p + 4, none⟩ (.int .u64 (lb 1 r.xl))).setCell ⟨g, p + 5, none⟩ (.int .u64 (lb 2 r.xl))).setCell ⟨g, p + 6, none⟩ (.int .u64 (lb 3 r.xl))).setCell ⟨g, p + 7, none⟩ (.bool r.gh)).setCell ⟨g, p + 8, none⟩ (.int .u64 (lb 0 r.xh))).setCell ⟨g, p + 9, none⟩ (.int .u64 (lb 1 r.xh))).setCell ⟨g, p + 10, none⟩ (.int .u64 (lb 2 r.xh))).setCell ⟨g, p + 11, none⟩ (.int .u64 (lb 3 r.xh))).ownsRow base e sz (.slice (some ⟨g, 0, none⟩) n cap) c (set12 xs p r) :=
  own_put9 (own_put9 (own_put9 (own_put9 (own_put9 (own_put9 (own_put9 (own_put9 (own_put9 (own_put9 (own_put9 (own_put9 h _ _) _ _) _ _) _ _) _ _) _ _) _ _) _ _) _ _) _ _) _ _) _ _
theorem row_of {W : World} {base : Nat} {v : Value} {l : List RS} (h : Bs W base v l) (hl : 0 < l.length) : ∃ g cap, v = .slice (some ⟨g, 0, none⟩) l.length cap ∧ W.ownsRow base 37 12 (.slice (some ⟨g, 0, none⟩) l.length cap) l.length (csS l) := by
  have h2 := h
  rcases h.2 with ⟨h3, h4⟩ | ⟨g, cap, cur, h3, _⟩
  · omega
  · unfold Bs at h2
    rw [h3] at h2
    exact ⟨g, cap, h3, h2⟩
theorem last_or {α : Type} (Q : List α) : Q = [] ∨ ∃ Q0 p, Q = Q0 ++ [p] := by
  rcases List.eq_nil_or_concat Q with h | ⟨Q0, p, h⟩
  · exact .inl h
  · exact .inr ⟨Q0, p, by simpa using h⟩
/-- What has been put in so far. -/
structure Put (W : World) (base : Nat) (v : Value) (L : List (Int × Int)) (f : Int → Bool) (k : Nat) : Prop where
  row : Bs W base v (L.map rawp)
  srt : Srt L
  mem : ∀ x, memP L x = f x
  len : L.length ≤ k
  nil : L = [] → v = .slice none 0 0
theorem Put.keep {W W' : World} {base k : Nat} {v : Value} {L : List (Int × Int)} {f : Int → Bool} (h : Put W base v L f k) (hb : Below W.heap.size W W') : Put W' base v L f k := ⟨h.row.keep hb, h.srt, h.mem, h.len, h.nil⟩
theorem rawp_cells (lo hi : Int) : (rawp (lo, hi)).cells = [.bool false, .bool false, .bool (decide (lo < 0)), .int .u64 (lb 0 lo.natAbs), .int .u64 (lb 1 lo.natAbs), .int .u64 (lb 2 lo.natAbs), .int .u64 (lb 3 lo.natAbs), .bool (decide (hi < 0)), .int .u64 (lb 0 hi.natAbs), .int .u64 (lb 1 hi.natAbs), .int .u64 (lb 2 hi.natAbs), .int .u64 (lb 3 hi.natAbs)] := rfl
theorem put_row {W : World} {base m n c : Nat} {v : Value} {L : List (Int × Int)} {lo hi : Int} {xs : List Value} (h : W.ownsRow base 37 12 v c xs) (hx : xs = csS ((L.map rawp).take m) ++ (rawp (lo, hi)).cells ++ csS ((L.map rawp).drop m)) (hn : L.length = n) (hc : c = n + 1) : Bs W base v ((L.take m ++ ((lo, hi) :: L.drop m)).map rawp) := by
  have e : csS ((L.take m ++ ((lo, hi) :: L.drop m)).map rawp) = xs := by
    rw [hx, List.map_append, List.map_cons, csS_app, List.map_take, List.map_drop, List.append_assoc]
    congr 1
  have el : ((L.take m ++ ((lo, hi) :: L.drop m)).map rawp).length = c := by
    rw [List.length_map, List.length_append, List.length_cons, List.length_take, List.length_drop]
    omega
  unfold Bs
  rw [e, el]
  exact h
theorem put_new {A : List Sp} {L : List (Int × Int)} {k m : Nat} {W : World} {base : Nat} {v : Value} {lo hi : Int} {f : Int → Bool} (hS : Srt L) (hM : ∀ x, memP L x = f x) (hk : L.length ≤ k) (hm : m ≤ L.length) (h1 : ∀ j q, L[j]? = some q → m ≤ j → lo < q.1) (h2 : ∀ q, 0 < m → L[m - 1]? = some q → q.1 ≤ lo) (hr : -topM ≤ lo ∧ lo ≤ hi ∧ hi ≤ topM)
    (hT : ∀ x, memS (A.take (k + 1)) x = (f x || (decide (lo ≤ x) && decide (x ≤ hi)))) (hO : Bs W base v ((L.take m ++ ((lo, hi) :: L.drop m)).map rawp)) : Put W base v (L.take m ++ ((lo, hi) :: L.drop m)) (memS (A.take (k + 1))) (k + 1) := by
  refine ⟨hO, hS.put hr hm h1 h2, fun x => ?_, by rw [List.length_append, List.length_cons, List.length_take, List.length_drop]; omega, fun h => by simp at h⟩
  rw [put_mem, hM, hT, memP_one]
theorem memS_take {A : List Sp} {k : Nat} {s : Sp} (h : A[k]? = some s) (x : Int) : memS (A.take (k + 1)) x = (memS (A.take k) x || (decide (loE s ≤ x) && decide (x ≤ hiE s))) := by
  unfold memS
  rw [any_take9 h]

set_option maxRecDepth 400000 in
set_option maxHeartbeats 16000000 in
/-- The place where a pair is put in: what the inner loop looks for. -/
theorem norm_one (la : Option Addr) (lca : Nat) (A : List Sp) (w0 : World) (hA : In9 w0 (.slice la A.length lca) A) (a30 : A.length ≤ 30) :
    Calls Tryz.prog 21 #[.slice la A.length lca] w0 (Sets w0 (fun x => memS A x) A.length) := by
  obtain ⟨i0, hi0, hz0, hz1, hz2⟩ := info9 info_span
  have KM := Lib.hid (rmay_in hA)
  obtain ⟨la1, lc1, ba, offa, ev, hlA, _, _, hR, _⟩ := hA
  obtain ⟨rfl, rfl⟩ : la = la1 ∧ lca = lc1 := by injection ev; exact ⟨by assumption, by assumption⟩
  have HLA := Lib.hid hlA; have HR := Lib.hid hR
  clear hlA hR ev
  go_enter Tryz.func21, Tryz.ntmps21
  go_wp2_with fail
  ((with_reducible refine (KM.out _ (Below.refl _ _)).mono ?_); rintro e w1 ⟨rfl, hb⟩)
  have B1 := Lib.hid hb
  clear hb
  go_wp2
  go_loopw [3, 4] (fun v i wr => ∃ (k : Nat) (L : List (Int × Int)), k ≤ A.length ∧ i = .int .i64 k ∧ Hid (Below w0.heap.size w0 wr) ∧ Hid (Put wr w0.heap.size v L (memS (A.take k)) k)) (fun _ i _ => A.length - (intOf i).toNat)
  case atStart => exact ⟨0, [], Nat.zero_le _, rfl, B1.out, ⟨Bs.nil _ _, Srt.nil, fun x => rfl, Nat.le_refl _, fun _ => rfl⟩⟩
  case round =>
    obtain ⟨k, L, hk, rfl, BW, PU⟩ := hrel
    by_cases hlt : k < A.length
    · obtain ⟨wo, rfl⟩ : ∃ wo : World, wo = wr := ⟨_, rfl⟩
      obtain ⟨s, hs, hm⟩ : ∃ s, A[k]? = some s ∧ s ∈ A := ⟨A[k], List.getElem?_eq_getElem hlt, List.getElem_mem hlt⟩
      have hr := (HLA.out.cells k (rsp s) (by rw [List.getElem?_map, hs]; rfl)).keep BW.out
      obtain rfl : la = some ⟨ba, offa, none⟩ := HLA.out.la (by rw [List.length_map]; omega)
      have hlo := (HR.out s hm).lo
      have hhi := (HR.out s hm).hi
      have MT := Lib.hid (memS_take hs)
      have k3 := fun W => rends_any s W
      obtain ⟨lo, hlov⟩ : ∃ lo, loE s = lo := ⟨_, rfl⟩
      obtain ⟨hi, hhiv⟩ : ∃ hi, hiE s = hi := ⟨_, rfl⟩
      rw [hlov] at hlo k3 MT
      rw [hhiv] at hhi k3 MT
      have hlo' := inR_abs.1 hlo; have hhi' := inR_abs.1 hhi
      have HLO := Lib.hid hlo; have HHI := Lib.hid hhi
      have KC : Hid (∀ W, Calls Tryz.prog 23 #[.agg #[.bool (decide (lo < 0)), .int .u64 (lb 0 (lo).natAbs), .int .u64 (lb 1 (lo).natAbs), .int .u64 (lb 2 (lo).natAbs), .int .u64 (lb 3 (lo).natAbs)], .agg #[.bool (decide (hi < 0)), .int .u64 (lb 0 (hi).natAbs), .int .u64 (lb 1 (hi).natAbs), .int .u64 (lb 2 (hi).natAbs), .int .u64 (lb 3 (hi).natAbs)]] W fun e w' => e = .returned (.int .i64 (cmpv lo hi)) ∧ Below W.heap.size W w') := Lib.hid (fun W => rcmpint_z _ _ hlo' hhi' W)
      obtain ⟨sl, sh, gl, xl, gh, xh, hrs⟩ : ∃ hl hh gl xl gh xh, rsp s = ⟨hl, hh, gl, xl, gh, xh⟩ := ⟨_, _, _, _, _, _, rfl⟩
      rw [hrs] at hr k3
      simp only [RS.val] at k3
      have K3 : Hid (∀ W, Calls Tryz.prog 22 #[V12 sl sh gl (lb 0 xl) (lb 1 xl) (lb 2 xl) (lb 3 xl) gh (lb 0 xh) (lb 1 xh) (lb 2 xh) (lb 3 xh)] W fun e w' => e = .returned (.tuple #[.agg #[.bool (decide (lo < 0)), .int .u64 (lb 0 (lo).natAbs), .int .u64 (lb 1 (lo).natAbs), .int .u64 (lb 2 (lo).natAbs), .int .u64 (lb 3 (lo).natAbs)], .agg #[.bool (decide (hi < 0)), .int .u64 (lb 0 (hi).natAbs), .int .u64 (lb 1 (hi).natAbs), .int .u64 (lb 2 (hi).natAbs), .int .u64 (lb 3 (hi).natAbs)]]) ∧ Below W.heap.size W w') := Lib.hid k3
      obtain ⟨c0, c1, c2, c3, c4, c5, c6, c7, c8, c9, c10, c11⟩ := hr.twelve
      clear hr hs hm k3 hlov hhiv hrs hlo hhi hlo' hhi'
      go_wp2_with fail
      ((with_reducible refine (K3.out _).mono ?_); rintro e w3 ⟨rfl, hb⟩)
      have X3 := Row5.alloc (Row5.new w3 (.bool (decide (lo < 0))) (.int .u64 (lb 0 (lo).natAbs)) (.int .u64 (lb 1 (lo).natAbs)) (.int .u64 (lb 2 (lo).natAbs)) (.int .u64 (lb 3 (lo).natAbs))) (.cells #[.bool (decide (hi < 0)), .int .u64 (lb 0 (hi).natAbs), .int .u64 (lb 1 (hi).natAbs), .int .u64 (lb 2 (hi).natAbs), .int .u64 (lb 3 (hi).natAbs)] 29)
      have Y3 := Row5.new (w3.alloc (.cells #[.bool (decide (lo < 0)), .int .u64 (lb 0 (lo).natAbs), .int .u64 (lb 1 (lo).natAbs), .int .u64 (lb 2 (lo).natAbs), .int .u64 (lb 3 (lo).natAbs)] 29)) (.bool (decide (hi < 0))) (.int .u64 (lb 0 (hi).natAbs)) (.int .u64 (lb 1 (hi).natAbs)) (.int .u64 (lb 2 (hi).natAbs)) (.int .u64 (lb 3 (hi).natAbs))
      rw [size_alloc9] at Y3
      have B3 := Lib.hid (bal (bal (btr (Below.refl wo.heap.size wo) hb) (.cells #[.bool (decide (lo < 0)), .int .u64 (lb 0 (lo).natAbs), .int .u64 (lb 1 (lo).natAbs), .int .u64 (lb 2 (lo).natAbs), .int .u64 (lb 3 (lo).natAbs)] 29)) (.cells #[.bool (decide (hi < 0)), .int .u64 (lb 0 (hi).natAbs), .int .u64 (lb 1 (hi).natAbs), .int .u64 (lb 2 (hi).natAbs), .int .u64 (lb 3 (hi).natAbs)] 29))
      clear hb c0 c1 c2 c3 c4 c5 c6 c7 c8 c9 c10 c11
      go_wp2_with fail
      ((with_reducible refine (KC.out _).mono ?_); rintro e w4 ⟨rfl, hb⟩)
      have X4 := Lib.hid (X3.keep hb)
      have Y4 := Lib.hid (Y3.keep hb)
      have B4 := Lib.hid (btr B3.out hb)
      have PU4 := Lib.hid (PU.out.keep B4.out)
      have BW4 := Lib.hid (btr BW.out B4.out)
      clear hb X3 Y3
      by_cases hem : hi < lo
      · have hc : 0 < cmpv lo hi := by unfold cmpv; split <;> (try split) <;> omega
        have PN : Hid (Put w4 w0.heap.size u3 L (memS (A.take (k + 1))) (k + 1)) := Lib.hid ⟨PU4.out.row, PU4.out.srt, fun x => by rw [MT.out, PU4.out.mem]; by_cases h1 : lo ≤ x <;> by_cases h2 : x ≤ hi <;> simp [h1, h2]; omega, Nat.le_succ_of_le PU4.out.len, PU4.out.nil⟩
        go_wp2
        go_roundw
        case rel => exact ⟨k + 1, L, by omega, by go_num, BW4.out, PN.out⟩
        case measure => simp [intOf]; omega
      · have hc : ¬ 0 < cmpv lo hi := by unfold cmpv; split <;> (try split) <;> omega
        obtain ⟨la3, lc3, b3, hv3, hL3, hn3, hm3, hx3⟩ := PU4.out.row.form
        rw [List.length_map] at hv3 hn3
        subst hv3
        have HL3 := Lib.hid hL3; have HX3 := Lib.hid hx3
        have hLk : L.length ≤ 30 := by have := PU4.out.len; omega
        clear hL3 hx3
        go_wp2
        go_loopw [7] (fun i wr => ∃ m : Nat, m ≤ L.length ∧ i = .int .i64 m ∧ Hid (Below w4.heap.size w4 wr) ∧ Hid (∀ j q, L[j]? = some q → m ≤ j → lo < q.1)) (fun i _ => (intOf i).toNat)
        case atStart => exact ⟨L.length, Nat.le_refl _, rfl, Below.refl _ _, (show Hid _ from fun j q hq hj => by have := (List.getElem?_eq_some_iff.1 hq).1; omega)⟩
        case round =>
          obtain ⟨m, hm, rfl, BX, HI⟩ := hrel
          have hXr := X4.out.keep BX.out
          obtain ⟨p0, p1, p2, p3, p4⟩ := hXr.parts
          by_cases h0 : 0 < m
          · obtain ⟨q, hq⟩ : ∃ q, L[m - 1]? = some q := ⟨L[m - 1]'(by omega), List.getElem?_eq_getElem (by omega)⟩
            have hqr := (HL3.out.cells (m - 1) (rawp q) (by rw [List.getElem?_map, hq]; rfl)).keep BX.out
            obtain rfl : la3 = some ⟨b3, 0, none⟩ := HL3.out.la (by rw [List.length_map]; omega)
            have hqR := PU4.out.srt.rng q (List.mem_of_getElem? hq)
            unfold rawp at hqr
            rw [Nat.zero_add] at hqr
            obtain ⟨m', rfl⟩ : ∃ m', m = m' + 1 := ⟨m - 1, by omega⟩
            rw [Nat.add_sub_cancel] at hqr hq
            obtain ⟨d0, d1, d2, d3, d4, d5', d6, d7, d8, d9, d10, d11⟩ := hqr.twelve
            have hq' : q.1.natAbs < 2 ^ 256 := inR_abs.1 (by unfold inR; omega)
            have KQ : Hid (∀ W, Calls Tryz.prog 23 #[.agg #[.bool (decide (q.1 < 0)), .int .u64 (lb 0 (q.1).natAbs), .int .u64 (lb 1 (q.1).natAbs), .int .u64 (lb 2 (q.1).natAbs), .int .u64 (lb 3 (q.1).natAbs)], .agg #[.bool (decide (lo < 0)), .int .u64 (lb 0 (lo).natAbs), .int .u64 (lb 1 (lo).natAbs), .int .u64 (lb 2 (lo).natAbs), .int .u64 (lb 3 (lo).natAbs)]] W fun e w' => e = .returned (.int .i64 (cmpv q.1 lo)) ∧ Below W.heap.size W w') := Lib.hid (fun W => rcmpint_z _ _ hq' (inR_abs.1 HLO.out) W)
            have HQ := Lib.hid hq
            have g1 : decide ((0 : Int) < (m' : Int) + 1) = true := decide_eq_true (by omega)
            have g2 : (0 : Int) ≤ (m' : Int) := by omega
            have g3 : (m' : Int) < (L.length : Int) := by omega
            clear hqr hq hqR hq' d0 d1 d7 d8 d9 d10 d11 hXr
            by_cases hcq : lo < q.1
            · have hcc : (0 : Int) < cmpv q.1 lo := by unfold cmpv; split <;> (try split) <;> omega
              go_upto_region 10 with (fail)
              have zp0 := cell_regrown p0; have zp1 := cell_regrown p1; have zp2 := cell_regrown p2; have zp3 := cell_regrown p3; have zp4 := cell_regrown p4
              have zd2 := cell_regrown d2; have zd3 := cell_regrown d3; have zd4 := cell_regrown d4; have zd5 := cell_regrown d5'; have zd6 := cell_regrown d6
              clear p0 p1 p2 p3 p4 d2 d3 d4 d5' d6
              have cq0 := fun (d : Nat) (os : Array Obj) => Calls.regrown_of (w := wr) (d := d) (os := os) (KQ.out _)
              refine wp_region_quiet_below (by kernel_rfl) (by kernel_rfl) ?_
              repeat (first | go_big_quiet_step ((first | with_reducible exact cq0 _ _)) | quiet_step (first | with_reducible exact cq0 _ _))
              refine wpQuiet_nil ?_
              intro _ hw'
              obtain ⟨⟨dq, osq⟩, hw''⟩ := hw'
              subst hw''
              clear zp0 zp1 zp2 zp3 zp4 zd2 zd3 zd4 zd5 zd6 cq0
              have BY := Lib.hid (btr BX.out (below_regrown wr dq osq))
              generalize grow (redrawn wr dq) osq = w9 at *
              go_wp2
              go_roundw
              case rel => exact ⟨m', by omega, by go_num, BY.out, (show Hid _ from fun j q' hq'' hj => by by_cases e : j = m'; (subst e; rw [HQ.out] at hq''; cases hq''; exact hcq); exact HI.out j q' hq'' (by omega))⟩
              case measure => (simp [intOf] <;> omega)
            · have hcc : ¬ (0 : Int) < cmpv q.1 lo := by unfold cmpv; split <;> (try split) <;> omega
              go_upto_region 10 with (fail)
              have zp0 := cell_regrown p0; have zp1 := cell_regrown p1; have zp2 := cell_regrown p2; have zp3 := cell_regrown p3; have zp4 := cell_regrown p4
              have zd2 := cell_regrown d2; have zd3 := cell_regrown d3; have zd4 := cell_regrown d4; have zd5 := cell_regrown d5'; have zd6 := cell_regrown d6
              clear p0 p1 p2 p3 p4 d2 d3 d4 d5' d6
              have cq0 := fun (d : Nat) (os : Array Obj) => Calls.regrown_of (w := wr) (d := d) (os := os) (KQ.out _)
              refine wp_region_quiet_below (by kernel_rfl) (by kernel_rfl) ?_
              repeat (first | go_big_quiet_step ((first | with_reducible exact cq0 _ _)) | quiet_step (first | with_reducible exact cq0 _ _))
              refine wpQuiet_nil ?_
              intro _ hw'
              obtain ⟨⟨dq, osq⟩, hw''⟩ := hw'
              subst hw''
              clear zp0 zp1 zp2 zp3 zp4 zd2 zd3 zd4 zd5 zd6 cq0
              have BY := Lib.hid (btr BX.out (below_regrown wr dq osq))
              generalize grow (redrawn wr dq) osq = w9 at *
              have HQL : Hid (∀ q', 0 < m' + 1 → L[m' + 1 - 1]? = some q' → q'.1 ≤ lo) := Lib.hid (fun q' _ hq'' => by rw [Nat.add_sub_cancel, HQ.out] at hq''; cases hq''; omega)
              have HRG : Hid (-topM ≤ lo ∧ lo ≤ hi ∧ hi ≤ topM) := Lib.hid ⟨HLO.out.1, by omega, HHI.out.2⟩
              by_cases hmn : m' + 1 < L.length
              · have j1 : ((m' + 1 : Nat) : Int) < (L.length : Int) := by omega
                have j2 : (L.length : Int) ≤ (lc3 : Int) := by omega
                have j3 : ((m' : Int) + 1) ≤ (L.length : Int) := by omega
                have j4 : ¬ lc3 = m' + 1 := by omega
                have j0 : (0 : Int) ≤ (m' : Int) + 1 := by omega
                have j5 : (m' : Int) + 1 ≤ (lc3 : Int) := by omega
                have j6 : ((m' : Int) + 1).toNat = m' + 1 := by omega
                have XA := X4.out.keep BY.out; have YA := Y4.out.keep BY.out
                have HOA := Lib.hid (own_keep9 PU4.out.row BY.out)
                have HLS := Lib.hid (HL3.out.keep BY.out)
                have BWB := Lib.hid (btr BW4.out BY.out)
                have hszb : w0.heap.size ≤ w9.heap.size := BWB.out.size
                have RC : Hid ((rawp (lo, hi)).cells = [.bool false, .bool false, .bool (decide (lo < 0)), .int .u64 (lb 0 lo.natAbs), .int .u64 (lb 1 lo.natAbs), .int .u64 (lb 2 lo.natAbs), .int .u64 (lb 3 lo.natAbs), .bool (decide (hi < 0)), .int .u64 (lb 0 hi.natAbs), .int .u64 (lb 1 hi.natAbs), .int .u64 (lb 2 hi.natAbs), .int .u64 (lb 3 hi.natAbs)]) := Lib.hid rfl
                go_upto_region 12 with (fail)
                first | (go_region_held3 (fun w' => w'.cell? ⟨w3.heap.size, 0, none⟩ = some (.bool (decide (lo < 0))) ∧ w'.cell? ⟨w3.heap.size, 1, none⟩ = some (.int .u64 (lb 0 lo.natAbs)) ∧ w'.cell? ⟨w3.heap.size, 2, none⟩ = some (.int .u64 (lb 1 lo.natAbs)) ∧ w'.cell? ⟨w3.heap.size, 3, none⟩ = some (.int .u64 (lb 2 lo.natAbs)) ∧ w'.cell? ⟨w3.heap.size, 4, none⟩ = some (.int .u64 (lb 3 lo.natAbs)) ∧ w'.cell? ⟨w3.heap.size + 1, 0, none⟩ = some (.bool (decide (hi < 0))) ∧ w'.cell? ⟨w3.heap.size + 1, 1, none⟩ = some (.int .u64 (lb 0 hi.natAbs)) ∧ w'.cell? ⟨w3.heap.size + 1, 2, none⟩ = some (.int .u64 (lb 1 hi.natAbs)) ∧ w'.cell? ⟨w3.heap.size + 1, 3, none⟩ = some (.int .u64 (lb 2 hi.natAbs)) ∧ w'.cell? ⟨w3.heap.size + 1, 4, none⟩ = some (.int .u64 (lb 3 hi.natAbs))) ((refine tenX (XA.keep ?_) (YA.keep ?_) <;> (repeat (first | (with_reducible exact BF3.out) | (with_reducible exact BF2.out) | (with_reducible exact BF1.out) | (with_reducible exact Below.refl _ _) | (with_reducible refine bal ?_ _) | (with_reducible refine Below.drew ?_) | (with_reducible refine bdn ?_ _))); done)) (first | (refine step_append_lies _ (by rfl) _ _ _ (by rfl) w9.heap.size 37 i0 _ 12 88 und_spans hi0 hz0 hz1 hz2 rfl (by omega) (.slice (some ⟨_, 0, none⟩) 0 0) 0 [] (by rfl) (by repeat (first | (exact own_emptyB _ _ _ _ _ (by simp) (by simp <;> omega)) | (with_reducible refine World.ownsRow.alloc ?_ _) | (with_reducible refine World.ownsRow.drew ?_))) ⟨b3, 0, none⟩ (m' + 1) lc3 (csS ((L.map rawp).take (m' + 1))) (by first | rfl | (simp [Act.eval]; done)) (by rw [csS_len, List.length_take, List.length_map, Nat.min_eq_left (by omega)]) (((HLS.out.take (m' + 1)).keep (by repeat (first | (with_reducible exact BF3.out) | (with_reducible exact BF2.out) | (with_reducible exact BF1.out) | (with_reducible exact Below.refl _ _) | (with_reducible refine bal ?_ _) | (with_reducible refine Below.drew ?_) | (with_reducible refine bdn ?_ _)))).news) (csS_one _) (by omega) (by unfold maxLen; omega) (by omega) (by simp <;> omega) _ rfl ?_; intro g1 cap1 w5 hown1 hgr1 hat1 hlt1; have HO1 : Hid (w5.ownsRow w9.heap.size 37 12 (.slice (some ⟨g1, 0, none⟩) (m' + 1) cap1) (m' + 1) (csS ((L.map rawp).take (m' + 1)))) := Lib.hid (by rw [Nat.zero_add, List.nil_append] at hown1; exact hown1); have BF1 : Hid (Below w9.heap.size w9 w5) := Lib.hid (Below.grown (by repeat (first | (with_reducible exact BF3.out) | (with_reducible exact BF2.out) | (with_reducible exact BF1.out) | (with_reducible exact Below.refl _ _) | (with_reducible refine bal ?_ _) | (with_reducible refine Below.drew ?_) | (with_reducible refine bdn ?_ _))) hgr1 (by simp <;> omega) (by intro q hq; cases hq; (simp <;> omega))); have HC1 := Lib.hid hgr1; clear hown1 hgr1 hat1 hlt1) | (refine step_append_lies _ (by rfl) _ _ _ (by rfl) w9.heap.size 37 i0 _ 12 88 und_spans hi0 hz0 hz1 hz2 rfl (by omega) (.slice (some ⟨g1, 0, none⟩) (m' + 1) cap1) (m' + 1) _ (by first | rfl | (simp [Act.eval]; done)) (own_keep9 HO1.out (by repeat (first | (with_reducible exact Below.refl _ _) | (with_reducible refine bal ?_ _) | (with_reducible refine Below.drew ?_)))) ⟨_, 0, none⟩ 1 1 [.bool false, .bool false, .bool (decide (lo < 0)), .int .u64 (lb 0 lo.natAbs), .int .u64 (lb 1 lo.natAbs), .int .u64 (lb 2 lo.natAbs), .int .u64 (lb 3 lo.natAbs), .bool (decide (hi < 0)), .int .u64 (lb 0 hi.natAbs), .int .u64 (lb 1 hi.natAbs), .int .u64 (lb 2 hi.natAbs), .int .u64 (lb 3 hi.natAbs)] (by first | rfl | (simp [Act.eval]; done)) (by rfl) (by refine news_pr (lo := lo) (hi := hi) ?_; repeat (first | (exact hnew (by simp)) | (refine hold ?_) | (refine hgrn HC1.out ?_ (by simp [Value.ownBlock])))) (by rw [← RC.out]; exact RS.cells_one _) (by decide) (by unfold maxLen; omega) (by omega) (by first | (have := BF1.out.size; simp <;> omega) | (simp <;> omega)) _ rfl ?_; intro g2 cap2 w6 hown2 hgr2 hat2 hlt2; have HO2 : Hid (w6.ownsRow w9.heap.size 37 12 (.slice (some ⟨g2, 0, none⟩) ((m' + 1) + 1) cap2) ((m' + 1) + 1) (csS ((L.map rawp).take (m' + 1)) ++ (rawp (lo, hi)).cells)) := Lib.hid (by rw [RC.out]; exact hown2); have BF2 : Hid (Below w9.heap.size w9 w6) := Lib.hid (Below.grown (by repeat (first | (with_reducible exact BF3.out) | (with_reducible exact BF2.out) | (with_reducible exact BF1.out) | (with_reducible exact Below.refl _ _) | (with_reducible refine bal ?_ _) | (with_reducible refine Below.drew ?_) | (with_reducible refine bdn ?_ _))) hgr2 (by first | (have := BF1.out.size; simp <;> omega) | (simp <;> omega)) (by intro q hq; first | exact (own_base9 HO1.out q hq).1 | (cases hq; simp))); have hcap2 : ((m' + 1) + 1) ≤ cap2 := own_cap9 HO2.out; clear hown2 hgr2 hat2 hlt2) | (refine step_append_lies _ (by rfl) _ _ _ (by rfl) w9.heap.size 37 i0 _ 12 88 und_spans hi0 hz0 hz1 hz2 rfl (by omega) (.slice (some ⟨g2, 0, none⟩) ((m' + 1) + 1) cap2) ((m' + 1) + 1) _ (by first | rfl | (simp [Act.eval]; done)) HO2.out ⟨b3, (m' + 1) * 12, none⟩ (L.length - (m' + 1)) (lc3 - (m' + 1)) (csS ((L.map rawp).drop (m' + 1))) (by first | rfl | (simp [Act.eval]; done)) (by rw [csS_len, List.length_drop, List.length_map]) (by have := ((HLS.out.drop (m' + 1)).keep (by repeat (first | (with_reducible exact BF3.out) | (with_reducible exact BF2.out) | (with_reducible exact BF1.out) | (with_reducible exact Below.refl _ _) | (with_reducible refine bal ?_ _) | (with_reducible refine Below.drew ?_) | (with_reducible refine bdn ?_ _)))).news; first | exact this | (rw [Nat.zero_add] at this; exact this)) (csS_one _) (by omega) (by unfold maxLen; omega) (by omega) BF2.out.size _ rfl ?_; intro g3 cap3 w7 hown3 hgr3 hat3 hlt3; have HO3 := Lib.hid hown3; have BF3 : Hid (Below w9.heap.size w9 w7) := Lib.hid (Below.grown BF2.out hgr3 BF2.out.size (fun q hq => (own_base9 HO2.out q hq).1)); clear hown3 hgr3 hat3 hlt3) | fail)) | fail
                all_goals
                  have PN : Hid (Put w7 w0.heap.size _ (L.take (m' + 1) ++ ((lo, hi) :: L.drop (m' + 1))) (memS (A.take (k + 1))) (k + 1)) := Lib.hid (put_new (A := A) PU4.out.srt PU4.out.mem PU4.out.len (by omega) HI.out HQL.out HRG.out MT.out (own_mono9 (put_row HO3.out (rfl) rfl (by omega)) hszb))
                  have BN := Lib.hid (btr BWB.out BF3.out)
                  go_wp2
                  go_roundw
                  case rel => exact ⟨k + 1, _, by omega, by go_num, BN.out, PN.out⟩
                  case measure => simp [intOf]; omega
              · by_cases hcap : lc3 = m' + 1
                · subst hcap
                  have hnl : L.length = m' + 1 := by omega
                  have HNL := Lib.hid hnl
                  have hmL : m' + 1 ≤ L.length := by omega
                  have j0 : (0 : Int) ≤ (m' : Int) + 1 := by omega
                  have j6 : ((m' : Int) + 1).toNat = m' + 1 := by omega
                  have HM30 : Hid (m' + 1 ≤ 30) := Lib.hid (by omega)
                  simp only [hnl]
                  clear hnl hmn hmL
                  have hm30 := HM30.out
                  clear hLk hm g3
                  have XA := X4.out.keep BY.out; have YA := Y4.out.keep BY.out
                  have HOA := Lib.hid (own_keep9 PU4.out.row BY.out)
                  have HLS := Lib.hid (HL3.out.keep BY.out)
                  have BWB := Lib.hid (btr BW4.out BY.out)
                  have hszb : w0.heap.size ≤ w9.heap.size := BWB.out.size
                  have RC : Hid ((rawp (lo, hi)).cells = [.bool false, .bool false, .bool (decide (lo < 0)), .int .u64 (lb 0 lo.natAbs), .int .u64 (lb 1 lo.natAbs), .int .u64 (lb 2 lo.natAbs), .int .u64 (lb 3 lo.natAbs), .bool (decide (hi < 0)), .int .u64 (lb 0 hi.natAbs), .int .u64 (lb 1 hi.natAbs), .int .u64 (lb 2 hi.natAbs), .int .u64 (lb 3 hi.natAbs)]) := Lib.hid rfl
                  go_upto_region 12 with (fail)
                  first | (go_region_held3 (fun w' => w'.cell? ⟨w3.heap.size, 0, none⟩ = some (.bool (decide (lo < 0))) ∧ w'.cell? ⟨w3.heap.size, 1, none⟩ = some (.int .u64 (lb 0 lo.natAbs)) ∧ w'.cell? ⟨w3.heap.size, 2, none⟩ = some (.int .u64 (lb 1 lo.natAbs)) ∧ w'.cell? ⟨w3.heap.size, 3, none⟩ = some (.int .u64 (lb 2 lo.natAbs)) ∧ w'.cell? ⟨w3.heap.size, 4, none⟩ = some (.int .u64 (lb 3 lo.natAbs)) ∧ w'.cell? ⟨w3.heap.size + 1, 0, none⟩ = some (.bool (decide (hi < 0))) ∧ w'.cell? ⟨w3.heap.size + 1, 1, none⟩ = some (.int .u64 (lb 0 hi.natAbs)) ∧ w'.cell? ⟨w3.heap.size + 1, 2, none⟩ = some (.int .u64 (lb 1 hi.natAbs)) ∧ w'.cell? ⟨w3.heap.size + 1, 3, none⟩ = some (.int .u64 (lb 2 hi.natAbs)) ∧ w'.cell? ⟨w3.heap.size + 1, 4, none⟩ = some (.int .u64 (lb 3 hi.natAbs))) ((refine tenX (XA.keep ?_) (YA.keep ?_) <;> (repeat (first | (with_reducible exact BF3.out) | (with_reducible exact BF2.out) | (with_reducible exact BF1.out) | (with_reducible exact Below.refl _ _) | (with_reducible refine bal ?_ _) | (with_reducible refine Below.drew ?_) | (with_reducible refine bdn ?_ _))); done)) (first | (refine step_append_lies _ (by rfl) _ _ _ (by rfl) w9.heap.size 37 i0 _ 12 88 und_spans hi0 hz0 hz1 hz2 rfl (by omega) (.slice (some ⟨_, 0, none⟩) 0 0) 0 [] (by rfl) (by repeat (first | (exact own_emptyB _ _ _ _ _ (by simp) (by simp <;> omega)) | (with_reducible refine World.ownsRow.alloc ?_ _) | (with_reducible refine World.ownsRow.drew ?_))) ⟨b3, 0, none⟩ (m' + 1) (m' + 1) (csS ((L.map rawp).take (m' + 1))) (by first | rfl | (simp [Act.eval]; done)) (by rw [csS_len, List.length_take, List.length_map, Nat.min_eq_left (by rw [HNL.out]; omega)]) (((HLS.out.take (m' + 1)).keep (by repeat (first | (with_reducible exact BF3.out) | (with_reducible exact BF2.out) | (with_reducible exact BF1.out) | (with_reducible exact Below.refl _ _) | (with_reducible refine bal ?_ _) | (with_reducible refine Below.drew ?_) | (with_reducible refine bdn ?_ _)))).news) (csS_one _) (by omega) (by unfold maxLen; omega) (by omega) (by simp <;> omega) _ rfl ?_; intro g1 cap1 w5 hown1 hgr1 hat1 hlt1; have HO1 : Hid (w5.ownsRow w9.heap.size 37 12 (.slice (some ⟨g1, 0, none⟩) (m' + 1) cap1) (m' + 1) (csS ((L.map rawp).take (m' + 1)))) := Lib.hid (by rw [Nat.zero_add, List.nil_append] at hown1; exact hown1); have BF1 : Hid (Below w9.heap.size w9 w5) := Lib.hid (Below.grown (by repeat (first | (with_reducible exact BF3.out) | (with_reducible exact BF2.out) | (with_reducible exact BF1.out) | (with_reducible exact Below.refl _ _) | (with_reducible refine bal ?_ _) | (with_reducible refine Below.drew ?_) | (with_reducible refine bdn ?_ _))) hgr1 (by simp <;> omega) (by intro q hq; cases hq; (simp <;> omega))); have HC1 := Lib.hid hgr1; clear hown1 hgr1 hat1 hlt1) | (refine step_append_lies _ (by rfl) _ _ _ (by rfl) w9.heap.size 37 i0 _ 12 88 und_spans hi0 hz0 hz1 hz2 rfl (by omega) (.slice (some ⟨g1, 0, none⟩) (m' + 1) cap1) (m' + 1) _ (by first | rfl | (simp [Act.eval]; done)) (own_keep9 HO1.out (by repeat (first | (with_reducible exact Below.refl _ _) | (with_reducible refine bal ?_ _) | (with_reducible refine Below.drew ?_)))) ⟨_, 0, none⟩ 1 1 [.bool false, .bool false, .bool (decide (lo < 0)), .int .u64 (lb 0 lo.natAbs), .int .u64 (lb 1 lo.natAbs), .int .u64 (lb 2 lo.natAbs), .int .u64 (lb 3 lo.natAbs), .bool (decide (hi < 0)), .int .u64 (lb 0 hi.natAbs), .int .u64 (lb 1 hi.natAbs), .int .u64 (lb 2 hi.natAbs), .int .u64 (lb 3 hi.natAbs)] (by first | rfl | (simp [Act.eval]; done)) (by rfl) (by refine news_pr (lo := lo) (hi := hi) ?_; repeat (first | (exact hnew (by simp)) | (refine hold ?_) | (refine hgrn HC1.out ?_ (by simp [Value.ownBlock])))) (by rw [← RC.out]; exact RS.cells_one _) (by decide) (by unfold maxLen; omega) (by omega) (by first | (have := BF1.out.size; simp <;> omega) | (simp <;> omega)) _ rfl ?_; intro g2 cap2 w6 hown2 hgr2 hat2 hlt2; have HO2 : Hid (w6.ownsRow w9.heap.size 37 12 (.slice (some ⟨g2, 0, none⟩) ((m' + 1) + 1) cap2) ((m' + 1) + 1) (csS ((L.map rawp).take (m' + 1)) ++ (rawp (lo, hi)).cells)) := Lib.hid (by rw [RC.out]; exact hown2); have BF2 : Hid (Below w9.heap.size w9 w6) := Lib.hid (Below.grown (by repeat (first | (with_reducible exact BF3.out) | (with_reducible exact BF2.out) | (with_reducible exact BF1.out) | (with_reducible exact Below.refl _ _) | (with_reducible refine bal ?_ _) | (with_reducible refine Below.drew ?_) | (with_reducible refine bdn ?_ _))) hgr2 (by first | (have := BF1.out.size; simp <;> omega) | (simp <;> omega)) (by intro q hq; first | exact (own_base9 HO1.out q hq).1 | (cases hq; simp))); have hcap2 : ((m' + 1) + 1) ≤ cap2 := own_cap9 HO2.out; clear hown2 hgr2 hat2 hlt2) | fail)) | fail
                  all_goals
                    have PN : Hid (Put w6 w0.heap.size _ (L.take (m' + 1) ++ ((lo, hi) :: L.drop (m' + 1))) (memS (A.take (k + 1))) (k + 1)) := Lib.hid (put_new (A := A) PU4.out.srt PU4.out.mem PU4.out.len (by rw [HNL.out]; omega) HI.out HQL.out HRG.out MT.out (own_mono9 (put_row HO2.out (by rw [List.drop_of_length_le (by rw [List.length_map, HNL.out]; omega), show csS ([] : List RS) = [] from rfl, List.append_nil]) rfl (by rw [HNL.out])) hszb))
                    have BN := Lib.hid (btr BWB.out BF2.out)
                    go_wp2
                    go_roundw
                    case rel => exact ⟨k + 1, _, by omega, by go_num, BN.out, PN.out⟩
                    case measure => simp [intOf]; omega
                · have hnl : L.length = m' + 1 := by omega
                  have HNL := Lib.hid hnl
                  have hmL : m' + 1 ≤ L.length := by omega
                  have j0 : (0 : Int) ≤ (m' : Int) + 1 := by omega
                  have j6 : ((m' : Int) + 1).toNat = m' + 1 := by omega
                  have HM30 : Hid (m' + 1 ≤ 30) := Lib.hid (by omega)
                  have j2 : (m' : Int) + 1 ≤ (lc3 : Int) := by omega
                  have j5 : m' + 1 ≤ lc3 := by omega
                  have j4 : ¬ lc3 = m' + 1 := hcap
                  simp only [hnl]
                  clear hnl hmn hmL
                  have hm30 := HM30.out
                  clear hLk hm g3
                  have XA := X4.out.keep BY.out; have YA := Y4.out.keep BY.out
                  have HOA := Lib.hid (own_keep9 PU4.out.row BY.out)
                  have HLS := Lib.hid (HL3.out.keep BY.out)
                  have BWB := Lib.hid (btr BW4.out BY.out)
                  have hszb : w0.heap.size ≤ w9.heap.size := BWB.out.size
                  have RC : Hid ((rawp (lo, hi)).cells = [.bool false, .bool false, .bool (decide (lo < 0)), .int .u64 (lb 0 lo.natAbs), .int .u64 (lb 1 lo.natAbs), .int .u64 (lb 2 lo.natAbs), .int .u64 (lb 3 lo.natAbs), .bool (decide (hi < 0)), .int .u64 (lb 0 hi.natAbs), .int .u64 (lb 1 hi.natAbs), .int .u64 (lb 2 hi.natAbs), .int .u64 (lb 3 hi.natAbs)]) := Lib.hid rfl
                  go_upto_region 12 with (fail)
                  first | (go_region_held3 (fun w' => w'.cell? ⟨w3.heap.size, 0, none⟩ = some (.bool (decide (lo < 0))) ∧ w'.cell? ⟨w3.heap.size, 1, none⟩ = some (.int .u64 (lb 0 lo.natAbs)) ∧ w'.cell? ⟨w3.heap.size, 2, none⟩ = some (.int .u64 (lb 1 lo.natAbs)) ∧ w'.cell? ⟨w3.heap.size, 3, none⟩ = some (.int .u64 (lb 2 lo.natAbs)) ∧ w'.cell? ⟨w3.heap.size, 4, none⟩ = some (.int .u64 (lb 3 lo.natAbs)) ∧ w'.cell? ⟨w3.heap.size + 1, 0, none⟩ = some (.bool (decide (hi < 0))) ∧ w'.cell? ⟨w3.heap.size + 1, 1, none⟩ = some (.int .u64 (lb 0 hi.natAbs)) ∧ w'.cell? ⟨w3.heap.size + 1, 2, none⟩ = some (.int .u64 (lb 1 hi.natAbs)) ∧ w'.cell? ⟨w3.heap.size + 1, 3, none⟩ = some (.int .u64 (lb 2 hi.natAbs)) ∧ w'.cell? ⟨w3.heap.size + 1, 4, none⟩ = some (.int .u64 (lb 3 hi.natAbs))) ((refine tenX (XA.keep ?_) (YA.keep ?_) <;> (repeat (first | (with_reducible exact BF3.out) | (with_reducible exact BF2.out) | (with_reducible exact BF1.out) | (with_reducible exact Below.refl _ _) | (with_reducible refine bal ?_ _) | (with_reducible refine Below.drew ?_) | (with_reducible refine bdn ?_ _))); done)) (first | (refine step_append_lies _ (by rfl) _ _ _ (by rfl) w9.heap.size 37 i0 _ 12 88 und_spans hi0 hz0 hz1 hz2 rfl (by omega) (.slice (some ⟨_, 0, none⟩) 0 0) 0 [] (by rfl) (by repeat (first | (exact own_emptyB _ _ _ _ _ (by simp) (by simp <;> omega)) | (with_reducible refine World.ownsRow.alloc ?_ _) | (with_reducible refine World.ownsRow.drew ?_))) ⟨b3, 0, none⟩ (m' + 1) lc3 (csS ((L.map rawp).take (m' + 1))) (by first | rfl | (simp [Act.eval]; done)) (by rw [csS_len, List.length_take, List.length_map, Nat.min_eq_left (by rw [HNL.out]; omega)]) (((HLS.out.take (m' + 1)).keep (by repeat (first | (with_reducible exact BF3.out) | (with_reducible exact BF2.out) | (with_reducible exact BF1.out) | (with_reducible exact Below.refl _ _) | (with_reducible refine bal ?_ _) | (with_reducible refine Below.drew ?_) | (with_reducible refine bdn ?_ _)))).news) (csS_one _) (by omega) (by unfold maxLen; omega) (by omega) (by simp <;> omega) _ rfl ?_; intro g1 cap1 w5 hown1 hgr1 hat1 hlt1; have HO1 : Hid (w5.ownsRow w9.heap.size 37 12 (.slice (some ⟨g1, 0, none⟩) (m' + 1) cap1) (m' + 1) (csS ((L.map rawp).take (m' + 1)))) := Lib.hid (by rw [Nat.zero_add, List.nil_append] at hown1; exact hown1); have BF1 : Hid (Below w9.heap.size w9 w5) := Lib.hid (Below.grown (by repeat (first | (with_reducible exact BF3.out) | (with_reducible exact BF2.out) | (with_reducible exact BF1.out) | (with_reducible exact Below.refl _ _) | (with_reducible refine bal ?_ _) | (with_reducible refine Below.drew ?_) | (with_reducible refine bdn ?_ _))) hgr1 (by simp <;> omega) (by intro q hq; cases hq; (simp <;> omega))); have HC1 := Lib.hid hgr1; clear hown1 hgr1 hat1 hlt1) | (refine step_append_lies _ (by rfl) _ _ _ (by rfl) w9.heap.size 37 i0 _ 12 88 und_spans hi0 hz0 hz1 hz2 rfl (by omega) (.slice (some ⟨g1, 0, none⟩) (m' + 1) cap1) (m' + 1) _ (by first | rfl | (simp [Act.eval]; done)) (own_keep9 HO1.out (by repeat (first | (with_reducible exact Below.refl _ _) | (with_reducible refine bal ?_ _) | (with_reducible refine Below.drew ?_)))) ⟨_, 0, none⟩ 1 1 [.bool false, .bool false, .bool (decide (lo < 0)), .int .u64 (lb 0 lo.natAbs), .int .u64 (lb 1 lo.natAbs), .int .u64 (lb 2 lo.natAbs), .int .u64 (lb 3 lo.natAbs), .bool (decide (hi < 0)), .int .u64 (lb 0 hi.natAbs), .int .u64 (lb 1 hi.natAbs), .int .u64 (lb 2 hi.natAbs), .int .u64 (lb 3 hi.natAbs)] (by first | rfl | (simp [Act.eval]; done)) (by rfl) (by refine news_pr (lo := lo) (hi := hi) ?_; repeat (first | (exact hnew (by simp)) | (refine hold ?_) | (refine hgrn HC1.out ?_ (by simp [Value.ownBlock])))) (by rw [← RC.out]; exact RS.cells_one _) (by decide) (by unfold maxLen; omega) (by omega) (by first | (have := BF1.out.size; simp <;> omega) | (simp <;> omega)) _ rfl ?_; intro g2 cap2 w6 hown2 hgr2 hat2 hlt2; have HO2 : Hid (w6.ownsRow w9.heap.size 37 12 (.slice (some ⟨g2, 0, none⟩) ((m' + 1) + 1) cap2) ((m' + 1) + 1) (csS ((L.map rawp).take (m' + 1)) ++ (rawp (lo, hi)).cells)) := Lib.hid (by rw [RC.out]; exact hown2); have BF2 : Hid (Below w9.heap.size w9 w6) := Lib.hid (Below.grown (by repeat (first | (with_reducible exact BF3.out) | (with_reducible exact BF2.out) | (with_reducible exact BF1.out) | (with_reducible exact Below.refl _ _) | (with_reducible refine bal ?_ _) | (with_reducible refine Below.drew ?_) | (with_reducible refine bdn ?_ _))) hgr2 (by first | (have := BF1.out.size; simp <;> omega) | (simp <;> omega)) (by intro q hq; first | exact (own_base9 HO1.out q hq).1 | (cases hq; simp))); have hcap2 : ((m' + 1) + 1) ≤ cap2 := own_cap9 HO2.out; clear hown2 hgr2 hat2 hlt2) | fail)) | fail
                  all_goals
                    have PN : Hid (Put w6 w0.heap.size _ (L.take (m' + 1) ++ ((lo, hi) :: L.drop (m' + 1))) (memS (A.take (k + 1))) (k + 1)) := Lib.hid (put_new (A := A) PU4.out.srt PU4.out.mem PU4.out.len (by rw [HNL.out]; omega) HI.out HQL.out HRG.out MT.out (own_mono9 (put_row HO2.out (by rw [List.drop_of_length_le (by rw [List.length_map, HNL.out]; omega), show csS ([] : List RS) = [] from rfl, List.append_nil]) rfl (by rw [HNL.out])) hszb))
                    have BN := Lib.hid (btr BWB.out BF2.out)
                    go_wp2
                    go_roundw
                    case rel => exact ⟨k + 1, _, by omega, by go_num, BN.out, PN.out⟩
                    case measure => simp [intOf]; omega
          · obtain rfl : m = 0 := by omega
            clear h0
            go_upto_region 10 with (fail)
            refine wp_region_quiet_below (by kernel_rfl) (by kernel_rfl) ?_
            repeat (first | go_big_quiet_step ((first | fail)) | quiet_step (first | fail))
            refine wpQuiet_nil ?_
            intro _ hw'
            obtain ⟨⟨dq, osq⟩, hw''⟩ := hw'
            subst hw''
            clear p0 p1 p2 p3 p4 hXr
            have BY := Lib.hid (btr BX.out (below_regrown wr dq osq))
            generalize grow (redrawn wr dq) osq = w9 at *
            have HQL : Hid (∀ q', 0 < 0 → L[0 - 1]? = some q' → q'.1 ≤ lo) := Lib.hid (fun q' h _ => absurd h (by omega))
            have HRG : Hid (-topM ≤ lo ∧ lo ≤ hi ∧ hi ≤ topM) := Lib.hid ⟨HLO.out.1, by omega, HHI.out.2⟩
            by_cases hne : 0 < L.length
            · obtain rfl : la3 = some ⟨b3, 0, none⟩ := HL3.out.la (by rw [List.length_map]; omega)
              have j1 : (0 : Int) ≤ (L.length : Int) := by omega
              have j2 : (L.length : Int) ≤ (lc3 : Int) := by omega
              have j3 : (0 : Int) ≤ (lc3 : Int) := by omega
              have j4 : ¬ lc3 = 0 := by omega
              have XA := X4.out.keep BY.out; have YA := Y4.out.keep BY.out
              have HOA := Lib.hid (own_keep9 PU4.out.row BY.out)
              have HLS := Lib.hid (HL3.out.keep BY.out)
              have BWB := Lib.hid (btr BW4.out BY.out)
              have hszb : w0.heap.size ≤ w9.heap.size := BWB.out.size
              have RC : Hid ((rawp (lo, hi)).cells = [.bool false, .bool false, .bool (decide (lo < 0)), .int .u64 (lb 0 lo.natAbs), .int .u64 (lb 1 lo.natAbs), .int .u64 (lb 2 lo.natAbs), .int .u64 (lb 3 lo.natAbs), .bool (decide (hi < 0)), .int .u64 (lb 0 hi.natAbs), .int .u64 (lb 1 hi.natAbs), .int .u64 (lb 2 hi.natAbs), .int .u64 (lb 3 hi.natAbs)]) := Lib.hid rfl
              go_upto_region 12 with (fail)
              first | (go_region_held3 (fun w' => w'.cell? ⟨w3.heap.size, 0, none⟩ = some (.bool (decide (lo < 0))) ∧ w'.cell? ⟨w3.heap.size, 1, none⟩ = some (.int .u64 (lb 0 lo.natAbs)) ∧ w'.cell? ⟨w3.heap.size, 2, none⟩ = some (.int .u64 (lb 1 lo.natAbs)) ∧ w'.cell? ⟨w3.heap.size, 3, none⟩ = some (.int .u64 (lb 2 lo.natAbs)) ∧ w'.cell? ⟨w3.heap.size, 4, none⟩ = some (.int .u64 (lb 3 lo.natAbs)) ∧ w'.cell? ⟨w3.heap.size + 1, 0, none⟩ = some (.bool (decide (hi < 0))) ∧ w'.cell? ⟨w3.heap.size + 1, 1, none⟩ = some (.int .u64 (lb 0 hi.natAbs)) ∧ w'.cell? ⟨w3.heap.size + 1, 2, none⟩ = some (.int .u64 (lb 1 hi.natAbs)) ∧ w'.cell? ⟨w3.heap.size + 1, 3, none⟩ = some (.int .u64 (lb 2 hi.natAbs)) ∧ w'.cell? ⟨w3.heap.size + 1, 4, none⟩ = some (.int .u64 (lb 3 hi.natAbs))) ((refine tenX (XA.keep ?_) (YA.keep ?_) <;> (repeat (first | (with_reducible exact BF3.out) | (with_reducible exact BF2.out) | (with_reducible exact BF1.out) | (with_reducible exact Below.refl _ _) | (with_reducible refine bal ?_ _) | (with_reducible refine Below.drew ?_) | (with_reducible refine bdn ?_ _))); done)) (first | (refine step_append_lies _ (by rfl) _ _ _ (by rfl) w9.heap.size 37 i0 _ 12 88 und_spans hi0 hz0 hz1 hz2 rfl (by omega) (.slice (some ⟨_, 0, none⟩) 0 0) 0 [] (by rfl) (by repeat (first | (exact own_emptyB _ _ _ _ _ (by simp) (by simp <;> omega)) | (with_reducible refine World.ownsRow.alloc ?_ _) | (with_reducible refine World.ownsRow.drew ?_))) ⟨_, 0, none⟩ 1 1 [.bool false, .bool false, .bool (decide (lo < 0)), .int .u64 (lb 0 lo.natAbs), .int .u64 (lb 1 lo.natAbs), .int .u64 (lb 2 lo.natAbs), .int .u64 (lb 3 lo.natAbs), .bool (decide (hi < 0)), .int .u64 (lb 0 hi.natAbs), .int .u64 (lb 1 hi.natAbs), .int .u64 (lb 2 hi.natAbs), .int .u64 (lb 3 hi.natAbs)] (by first | rfl | (simp [Act.eval]; done)) (by rfl) (by refine news_pr (lo := lo) (hi := hi) ?_; repeat (first | (exact hnew (by simp)) | (refine hold ?_) | (refine hgrn HC1.out ?_ (by simp [Value.ownBlock])))) (by rw [← RC.out]; exact RS.cells_one _) (by decide) (by unfold maxLen; omega) (by omega) (by first | (have := BF1.out.size; simp <;> omega) | (simp <;> omega)) _ rfl ?_; intro g2 cap2 w6 hown2 hgr2 hat2 hlt2; have HO2 : Hid (w6.ownsRow w9.heap.size 37 12 (.slice (some ⟨g2, 0, none⟩) 1 cap2) 1 (rawp (lo, hi)).cells) := Lib.hid (by rw [Nat.zero_add, List.nil_append] at hown2; rw [RC.out]; exact hown2); have BF2 : Hid (Below w9.heap.size w9 w6) := Lib.hid (Below.grown (by repeat (first | (with_reducible exact BF3.out) | (with_reducible exact BF2.out) | (with_reducible exact BF1.out) | (with_reducible exact Below.refl _ _) | (with_reducible refine bal ?_ _) | (with_reducible refine Below.drew ?_) | (with_reducible refine bdn ?_ _))) hgr2 (by first | (have := BF1.out.size; simp <;> omega) | (simp <;> omega)) (by intro q hq; first | exact (own_base9 HO1.out q hq).1 | (cases hq; simp))); have hcap2 : 1 ≤ cap2 := own_cap9 HO2.out; clear hown2 hgr2 hat2 hlt2) | (refine step_append_lies _ (by rfl) _ _ _ (by rfl) w9.heap.size 37 i0 _ 12 88 und_spans hi0 hz0 hz1 hz2 rfl (by omega) (.slice (some ⟨g2, 0, none⟩) 1 cap2) 1 _ (by first | rfl | (simp [Act.eval]; done)) HO2.out ⟨b3, 0, none⟩ L.length lc3 (csS (L.map rawp)) (by first | rfl | (simp [Act.eval]; done)) (by rw [csS_len, List.length_map]) (by have := (HLS.out.keep (by repeat (first | (with_reducible exact BF3.out) | (with_reducible exact BF2.out) | (with_reducible exact BF1.out) | (with_reducible exact Below.refl _ _) | (with_reducible refine bal ?_ _) | (with_reducible refine Below.drew ?_) | (with_reducible refine bdn ?_ _)))).news; first | exact this | (rw [Nat.zero_add] at this; exact this)) (csS_one _) (by omega) (by unfold maxLen; omega) (by omega) BF2.out.size _ rfl ?_; intro g3 cap3 w7 hown3 hgr3 hat3 hlt3; have HO3 := Lib.hid hown3; have BF3 : Hid (Below w9.heap.size w9 w7) := Lib.hid (Below.grown BF2.out hgr3 BF2.out.size (fun q hq => (own_base9 HO2.out q hq).1)); clear hown3 hgr3 hat3 hlt3) | fail)) | fail
              all_goals
                have PN : Hid (Put w7 w0.heap.size _ (L.take 0 ++ ((lo, hi) :: L.drop 0)) (memS (A.take (k + 1))) (k + 1)) := Lib.hid (put_new (A := A) PU4.out.srt PU4.out.mem PU4.out.len (by omega) HI.out HQL.out HRG.out MT.out (own_mono9 (put_row HO3.out (by rw [List.take_zero, List.drop_zero]; rfl) rfl (by omega)) hszb))
                have BN := Lib.hid (btr BWB.out BF3.out)
                go_wp2
                go_roundw
                case rel => exact ⟨k + 1, _, by omega, by go_num, BN.out, PN.out⟩
                case measure => simp [intOf]; omega
            · have HE : Hid (L = []) := Lib.hid (List.eq_nil_of_length_eq_zero (by omega))
              have hnil := PU4.out.nil HE.out
              obtain ⟨rfl, hL0, rfl⟩ : la3 = none ∧ L.length = 0 ∧ lc3 = 0 := by injection hnil; exact ⟨by assumption, by assumption, by assumption⟩
              clear hnil hne
              have hm0 : 0 ≤ L.length := by omega
              simp only [hL0]
              clear hL0
              have XA := X4.out.keep BY.out; have YA := Y4.out.keep BY.out
              have HOA := Lib.hid (own_keep9 PU4.out.row BY.out)
              have HLS := Lib.hid (HL3.out.keep BY.out)
              have BWB := Lib.hid (btr BW4.out BY.out)
              have hszb : w0.heap.size ≤ w9.heap.size := BWB.out.size
              have RC : Hid ((rawp (lo, hi)).cells = [.bool false, .bool false, .bool (decide (lo < 0)), .int .u64 (lb 0 lo.natAbs), .int .u64 (lb 1 lo.natAbs), .int .u64 (lb 2 lo.natAbs), .int .u64 (lb 3 lo.natAbs), .bool (decide (hi < 0)), .int .u64 (lb 0 hi.natAbs), .int .u64 (lb 1 hi.natAbs), .int .u64 (lb 2 hi.natAbs), .int .u64 (lb 3 hi.natAbs)]) := Lib.hid rfl
              go_upto_region 12 with (fail)
              first | (go_region_held3 (fun w' => w'.cell? ⟨w3.heap.size, 0, none⟩ = some (.bool (decide (lo < 0))) ∧ w'.cell? ⟨w3.heap.size, 1, none⟩ = some (.int .u64 (lb 0 lo.natAbs)) ∧ w'.cell? ⟨w3.heap.size, 2, none⟩ = some (.int .u64 (lb 1 lo.natAbs)) ∧ w'.cell? ⟨w3.heap.size, 3, none⟩ = some (.int .u64 (lb 2 lo.natAbs)) ∧ w'.cell? ⟨w3.heap.size, 4, none⟩ = some (.int .u64 (lb 3 lo.natAbs)) ∧ w'.cell? ⟨w3.heap.size + 1, 0, none⟩ = some (.bool (decide (hi < 0))) ∧ w'.cell? ⟨w3.heap.size + 1, 1, none⟩ = some (.int .u64 (lb 0 hi.natAbs)) ∧ w'.cell? ⟨w3.heap.size + 1, 2, none⟩ = some (.int .u64 (lb 1 hi.natAbs)) ∧ w'.cell? ⟨w3.heap.size + 1, 3, none⟩ = some (.int .u64 (lb 2 hi.natAbs)) ∧ w'.cell? ⟨w3.heap.size + 1, 4, none⟩ = some (.int .u64 (lb 3 hi.natAbs))) ((refine tenX (XA.keep ?_) (YA.keep ?_) <;> (repeat (first | (with_reducible exact BF3.out) | (with_reducible exact BF2.out) | (with_reducible exact BF1.out) | (with_reducible exact Below.refl _ _) | (with_reducible refine bal ?_ _) | (with_reducible refine Below.drew ?_) | (with_reducible refine bdn ?_ _))); done)) (first | (refine step_append_lies _ (by rfl) _ _ _ (by rfl) w9.heap.size 37 i0 _ 12 88 und_spans hi0 hz0 hz1 hz2 rfl (by omega) (.slice (some ⟨_, 0, none⟩) 0 0) 0 [] (by rfl) (by repeat (first | (exact own_emptyB _ _ _ _ _ (by simp) (by simp <;> omega)) | (with_reducible refine World.ownsRow.alloc ?_ _) | (with_reducible refine World.ownsRow.drew ?_))) ⟨_, 0, none⟩ 1 1 [.bool false, .bool false, .bool (decide (lo < 0)), .int .u64 (lb 0 lo.natAbs), .int .u64 (lb 1 lo.natAbs), .int .u64 (lb 2 lo.natAbs), .int .u64 (lb 3 lo.natAbs), .bool (decide (hi < 0)), .int .u64 (lb 0 hi.natAbs), .int .u64 (lb 1 hi.natAbs), .int .u64 (lb 2 hi.natAbs), .int .u64 (lb 3 hi.natAbs)] (by first | rfl | (simp [Act.eval]; done)) (by rfl) (by refine news_pr (lo := lo) (hi := hi) ?_; repeat (first | (exact hnew (by simp)) | (refine hold ?_) | (refine hgrn HC1.out ?_ (by simp [Value.ownBlock])))) (by rw [← RC.out]; exact RS.cells_one _) (by decide) (by unfold maxLen; omega) (by omega) (by first | (have := BF1.out.size; simp <;> omega) | (simp <;> omega)) _ rfl ?_; intro g2 cap2 w6 hown2 hgr2 hat2 hlt2; have HO2 : Hid (w6.ownsRow w9.heap.size 37 12 (.slice (some ⟨g2, 0, none⟩) 1 cap2) 1 (rawp (lo, hi)).cells) := Lib.hid (by rw [Nat.zero_add, List.nil_append] at hown2; rw [RC.out]; exact hown2); have BF2 : Hid (Below w9.heap.size w9 w6) := Lib.hid (Below.grown (by repeat (first | (with_reducible exact BF3.out) | (with_reducible exact BF2.out) | (with_reducible exact BF1.out) | (with_reducible exact Below.refl _ _) | (with_reducible refine bal ?_ _) | (with_reducible refine Below.drew ?_) | (with_reducible refine bdn ?_ _))) hgr2 (by first | (have := BF1.out.size; simp <;> omega) | (simp <;> omega)) (by intro q hq; first | exact (own_base9 HO1.out q hq).1 | (cases hq; simp))); have hcap2 : 1 ≤ cap2 := own_cap9 HO2.out; clear hown2 hgr2 hat2 hlt2) | fail)) | fail
              all_goals
                have PN : Hid (Put w6 w0.heap.size _ (L.take 0 ++ ((lo, hi) :: L.drop 0)) (memS (A.take (k + 1))) (k + 1)) := Lib.hid (put_new (A := A) PU4.out.srt PU4.out.mem PU4.out.len (by omega) HI.out HQL.out HRG.out MT.out (own_mono9 (put_row HO2.out (by rw [List.take_zero, List.drop_zero, show L.map rawp = [] by rw [HE.out]; rfl]; rfl) rfl (by rw [HE.out]; rfl)) hszb))
                have BN := Lib.hid (btr BWB.out BF2.out)
                go_wp2
                go_roundw
                case rel => exact ⟨k + 1, _, by omega, by go_num, BN.out, PN.out⟩
                case measure => simp [intOf]; omega
    · have hge : ¬ (k : Int) < (A.length : Int) := by omega
      obtain ⟨wo, rfl⟩ : ∃ wo : World, wo = wr := ⟨_, rfl⟩
      rw [List.take_of_length_le (by omega)] at PU
      have hL30 : L.length ≤ 30 := by have := PU.out.len; omega
      obtain ⟨la3, lc3, b3, hv3, hL3, hn3, hm3, hx3⟩ := PU.out.row.form
      rw [List.length_map] at hv3 hn3
      have HL3 := Lib.hid hL3; have HX3 := Lib.hid hx3; have SRT := Lib.hid PU.out.srt
      subst hv3
      clear hL3 hx3
      go_wp2
      go_loopw [8, 9] (fun v i wr => ∃ (j : Nat) (Q : List (Int × Int)), j ≤ L.length ∧ i = .int .i64 j ∧ Hid (Below wo.heap.size wo wr) ∧ Hid (Mg wr wo.heap.size v L j Q)) (fun _ i _ => L.length - (intOf i).toNat)
      case atStart => exact ⟨0, [], Nat.zero_le _, rfl, Below.refl _ _, ⟨Bs.nil _ _, Mrg.start L⟩⟩
      case round =>
        obtain ⟨j, Q, hj, rfl, BX, MG⟩ := hrel
        by_cases hlt : j < L.length
        · obtain ⟨p, hp⟩ : ∃ p, L[j]? = some p := ⟨L[j], List.getElem?_eq_getElem hlt⟩
          obtain rfl : la3 = some ⟨b3, 0, none⟩ := HL3.out.la (by rw [List.length_map]; omega)
          have HCP := Lib.hid (fun W (hW : Below wo.heap.size wo W) => (show C12 W b3 (j * 12) ⟨false, false, decide (p.1 < 0), p.1.natAbs, decide (p.2 < 0), p.2.natAbs⟩ from by have := (HL3.out.cells j (rawp p) (by rw [List.getElem?_map, hp]; rfl)).keep hW; rw [Nat.zero_add] at this; exact this))
          obtain ⟨r1, r2, r3⟩ := SRT.out.rng p (List.mem_of_getElem? hp)
          have HP := Lib.hid hp
          have RP : Hid ((rawp p).cells = [.bool false, .bool false, .bool (decide (p.1 < 0)), .int .u64 (lb 0 p.1.natAbs), .int .u64 (lb 1 p.1.natAbs), .int .u64 (lb 2 p.1.natAbs), .int .u64 (lb 3 p.1.natAbs), .bool (decide (p.2 < 0)), .int .u64 (lb 0 p.2.natAbs), .int .u64 (lb 1 p.2.natAbs), .int .u64 (lb 2 p.2.natAbs), .int .u64 (lb 3 p.2.natAbs)]) := Lib.hid rfl
          have hQl : Q.length ≤ j := MG.out.2.len
          have hbo : b3 < wo.heap.size := block_lt_of_cell (HCP.out wo (Below.refl _ _)).twelve.1
          have hsz : wo.heap.size ≤ wr.heap.size := BX.out.size
          clear hp
          rcases last_or Q with rfl | ⟨Q0, ab, rfl⟩
          · obtain ⟨la8, lc8, b8, hv8, hL8, hn8, hm8, hx8⟩ := MG.out.1.form
            have HOQ := Lib.hid MG.out.1
            have e8 : u8 = .slice la8 0 lc8 := hv8
            subst e8
            obtain ⟨c0, c1, c2, c3, c4, c5, c6, c7, c8, c9, c10, c11⟩ := (HCP.out wr BX.out).twelve
            clear hv8 hL8 hx8
            go_wp2_with (at_builtin; refine wpList_append_lies _ rfl (.tmp 121) (.tmp 126) 22 rfl wo.heap.size 37 i0 (V12 false false false 0 0 0 0 false 0 0 0 0) 12 88 und_spans hi0 hz0 hz1 hz2 rfl (by decide) (.slice la8 0 lc8) 0 _ rfl (own_keep9 HOQ.out (by repeat (first | (with_reducible exact Below.refl _ _) | (with_reducible refine bal ?_ _) | (with_reducible refine Below.drew ?_) | (with_reducible refine bdn ?_ _)))) ⟨wr.heap.size, 0, none⟩ 1 1 _ rfl rfl (news9 _ _ _ _ (by simp)) (by rw [← RP.out]; exact RS.cells_one _) (by decide) (by unfold maxLen; omega) (by omega) (by simp <;> omega) _ rfl ?_; intro g2 cap2 w7 hown2 hgr2 hat2 hlt2; have HO2 := Lib.hid hown2; have BN : Hid (Below wo.heap.size wo w7) := Lib.hid (Below.grown (by repeat (first | (with_reducible exact BX.out) | (with_reducible refine bal ?_ _) | (with_reducible refine Below.drew ?_) | (with_reducible refine bdn ?_ _))) hgr2 (by simp <;> omega) (fun q hq => (own_base9 HOQ.out q hq).1)); clear hown2 hgr2 hat2 hlt2)
            have MN : Hid (Mg w7 wo.heap.size (.slice (some ⟨g2, 0, none⟩) 1 cap2) L (j + 1) ([] ++ [p])) := Lib.hid ⟨Bs.snoc (r := rawp p) (l := []) HO2.out rfl, MG.out.2.new SRT.out HP.out (by simp)⟩
            go_roundw
            case rel => exact ⟨j + 1, _, by omega, by go_num, BN.out, MN.out⟩
            case measure => simp [intOf]; omega
          · obtain ⟨a, b⟩ := ab
            obtain ⟨g8, cap8, hv8, hO8⟩ := mg_row MG.out
            subst hv8
            have HOQ := Lib.hid hO8
            have hQ0 : Q0.length + 1 ≤ 30 := by have := MG.out.2.len; simp at this; omega
            obtain ⟨k1, k2, k3, k4, k5⟩ := sep_cut MG.out.2.sep
            simp only at k2 k3 k4 k5
            have hbR : b.natAbs < 2 ^ 256 := inR_abs.1 (by unfold inR; omega)
            have hg8 : wo.heap.size ≤ g8 := (own_base9 hO8 g8 rfl).1
            have KS := Lib.hid (fun W => rstep_z b hbR true (b + 1) rfl W)
            have KH : Hid (∀ W, Calls Tryz.prog 23 #[.agg #[.bool (decide (p.2 < 0)), .int .u64 (lb 0 (p.2).natAbs), .int .u64 (lb 1 (p.2).natAbs), .int .u64 (lb 2 (p.2).natAbs), .int .u64 (lb 3 (p.2).natAbs)], .agg #[.bool (decide (b < 0)), .int .u64 (lb 0 (b).natAbs), .int .u64 (lb 1 (b).natAbs), .int .u64 (lb 2 (b).natAbs), .int .u64 (lb 3 (b).natAbs)]] W fun e w' => e = .returned (.int .i64 (cmpv p.2 b)) ∧ Below W.heap.size W w') := Lib.hid (fun W => rcmpint_z _ _ (inR_abs.1 (by unfold inR; omega)) hbR W)
            have K5 := Lib.hid k5
            obtain ⟨d7, d8, d9, d10, d11⟩ := mg_cells (a := a) hO8
            have g1 : (0 : Int) < (Q0.length : Int) + 1 := by omega
            have g2 : (0 : Int) ≤ (Q0.length : Int) := by omega
            clear hO8 k1 k5
            by_cases hbt : b = topM
            · have HSN : Hid (∀ W, Calls Tryz.prog 45 #[.agg #[.bool (decide (b < 0)), .int .u64 (lb 0 (b).natAbs), .int .u64 (lb 1 (b).natAbs), .int .u64 (lb 2 (b).natAbs), .int .u64 (lb 3 (b).natAbs)], .bool true] W fun e w' => e = .returned (.tuple #[.agg #[.bool false, .int .u64 0, .int .u64 0, .int .u64 0, .int .u64 0], .bool false]) ∧ Below W.heap.size W w') := Lib.hid (fun W => by have := KS.out W; unfold Znum at this; rw [if_neg (by rw [← inR_abs]; unfold inR; omega)] at this; exact this)
              have HBT := Lib.hid hbt; clear hbt hbR
              go_wp2_with fail
              ((with_reducible refine (HSN.out _).mono ?_); rintro e w3 ⟨rfl, hb⟩)
              have Vw4 := Lib.hid (World.ownsRow.alloc (own_keep9 HOQ.out hb) (.cells #[.bool false, .int .u64 0, .int .u64 0, .int .u64 0, .int .u64 0] 29))
              have B4 := Lib.hid (bal (btr BX.out hb) (.cells #[.bool false, .int .u64 0, .int .u64 0, .int .u64 0, .int .u64 0] 29))
              clear hb d7 d8 d9 d10 d11
              go_upto_region 20 with (fail)
              go_name_world w4 hw4
              rw [hw4] at Vw4 B4
              clear hw4
              go_upto_region 20 with (fail)
              refine wp_region_quiet_below (by kernel_rfl) (by kernel_rfl) ?_
              repeat (first | go_big_quiet_step ((first | fail)) | quiet_step (first | fail))
              refine wpQuiet_nil ?_
              intro _ hw'
              obtain ⟨⟨dq, osq⟩, hw''⟩ := hw'
              subst hw''
              have B5 := Lib.hid (btr B4.out (below_regrown w4 dq osq))
              have Vw5 := Lib.hid (own_keep9 Vw4.out (below_regrown w4 dq osq))
              generalize grow (redrawn w4 dq) osq = w5 at *
              obtain ⟨_, _, _, _, _, _, _, c7, c8, c9, c10, c11⟩ := (HCP.out w5 B5.out).twelve
              obtain ⟨d7, d8, d9, d10, d11⟩ := mg_cells (a := a) Vw5.out
              have hc2 : ¬ 0 < cmpv p.2 b := by have := HBT.out; unfold cmpv; split <;> (try split) <;> omega
              go_upto_region 21 with (fail)
              have zc7 := cell_regrown c7; have zc8 := cell_regrown c8; have zc9 := cell_regrown c9; have zc10 := cell_regrown c10; have zc11 := cell_regrown c11; have zd7 := cell_regrown d7; have zd8 := cell_regrown d8; have zd9 := cell_regrown d9; have zd10 := cell_regrown d10; have zd11 := cell_regrown d11
              clear c7 c8 c9 c10 c11 d7 d8 d9 d10 d11
              have cq0 := fun (d : Nat) (os : Array Obj) => Calls.regrown_of (w := w5) (d := d) (os := os) (KH.out _)
              refine wp_region_quiet_below (by kernel_rfl) (by kernel_rfl) ?_
              repeat (first | go_big_quiet_step ((first | with_reducible exact cq0 _ _)) | quiet_step (first | with_reducible exact cq0 _ _))
              refine wpQuiet_nil ?_
              intro _ hw'
              obtain ⟨⟨dq, osq⟩, hw''⟩ := hw'
              subst hw''
              clear zc7 zc8 zc9 zc10 zc11 zd7 zd8 zd9 zd10 zd11 cq0
              have B6 := Lib.hid (btr B5.out (below_regrown w5 dq osq))
              have Vw6 := Lib.hid (own_keep9 Vw5.out (below_regrown w5 dq osq))
              generalize grow (redrawn w5 dq) osq = w6 at *
              have MN : Hid (Mg w6 wo.heap.size (.slice (some ⟨g8, 0, none⟩) (Q0.length + 1) cap8) L (j + 1) (Q0 ++ [(a, b)])) := Lib.hid (mg_of Vw6.out (MG.out.2.take SRT.out HP.out (.inl HBT.out) (by rw [if_neg (by have := HBT.out; omega)])))
              go_wp2
              go_roundw
              case rel => exact ⟨j + 1, _, by omega, by go_num, B6.out, MN.out⟩
              case measure => simp [intOf]; omega
            · have HSY : Hid (∀ W, Calls Tryz.prog 45 #[.agg #[.bool (decide (b < 0)), .int .u64 (lb 0 (b).natAbs), .int .u64 (lb 1 (b).natAbs), .int .u64 (lb 2 (b).natAbs), .int .u64 (lb 3 (b).natAbs)], .bool true] W fun e w' => e = .returned (.tuple #[.agg #[.bool (decide (b + 1 < 0)), .int .u64 (lb 0 (b + 1).natAbs), .int .u64 (lb 1 (b + 1).natAbs), .int .u64 (lb 2 (b + 1).natAbs), .int .u64 (lb 3 (b + 1).natAbs)], .bool true]) ∧ Below W.heap.size W w') := Lib.hid (fun W => by have := KS.out W; unfold Znum at this; rw [if_pos (inR_abs.1 (by unfold inR; omega))] at this; exact this)
              have KL : Hid (∀ W, Calls Tryz.prog 23 #[.agg #[.bool (decide (p.1 < 0)), .int .u64 (lb 0 (p.1).natAbs), .int .u64 (lb 1 (p.1).natAbs), .int .u64 (lb 2 (p.1).natAbs), .int .u64 (lb 3 (p.1).natAbs)], .agg #[.bool (decide (b + 1 < 0)), .int .u64 (lb 0 (b + 1).natAbs), .int .u64 (lb 1 (b + 1).natAbs), .int .u64 (lb 2 (b + 1).natAbs), .int .u64 (lb 3 (b + 1).natAbs)]] W fun e w' => e = .returned (.int .i64 (cmpv p.1 (b + 1))) ∧ Below W.heap.size W w') := Lib.hid (fun W => rcmpint_z _ _ (inR_abs.1 (by unfold inR; omega)) (inR_abs.1 (by unfold inR; omega)) W)
              clear hbR
              go_wp2_with fail
              ((with_reducible refine (HSY.out _).mono ?_); rintro e w3 ⟨rfl, hb⟩)
              have Vw4 := Lib.hid (World.ownsRow.alloc (own_keep9 HOQ.out hb) (.cells #[.bool (decide (b + 1 < 0)), .int .u64 (lb 0 (b + 1).natAbs), .int .u64 (lb 1 (b + 1).natAbs), .int .u64 (lb 2 (b + 1).natAbs), .int .u64 (lb 3 (b + 1).natAbs)] 29))
              have B4 := Lib.hid (bal (btr BX.out hb) (.cells #[.bool (decide (b + 1 < 0)), .int .u64 (lb 0 (b + 1).natAbs), .int .u64 (lb 1 (b + 1).natAbs), .int .u64 (lb 2 (b + 1).natAbs), .int .u64 (lb 3 (b + 1).natAbs)] 29))
              have NX := Row5.new w3 (.bool (decide (b + 1 < 0))) (.int .u64 (lb 0 (b + 1).natAbs)) (.int .u64 (lb 1 (b + 1).natAbs)) (.int .u64 (lb 2 (b + 1).natAbs)) (.int .u64 (lb 3 (b + 1).natAbs))
              clear hb d7 d8 d9 d10 d11
              go_upto_region 20 with (fail)
              go_name_world w4 hw4
              rw [hw4] at Vw4 B4 NX
              clear hw4
              obtain ⟨_, _, c2, c3, c4, c5, c6, _, _, _, _, _⟩ := (HCP.out w4 B4.out).twelve
              obtain ⟨n0, n1, n2, n3, n4⟩ := NX.parts
              clear NX
              by_cases hpb : p.1 ≤ b + 1
              · have hc1 : cmpv p.1 (b + 1) ≤ 0 := by unfold cmpv; split <;> (try split) <;> omega
                go_upto_region 20 with (fail)
                have zc2 := cell_regrown c2; have zc3 := cell_regrown c3; have zc4 := cell_regrown c4; have zc5 := cell_regrown c5; have zc6 := cell_regrown c6; have zn0 := cell_regrown n0; have zn1 := cell_regrown n1; have zn2 := cell_regrown n2; have zn3 := cell_regrown n3; have zn4 := cell_regrown n4
                clear c2 c3 c4 c5 c6 n0 n1 n2 n3 n4
                have cq0 := fun (d : Nat) (os : Array Obj) => Calls.regrown_of (w := w4) (d := d) (os := os) (KL.out _)
                refine wp_region_quiet_below (by kernel_rfl) (by kernel_rfl) ?_
                repeat (first | go_big_quiet_step ((first | with_reducible exact cq0 _ _)) | quiet_step (first | with_reducible exact cq0 _ _))
                refine wpQuiet_nil ?_
                intro _ hw'
                obtain ⟨⟨dq, osq⟩, hw''⟩ := hw'
                subst hw''
                clear zc2 zc3 zc4 zc5 zc6 zn0 zn1 zn2 zn3 zn4 cq0
                have B5 := Lib.hid (btr B4.out (below_regrown w4 dq osq))
                have Vw5 := Lib.hid (own_keep9 Vw4.out (below_regrown w4 dq osq))
                generalize grow (redrawn w4 dq) osq = w5 at *
                obtain ⟨_, _, _, _, _, _, _, c7, c8, c9, c10, c11⟩ := (HCP.out w5 B5.out).twelve
                obtain ⟨d7, d8, d9, d10, d11⟩ := mg_cells (a := a) Vw5.out
                by_cases hbp : b < p.2
                · have hc2 : 0 < cmpv p.2 b := by unfold cmpv; split <;> (try split) <;> omega
                  go_upto_region 21 with (fail)
                  have zc7 := cell_regrown c7; have zc8 := cell_regrown c8; have zc9 := cell_regrown c9; have zc10 := cell_regrown c10; have zc11 := cell_regrown c11; have zd7 := cell_regrown d7; have zd8 := cell_regrown d8; have zd9 := cell_regrown d9; have zd10 := cell_regrown d10; have zd11 := cell_regrown d11
                  clear c7 c8 c9 c10 c11 d7 d8 d9 d10 d11
                  have cq0 := fun (d : Nat) (os : Array Obj) => Calls.regrown_of (w := w5) (d := d) (os := os) (KH.out _)
                  refine wp_region_quiet_below (by kernel_rfl) (by kernel_rfl) ?_
                  repeat (first | go_big_quiet_step ((first | with_reducible exact cq0 _ _)) | quiet_step (first | with_reducible exact cq0 _ _))
                  refine wpQuiet_nil ?_
                  intro _ hw'
                  obtain ⟨⟨dq, osq⟩, hw''⟩ := hw'
                  subst hw''
                  clear zc7 zc8 zc9 zc10 zc11 zd7 zd8 zd9 zd10 zd11 cq0
                  have B6 := Lib.hid (btr B5.out (below_regrown w5 dq osq))
                  have Vw6 := Lib.hid (own_keep9 Vw5.out (below_regrown w5 dq osq))
                  generalize grow (redrawn w5 dq) osq = w6 at *
                  obtain ⟨_, _, _, _, _, _, _, c7, c8, c9, c10, c11⟩ := (HCP.out w6 B6.out).twelve
                  obtain ⟨d7, d8, d9, d10, d11⟩ := mg_cells (a := a) Vw6.out
                  have f7 := own_free9 Vw6.out (Q0.length * 12 + 7)
                  have f8 := own_free9 Vw6.out (Q0.length * 12 + 8)
                  have f9 := own_free9 Vw6.out (Q0.length * 12 + 9)
                  have f10 := own_free9 Vw6.out (Q0.length * 12 + 10)
                  have f11 := own_free9 Vw6.out (Q0.length * 12 + 11)
                  have HPU := Lib.hid (mg_put (c := p.2) Vw6.out)
                  have hne8 : ¬ b3 = g8 := by omega
                  have hne9 : ¬ g8 = b3 := by omega
                  have hgs : g8 < w6.heap.size := (own_base9 Vw6.out g8 rfl).2
                  go_wp2
                  go_roundw
                  case rel => exact ⟨j + 1, _, by omega, by go_num, Lib.hid (by repeat (first | (with_reducible exact B6.out) | ((with_reducible refine bsc ?_ ?_ _); rotate_left; (focus (simp only []; omega))))), mg_of HPU.out (MG.out.2.take SRT.out HP.out (.inr hpb) (by rw [if_pos hbp]))⟩
                  case measure => simp [intOf]; omega
                · have hc2 : ¬ 0 < cmpv p.2 b := by unfold cmpv; split <;> (try split) <;> omega
                  go_upto_region 21 with (fail)
                  have zc7 := cell_regrown c7; have zc8 := cell_regrown c8; have zc9 := cell_regrown c9; have zc10 := cell_regrown c10; have zc11 := cell_regrown c11; have zd7 := cell_regrown d7; have zd8 := cell_regrown d8; have zd9 := cell_regrown d9; have zd10 := cell_regrown d10; have zd11 := cell_regrown d11
                  clear c7 c8 c9 c10 c11 d7 d8 d9 d10 d11
                  have cq0 := fun (d : Nat) (os : Array Obj) => Calls.regrown_of (w := w5) (d := d) (os := os) (KH.out _)
                  refine wp_region_quiet_below (by kernel_rfl) (by kernel_rfl) ?_
                  repeat (first | go_big_quiet_step ((first | with_reducible exact cq0 _ _)) | quiet_step (first | with_reducible exact cq0 _ _))
                  refine wpQuiet_nil ?_
                  intro _ hw'
                  obtain ⟨⟨dq, osq⟩, hw''⟩ := hw'
                  subst hw''
                  clear zc7 zc8 zc9 zc10 zc11 zd7 zd8 zd9 zd10 zd11 cq0
                  have B6 := Lib.hid (btr B5.out (below_regrown w5 dq osq))
                  have Vw6 := Lib.hid (own_keep9 Vw5.out (below_regrown w5 dq osq))
                  generalize grow (redrawn w5 dq) osq = w6 at *
                  have MN : Hid (Mg w6 wo.heap.size (.slice (some ⟨g8, 0, none⟩) (Q0.length + 1) cap8) L (j + 1) (Q0 ++ [(a, b)])) := Lib.hid (mg_of Vw6.out (MG.out.2.take SRT.out HP.out (.inr hpb) (by rw [if_neg (by omega)])))
                  go_wp2
                  go_roundw
                  case rel => exact ⟨j + 1, _, by omega, by go_num, B6.out, MN.out⟩
                  case measure => simp [intOf]; omega
              · have hc1 : ¬ cmpv p.1 (b + 1) ≤ 0 := by unfold cmpv; split <;> (try split) <;> omega
                go_upto_region 20 with (fail)
                have zc2 := cell_regrown c2; have zc3 := cell_regrown c3; have zc4 := cell_regrown c4; have zc5 := cell_regrown c5; have zc6 := cell_regrown c6; have zn0 := cell_regrown n0; have zn1 := cell_regrown n1; have zn2 := cell_regrown n2; have zn3 := cell_regrown n3; have zn4 := cell_regrown n4
                clear c2 c3 c4 c5 c6 n0 n1 n2 n3 n4
                have cq0 := fun (d : Nat) (os : Array Obj) => Calls.regrown_of (w := w4) (d := d) (os := os) (KL.out _)
                refine wp_region_quiet_below (by kernel_rfl) (by kernel_rfl) ?_
                repeat (first | go_big_quiet_step ((first | with_reducible exact cq0 _ _)) | quiet_step (first | with_reducible exact cq0 _ _))
                refine wpQuiet_nil ?_
                intro _ hw'
                obtain ⟨⟨dq, osq⟩, hw''⟩ := hw'
                subst hw''
                clear zc2 zc3 zc4 zc5 zc6 zn0 zn1 zn2 zn3 zn4 cq0
                have B5 := Lib.hid (btr B4.out (below_regrown w4 dq osq))
                have Vw5 := Lib.hid (own_keep9 Vw4.out (below_regrown w4 dq osq))
                generalize grow (redrawn w4 dq) osq = w5 at *
                obtain ⟨c0, c1, c2, c3, c4, c5, c6, c7, c8, c9, c10, c11⟩ := (HCP.out w5 B5.out).twelve
                have HOQ2 := Vw5
                have hsz5 : wo.heap.size ≤ w5.heap.size := B5.out.size
                go_wp2_with (at_builtin; refine wpList_append_lies _ rfl (.tmp 121) (.tmp 126) 22 rfl wo.heap.size 37 i0 (V12 false false false 0 0 0 0 false 0 0 0 0) 12 88 und_spans hi0 hz0 hz1 hz2 rfl (by decide) (.slice (some ⟨g8, 0, none⟩) (Q0.length + 1) cap8) (Q0.length + 1) _ rfl (own_keep9 HOQ2.out (by repeat (first | (with_reducible exact Below.refl _ _) | (with_reducible refine bal ?_ _) | (with_reducible refine Below.drew ?_) | (with_reducible refine bdn ?_ _)))) ⟨w5.heap.size, 0, none⟩ 1 1 _ rfl rfl (news9 _ _ _ _ (by simp)) (by rw [← RP.out]; exact RS.cells_one _) (by decide) (by unfold maxLen; omega) (by omega) (by simp <;> omega) _ rfl ?_; intro g2 cap2 w7 hown2 hgr2 hat2 hlt2; have HO2 := Lib.hid hown2; have BN : Hid (Below wo.heap.size wo w7) := Lib.hid (Below.grown (by repeat (first | (with_reducible exact B5.out) | (with_reducible refine bal ?_ _) | (with_reducible refine Below.drew ?_) | (with_reducible refine bdn ?_ _))) hgr2 (by simp <;> omega) (fun q hq => (own_base9 HOQ2.out q hq).1)); clear hown2 hgr2 hat2 hlt2)
                have MN : Hid (Mg w7 wo.heap.size (.slice (some ⟨g2, 0, none⟩) (Q0.length + 1 + 1) cap2) L (j + 1) ((Q0 ++ [(a, b)]) ++ [p])) := Lib.hid ⟨by rw [List.map_append]; exact Bs.snoc (r := rawp p) (l := (Q0 ++ [(a, b)]).map rawp) (by rw [List.length_map, List.length_append, List.map_append]; exact HO2.out) rfl, MG.out.2.new SRT.out HP.out (fun q hq => by rcases List.mem_append.1 hq with hq | hq; (have h5 := K5.out q hq; omega); (have := List.mem_singleton.1 hq; subst this; show b + 2 ≤ p.1; omega))⟩
                go_roundw
                case rel => exact ⟨j + 1, _, by omega, by go_num, BN.out, MN.out⟩
                case measure => simp [intOf]; omega
        · have hge2 : ¬ (j : Int) < (L.length : Int) := by omega
          obtain rfl : j = L.length := by omega
          obtain ⟨wp, rfl⟩ : ∃ wp : World, wp = wr := ⟨_, rfl⟩
          have HIN := Lib.hid (mrg_isN MG.out.2 PU.out.mem)
          have HQL : Hid (Q.length ≤ L.length) := Lib.hid MG.out.2.len
          have HTZ : Hid (Bs wp wo.heap.size u8 (turned Q 0)) := Lib.hid (by rw [turned_zero]; exact MG.out.1)
          have hQ30 : Q.length ≤ 30 := Nat.le_trans HQL.out hL30
          have HE8 : Hid (∃ la lc, u8 = .slice la Q.length lc) := Lib.hid (by obtain ⟨la, lc, bb, h1, _⟩ := MG.out.1.form; exact ⟨la, lc, by rw [h1, List.length_map]⟩)
          clear hge hlt hj hge2
          obtain ⟨la8, lc8, e8⟩ := HE8.out
          subst e8
          clear HE8
          go_wp2
          go_loopw [13] (fun i wr => ∃ m : Nat, m ≤ Q.length ∧ i = .int .i64 m ∧ Hid (Below wo.heap.size wo wr) ∧ Hid (Bs wr wo.heap.size (.slice la8 Q.length lc8) (turned Q m))) (fun i _ => Q.length - (intOf i).toNat)
          case atStart => exact ⟨0, Nat.zero_le _, rfl, BX.out, HTZ.out⟩
          case round =>
            obtain ⟨m, hm, rfl, BY, TU⟩ := hrel
            by_cases hlt : m < Q.length
            · obtain ⟨q, hq⟩ : ∃ q, Q[m]? = some q := ⟨Q[m], List.getElem?_eq_getElem hlt⟩
              obtain ⟨g8, cap8, hv8, hO8⟩ := row_of TU.out (by rw [turned_len Q hm]; omega)
              rw [turned_len Q hm] at hv8 hO8
              obtain ⟨rfl, rfl⟩ : la8 = some ⟨g8, 0, none⟩ ∧ lc8 = cap8 := by injection hv8; exact ⟨by assumption, by assumption⟩
              have HOQ := Lib.hid hO8
              have hg8 := own_base9 hO8 g8 rfl
              obtain ⟨hg81, hg82⟩ := hg8
              obtain ⟨k1, k2, k3⟩ := sep_rng (Int.le_refl _) HIN.out.1 q (List.mem_of_getElem? hq)
              have hC : C12 wr g8 (m * 12) ⟨false, false, decide (q.1 < 0), q.1.natAbs, decide (q.2 < 0), q.2.natAbs⟩ := fun i u hu => own_at9 hO8 (csS_at (turned_at hq) hu)
              obtain ⟨c0, c1, c2, c3, c4, c5, c6, c7, c8, c9, c10, c11⟩ := hC.twelve
              clear hC
              obtain ⟨r, hr⟩ : ∃ r, rsp (ofSp q) = r := ⟨_, rfl⟩
              have kof := fun W => rof_any q.1 q.2 (by unfold inR; omega) (by unfold inR; omega) W
              rw [show ((q.1, q.2) : Int × Int) = q from rfl, hr] at kof
              have TN : Hid ((turned Q m).set m r = turned Q (m + 1)) := Lib.hid (by rw [← hr]; exact turned_next hq)
              obtain ⟨sl, sh, gl, xl, gh, xh⟩ := r
              have KO : Hid (∀ W, Calls Tryz.prog 46 #[.agg #[.bool (decide (q.1 < 0)), .int .u64 (lb 0 (q.1).natAbs), .int .u64 (lb 1 (q.1).natAbs), .int .u64 (lb 2 (q.1).natAbs), .int .u64 (lb 3 (q.1).natAbs)], .agg #[.bool (decide (q.2 < 0)), .int .u64 (lb 0 (q.2).natAbs), .int .u64 (lb 1 (q.2).natAbs), .int .u64 (lb 2 (q.2).natAbs), .int .u64 (lb 3 (q.2).natAbs)]] W fun e w' => e = .returned (V12 sl sh gl (lb 0 xl) (lb 1 xl) (lb 2 xl) (lb 3 xl) gh (lb 0 xh) (lb 1 xh) (lb 2 xh) (lb 3 xh)) ∧ Below W.heap.size W w') := Lib.hid kof
              have e2 : (0 : Int) ≤ (m : Int) := by omega
              have e3 : (m : Int) < (Q.length : Int) := by omega
              have HQ3 := Lib.hid hq
              clear hv8 hO8 hq hr kof
              go_upto_region 27 with (fail)
              refine wp_region_noPanic ?_
              refine wp_region_held_drew (S := fun _ => True) (by kernel_rfl) trivial (fun hHeld => ?_)
              refine wpAnyH_take (i := 0) (v := ?_) rfl (by kernel_rfl) (by kernel_rfl) (by kernel_rfl) (fun _ _ _ h => h) (Or.inl ⟨by rfl, ?_⟩) trivial ?_
              rotate_left
              · intro w hSw; (go_simp <;> with_reducible rfl)
              try simp only [Act.put, List.getElem_toArray, List.getElem_cons_zero, List.setIfInBounds_toArray, List.set_cons_zero, List.set_cons_succ]
              refine wpAnyH_take (i := 1) (v := ?_) rfl (by kernel_rfl) (by kernel_rfl) (by kernel_rfl) (fun _ _ _ h => h) (Or.inl ⟨by rfl, ?_⟩) trivial ?_
              rotate_left
              · intro w hSw; (go_simp <;> with_reducible rfl)
              try simp only [Act.put, List.getElem_toArray, List.getElem_cons_succ, List.getElem_cons_zero, List.setIfInBounds_toArray, List.set_cons_zero, List.set_cons_succ]
              refine wpAnyH_take (i := 2) (v := ?_) rfl (by kernel_rfl) (by kernel_rfl) (by kernel_rfl) (fun _ _ _ h => h) (Or.inl ⟨by rfl, ?_⟩) trivial ?_
              rotate_left
              · intro w hSw; (go_simp <;> with_reducible rfl)
              try simp only [Act.put, List.getElem_toArray, List.getElem_cons_succ, List.getElem_cons_zero, List.setIfInBounds_toArray, List.set_cons_zero, List.set_cons_succ]
              refine wpAnyH_take (i := 3) (v := ?_) rfl (by kernel_rfl) (by kernel_rfl) (by kernel_rfl) (fun _ _ _ h => h) (Or.inl ⟨by rfl, ?_⟩) trivial ?_
              rotate_left
              · intro w hSw; (go_simp <;> with_reducible rfl)
              try simp only [Act.put, List.getElem_toArray, List.getElem_cons_succ, List.getElem_cons_zero, List.setIfInBounds_toArray, List.set_cons_zero, List.set_cons_succ]
              refine wpAnyH_take (i := 4) (v := ?_) rfl (by kernel_rfl) (by kernel_rfl) (by kernel_rfl) (fun _ _ _ h => h) (Or.inl ⟨by rfl, ?_⟩) trivial ?_
              rotate_left
              · intro w hSw; (go_simp <;> with_reducible rfl)
              try simp only [Act.put, List.getElem_toArray, List.getElem_cons_succ, List.getElem_cons_zero, List.setIfInBounds_toArray, List.set_cons_zero, List.set_cons_succ]
              refine wpAnyH_take (i := 5) (v := ?_) rfl (by kernel_rfl) (by kernel_rfl) (by kernel_rfl) (fun _ _ _ h => h) (Or.inl ⟨by rfl, ?_⟩) trivial ?_
              rotate_left
              · intro w hSw; (go_simp <;> with_reducible rfl)
              try simp only [Act.put, List.getElem_toArray, List.getElem_cons_succ, List.getElem_cons_zero, List.setIfInBounds_toArray, List.set_cons_zero, List.set_cons_succ]
              refine wpAnyH_take (i := 7) (v := ?_) rfl (by kernel_rfl) (by kernel_rfl) (by kernel_rfl) (fun _ _ _ h => h) (Or.inl ⟨by rfl, ?_⟩) trivial ?_
              rotate_left
              · intro w hSw; (go_simp <;> with_reducible rfl)
              try simp only [Act.put, List.getElem_toArray, List.getElem_cons_succ, List.getElem_cons_zero, List.setIfInBounds_toArray, List.set_cons_zero, List.set_cons_succ]
              refine wpAnyH_take (i := 8) (v := ?_) rfl (by kernel_rfl) (by kernel_rfl) (by kernel_rfl) (fun _ _ _ h => h) (Or.inl ⟨by rfl, ?_⟩) trivial ?_
              rotate_left
              · intro w hSw; (go_simp <;> with_reducible rfl)
              try simp only [Act.put, List.getElem_toArray, List.getElem_cons_succ, List.getElem_cons_zero, List.setIfInBounds_toArray, List.set_cons_zero, List.set_cons_succ]
              refine wpAnyH_take (i := 9) (v := ?_) rfl (by kernel_rfl) (by kernel_rfl) (by kernel_rfl) (fun _ _ _ h => h) (Or.inl ⟨by rfl, ?_⟩) trivial ?_
              rotate_left
              · intro w hSw; (go_simp <;> with_reducible rfl)
              try simp only [Act.put, List.getElem_toArray, List.getElem_cons_succ, List.getElem_cons_zero, List.setIfInBounds_toArray, List.set_cons_zero, List.set_cons_succ]
              refine wpAnyH_take (i := 10) (v := ?_) rfl (by kernel_rfl) (by kernel_rfl) (by kernel_rfl) (fun _ _ _ h => h) (Or.inl ⟨by rfl, ?_⟩) trivial ?_
              rotate_left
              · intro w hSw; (go_simp <;> with_reducible rfl)
              try simp only [Act.put, List.getElem_toArray, List.getElem_cons_succ, List.getElem_cons_zero, List.setIfInBounds_toArray, List.set_cons_zero, List.set_cons_succ]
              refine wpAnyH_ready (rs := [6, 11]) (by kernel_rfl) (by simp) ?_
              refine AllReadyH.cons rfl (fun K hK => ?_) (AllReadyH.cons rfl (fun K hK => ?_) AllReadyH.nil)
              · go_simp
                refine hK.out _ _ trivial (fun hHeld => ?_)
                clear hK K
                try simp only [Act.put, List.getElem_toArray, List.getElem_cons_succ, List.getElem_cons_zero, List.setIfInBounds_toArray, List.set_cons_zero, List.set_cons_succ]
                refine wpAnyH_ready (rs := [11]) (by kernel_rfl) (by simp) ?_
                refine AllReadyH.cons rfl (fun K hK => ?_) AllReadyH.nil
                go_simp
                refine hK.out _ _ trivial (fun hHeld => ?_)
                clear hK K
                try simp only [Act.put, List.getElem_toArray, List.getElem_cons_succ, List.getElem_cons_zero, List.setIfInBounds_toArray, List.set_cons_zero, List.set_cons_succ]
                refine wpAnyH_ready (rs := [12]) (by kernel_rfl) (by simp) ?_
                refine AllReadyH.cons rfl (fun K hK => ?_) AllReadyH.nil
                go_simp
                (go_at_call 46; (with_reducible refine (KO.out _).mono ?_); rintro e w3 ⟨rfl, hb⟩)
                have HO3 := Lib.hid (own_keep9 (HOQ.out.drew) hb)
                have B3 := Lib.hid (btr (Below.drew BY.out) hb)
                clear hb c0 c1 c2 c3 c4 c5 c6 c7 c8 c9 c10 c11
                refine hK.out _ _ trivial (fun hHeld => ?_)
                clear hK K
                try simp only [Act.put, List.getElem_toArray, List.getElem_cons_succ, List.getElem_cons_zero, List.setIfInBounds_toArray, List.set_cons_zero, List.set_cons_succ]
                have hC3 : C12 w3 g8 (m * 12) ⟨false, false, decide (q.1 < 0), q.1.natAbs, decide (q.2 < 0), q.2.natAbs⟩ := fun i u hu => own_at9 HO3.out (csS_at (turned_at HQ3.out) hu)
                obtain ⟨c0, c1, c2, c3, c4, c5, c6, c7, c8, c9, c10, c11⟩ := hC3.twelve
                have f0 := own_free9 HO3.out (m * 12 + 0); have f1 := own_free9 HO3.out (m * 12 + 1); have f2 := own_free9 HO3.out (m * 12 + 2); have f3 := own_free9 HO3.out (m * 12 + 3); have f4 := own_free9 HO3.out (m * 12 + 4); have f5 := own_free9 HO3.out (m * 12 + 5); have f6 := own_free9 HO3.out (m * 12 + 6); have f7 := own_free9 HO3.out (m * 12 + 7); have f8 := own_free9 HO3.out (m * 12 + 8); have f9 := own_free9 HO3.out (m * 12 + 9); have f10 := own_free9 HO3.out (m * 12 + 10); have f11 := own_free9 HO3.out (m * 12 + 11)
                rw [Nat.add_zero] at f0
                clear hC3
                refine wpAnyH_take (i := 13) (v := ?_) rfl (by kernel_rfl) (by kernel_rfl) (by kernel_rfl) (fun _ _ _ h => h) (Or.inl ⟨by rfl, ?_⟩) trivial ?_
                rotate_left
                · intro w hSw; (go_simp <;> with_reducible rfl)
                try simp only [Act.put, List.getElem_toArray, List.getElem_cons_succ, List.getElem_cons_zero, List.setIfInBounds_toArray, List.set_cons_zero, List.set_cons_succ]
                refine wpAnyH_ready (rs := [14]) (by kernel_rfl) (by simp) ?_
                refine AllReadyH.cons rfl (fun K hK => ?_) AllReadyH.nil
                go_simp
                refine hK.out _ _ trivial (fun hHeld => ?_)
                clear hK K
                try simp only [Act.put, List.getElem_toArray, List.getElem_cons_succ, List.getElem_cons_zero, List.setIfInBounds_toArray, List.set_cons_zero, List.set_cons_succ]
                refine wpAnyH_done (by kernel_rfl) ?_ _
                refine NoPanic.normal ?_
                have HPU := Lib.hid (own_set12 (p := m * 12) (⟨sl, sh, gl, xl, gh, xh⟩ : RS) HO3.out)
                have HPT : Hid (set12 (csS (turned Q m)) (m * 12) ⟨sl, sh, gl, xl, gh, xh⟩ = csS (turned Q (m + 1))) := Lib.hid (by rw [set12_cs _ (by rw [turned_len Q hm]; exact hlt), TN.out])
                go_wp2
                go_roundw
                case rel => exact ⟨m + 1, by omega, by go_num, Lib.hid (by repeat (first | (with_reducible exact B3.out) | ((with_reducible refine bsc ?_ ?_ _); rotate_left; (focus (simp only []; omega))))), (show Bs _ _ _ _ from by unfold Bs; rw [turned_len Q (by omega), ← HPT.out]; exact HPU.out)⟩
                case measure => simp [intOf]; omega
              · go_simp
                refine hK.out _ _ trivial (fun hHeld => ?_)
                clear hK K
                try simp only [Act.put, List.getElem_toArray, List.getElem_cons_succ, List.getElem_cons_zero, List.setIfInBounds_toArray, List.set_cons_zero, List.set_cons_succ]
                refine wpAnyH_ready (rs := [6]) (by kernel_rfl) (by simp) ?_
                refine AllReadyH.cons rfl (fun K hK => ?_) AllReadyH.nil
                go_simp
                refine hK.out _ _ trivial (fun hHeld => ?_)
                clear hK K
                try simp only [Act.put, List.getElem_toArray, List.getElem_cons_succ, List.getElem_cons_zero, List.setIfInBounds_toArray, List.set_cons_zero, List.set_cons_succ]
                refine wpAnyH_ready (rs := [12]) (by kernel_rfl) (by simp) ?_
                refine AllReadyH.cons rfl (fun K hK => ?_) AllReadyH.nil
                go_simp
                (go_at_call 46; (with_reducible refine (KO.out _).mono ?_); rintro e w3 ⟨rfl, hb⟩)
                have HO3 := Lib.hid (own_keep9 (HOQ.out.drew) hb)
                have B3 := Lib.hid (btr (Below.drew BY.out) hb)
                clear hb c0 c1 c2 c3 c4 c5 c6 c7 c8 c9 c10 c11
                refine hK.out _ _ trivial (fun hHeld => ?_)
                clear hK K
                try simp only [Act.put, List.getElem_toArray, List.getElem_cons_succ, List.getElem_cons_zero, List.setIfInBounds_toArray, List.set_cons_zero, List.set_cons_succ]
                have hC3 : C12 w3 g8 (m * 12) ⟨false, false, decide (q.1 < 0), q.1.natAbs, decide (q.2 < 0), q.2.natAbs⟩ := fun i u hu => own_at9 HO3.out (csS_at (turned_at HQ3.out) hu)
                obtain ⟨c0, c1, c2, c3, c4, c5, c6, c7, c8, c9, c10, c11⟩ := hC3.twelve
                have f0 := own_free9 HO3.out (m * 12 + 0); have f1 := own_free9 HO3.out (m * 12 + 1); have f2 := own_free9 HO3.out (m * 12 + 2); have f3 := own_free9 HO3.out (m * 12 + 3); have f4 := own_free9 HO3.out (m * 12 + 4); have f5 := own_free9 HO3.out (m * 12 + 5); have f6 := own_free9 HO3.out (m * 12 + 6); have f7 := own_free9 HO3.out (m * 12 + 7); have f8 := own_free9 HO3.out (m * 12 + 8); have f9 := own_free9 HO3.out (m * 12 + 9); have f10 := own_free9 HO3.out (m * 12 + 10); have f11 := own_free9 HO3.out (m * 12 + 11)
                rw [Nat.add_zero] at f0
                clear hC3
                refine wpAnyH_take (i := 13) (v := ?_) rfl (by kernel_rfl) (by kernel_rfl) (by kernel_rfl) (fun _ _ _ h => h) (Or.inl ⟨by rfl, ?_⟩) trivial ?_
                rotate_left
                · intro w hSw; (go_simp <;> with_reducible rfl)
                try simp only [Act.put, List.getElem_toArray, List.getElem_cons_succ, List.getElem_cons_zero, List.setIfInBounds_toArray, List.set_cons_zero, List.set_cons_succ]
                refine wpAnyH_ready (rs := [14]) (by kernel_rfl) (by simp) ?_
                refine AllReadyH.cons rfl (fun K hK => ?_) AllReadyH.nil
                go_simp
                refine hK.out _ _ trivial (fun hHeld => ?_)
                clear hK K
                try simp only [Act.put, List.getElem_toArray, List.getElem_cons_succ, List.getElem_cons_zero, List.setIfInBounds_toArray, List.set_cons_zero, List.set_cons_succ]
                refine wpAnyH_done (by kernel_rfl) ?_ _
                refine NoPanic.normal ?_
                have HPU := Lib.hid (own_set12 (p := m * 12) (⟨sl, sh, gl, xl, gh, xh⟩ : RS) HO3.out)
                have HPT : Hid (set12 (csS (turned Q m)) (m * 12) ⟨sl, sh, gl, xl, gh, xh⟩ = csS (turned Q (m + 1))) := Lib.hid (by rw [set12_cs _ (by rw [turned_len Q hm]; exact hlt), TN.out])
                go_wp2
                go_roundw
                case rel => exact ⟨m + 1, by omega, by go_num, Lib.hid (by repeat (first | (with_reducible exact B3.out) | ((with_reducible refine bsc ?_ ?_ _); rotate_left; (focus (simp only []; omega))))), (show Bs _ _ _ _ from by unfold Bs; rw [turned_len Q (by omega), ← HPT.out]; exact HPU.out)⟩
                case measure => simp [intOf]; omega
            · have hge3 : ¬ (m : Int) < (Q.length : Int) := by omega
              obtain rfl : m = Q.length := by omega
              have HF := Lib.hid (show Bs wr wo.heap.size (.slice la8 Q.length lc8) (Q.map fun p => rsp (ofSp p)) from by have := TU.out; rw [turned_all] at this; exact this)
              go_wp2
              go_ret
              exact ⟨_, rfl, Q, own_mono9 HF.out BW.out.size, HIN.out, Nat.le_trans HQL.out (Nat.le_trans PU.out.len hk), btr BW.out BY.out⟩
end Go.Proofs.YtjlgiejggcbgbaaGreatDoor
