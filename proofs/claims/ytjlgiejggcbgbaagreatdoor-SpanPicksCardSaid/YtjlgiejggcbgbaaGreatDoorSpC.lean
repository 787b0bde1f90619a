/-
  Edges as they lie in memory: seven cells each; the function that a sweep sorts by; slices.SortFunc at edges: the contract.
-/
import Derived.Test.YtjlgiejggcbgbaaGreatDoorSpB
import Derived.Test.YtjlgiejggcbgbaaGreatDoorSpGr
import Derived.Test.YtjlgiejggcbgbaaGreatDoorSpSort
namespace Go.Proofs.YtjlgiejggcbgbaaGreatDoor
open Go.RowKit Go.Shelf
open Go.Sort (grow SWO PermIn SortedIn HoldsK putRowK)

/-- A number that may be. -/
abbrev Zr := {z : Int // z.natAbs < 2 ^ 256}
instance : Inhabited Zr := ⟨⟨0, by decide⟩⟩
abbrev Ev := Zr × Int × Int
/-- An edge's seven cells. -/
def encE (e : Ev) : List Value := [.bool (decide (e.1.val < 0)), .int .u64 (lb 0 e.1.val.natAbs), .int .u64 (lb 1 e.1.val.natAbs), .int .u64 (lb 2 e.1.val.natAbs), .int .u64 (lb 3 e.1.val.natAbs), .int .i64 e.2.1, .int .i64 e.2.2]
theorem encE_len (e : Ev) : (encE e).length = 7 := rfl
theorem encE_one (e : Ev) : ∀ u ∈ encE e, u.oneCell' = true := by
  intro u hu
  simp only [encE, List.mem_cons, List.not_mem_nil, or_false] at hu
  rcases hu with rfl | rfl | rfl | rfl | rfl | rfl | rfl <;> rfl
def cfE (x y : Ev) : Int := cmpv x.1.val y.1.val
theorem ltE (x y : Ev) : ltOf cfE x y = decide (x.1.val < y.1.val) := by
  unfold ltOf cfE
  exact cmpv_neg9 _ _
theorem swoE : SWO (ltOf cfE) where
  irrefl x := by rw [ltE]; simp
  trans x y z h1 h2 := by rw [ltE] at *; simp at *; omega
  ntrans x y z h1 h2 := by rw [ltE] at *; simp at *; omega

set_option maxRecDepth 100000 in
theorem sweepcmp_core (g : Bool) (x0 x1 x2 x3 k m : Int) (h : Bool) (y0 y1 y2 y3 k' m' : Int) (c : Int)
    (k1 : ∀ W, Calls Tryz.prog 43 #[.agg #[.bool g, .int .u64 x0, .int .u64 x1, .int .u64 x2, .int .u64 x3], .agg #[.bool h, .int .u64 y0, .int .u64 y1, .int .u64 y2, .int .u64 y3]] W fun e w' => e = .returned (.int .i64 c) ∧ Gr W w') (w : World) :
    Calls Tryz.prog 61 #[.agg #[.bool g, .int .u64 x0, .int .u64 x1, .int .u64 x2, .int .u64 x3, .int .i64 k, .int .i64 m], .agg #[.bool h, .int .u64 y0, .int .u64 y1, .int .u64 y2, .int .u64 y3, .int .i64 k', .int .i64 m']] w fun e w' => e = .returned (.int .i64 c) ∧ Gr w w' := by
  have K1 := Lib.hid k1; clear k1
  go_enter Tryz.func61, Tryz.ntmps61
  go_wp2_with (go_at_call 43; ((with_reducible refine (K1.out _).mono ?_); rintro e w1 ⟨rfl, hb1⟩))
  go_ret
  exact ⟨rfl, gtr (gal (gal (Gr.refl _) _) _) hb1⟩
theorem sweepcmp (x y : Ev) (W : World) : Calls Tryz.prog 61 #[.agg (encE x).toArray, .agg (encE y).toArray] W fun e w' => e = .returned (.int .i64 (cfE x y)) ∧ ∃ q os', w' = grow (W.drewN q) os' :=
  (sweepcmp_core _ _ _ _ _ _ _ _ _ _ _ _ _ _ _ (fun V => gcmp_z x.1.val y.1.val x.1.property y.1.property V) W).mono fun _ _ ⟨he, hg⟩ => ⟨he, hg.grown⟩

/-- The cells of edges, one behind the other. -/
def csE (l : List Ev) : List Value := l.flatMap encE
theorem csE_len (l : List Ev) : (csE l).length = l.length * 7 := by
  unfold csE
  induction l with
  | nil => rfl
  | cons t l ih => rw [List.flatMap_cons, List.length_append, ih, encE_len, List.length_cons]; omega
theorem csE_one (l : List Ev) : ∀ u ∈ csE l, u.oneCell' = true := by
  intro u hu
  unfold csE at hu
  obtain ⟨t, _, h⟩ := List.mem_flatMap.1 hu
  exact encE_one t u h
theorem csE_app (l m : List Ev) : csE (l ++ m) = csE l ++ csE m := by unfold csE; rw [List.flatMap_append]
theorem csE_at : ∀ {l : List Ev} {k j : Nat} {r : Ev} {u : Value}, l[k]? = some r → (encE r)[j]? = some u → (csE l)[k * 7 + j]? = some u := by
  intro l
  induction l with
  | nil => intro k j r u h; simp at h
  | cons a l ih =>
    intro k j r u h hu
    have hj : j < 7 := by have := (List.getElem?_eq_some_iff.1 hu).1; rwa [encE_len] at this
    have e : csE (a :: l) = encE a ++ csE l := by unfold csE; rw [List.flatMap_cons]
    rw [e]
    cases k with
    | zero =>
      simp at h
      subst h
      rw [List.getElem?_append_left (by rw [encE_len]; omega), show 0 * 7 + j = j by omega]
      exact hu
    | succ k =>
      rw [List.getElem?_append_right (by rw [encE_len]; omega), encE_len, show (k + 1) * 7 + j - 7 = k * 7 + j by omega]
      exact ih (by simpa using h) hu
/-- A row of edges that the call owns, its block from base on. -/
def Be (W : World) (base : Nat) (v : Value) (l : List Ev) : Prop := W.ownsRow base 76 7 v l.length (csE l)
theorem Be.keep {W W' : World} {base : Nat} {v : Value} {l : List Ev} (h : Be W base v l) (hb : Below W.heap.size W W') : Be W' base v l := own_keep9 h hb
/-- A block that holds edges, one behind the other. -/
def LE (w : World) (g : Nat) (l : List Ev) : Prop := ∀ i e, l[i]? = some e → ∀ j u, (encE e)[j]? = some u → w.cell? ⟨g, i * 7 + j, none⟩ = some u
theorem LE.keep {w w' : World} {g : Nat} {l : List Ev} (h : LE w g l) (hb : Below w.heap.size w w') : LE w' g l := fun i e hi j u hj => cell_keep9 hb (h i e hi j u hj)
theorem LE.seven {w : World} {g i : Nat} {l : List Ev} {e : Ev} (h : LE w g l) (hi : l[i]? = some e) :
    w.cell? ⟨g, i * 7, none⟩ = some (.bool (decide (e.1.val < 0))) ∧ w.cell? ⟨g, i * 7 + 1, none⟩ = some (.int .u64 (lb 0 e.1.val.natAbs)) ∧ w.cell? ⟨g, i * 7 + 2, none⟩ = some (.int .u64 (lb 1 e.1.val.natAbs)) ∧ w.cell? ⟨g, i * 7 + 3, none⟩ = some (.int .u64 (lb 2 e.1.val.natAbs)) ∧ w.cell? ⟨g, i * 7 + 4, none⟩ = some (.int .u64 (lb 3 e.1.val.natAbs)) ∧ w.cell? ⟨g, i * 7 + 5, none⟩ = some (.int .i64 e.2.1) ∧ w.cell? ⟨g, i * 7 + 6, none⟩ = some (.int .i64 e.2.2) :=
  ⟨h i e hi 0 _ rfl, h i e hi 1 _ rfl, h i e hi 2 _ rfl, h i e hi 3 _ rfl, h i e hi 4 _ rfl, h i e hi 5 _ rfl, h i e hi 6 _ rfl⟩

/-- slices.SortFunc at edges that the call owns. -/
theorem sortE (base : Nat) (g cap : Nat) (l : List Ev) (w : World) (h : Be w base (.slice (some ⟨g, 0, none⟩) l.length cap) l) (hl : l.length < 4611686018427387904) :
    Calls Tryz.prog 60 #[.slice (some ⟨g, 0, none⟩) l.length cap, .func (.func 61) #[] #[]] w fun e w' => e = .returned (.tuple #[]) ∧ ∃ l' : List Ev, l'.Perm l ∧ l'.Pairwise (fun a b => a.1.val ≤ b.1.val) ∧ LE w' g l' ∧ w.grownBy w' (some g) := by
  have hlt : g < w.heap.size := (own_base9 h g rfl).2
  have hH : HoldsK encE 7 w g 0 l.toArray := by
    intro j hj
    rw [Go.Sort.size_flatK] at hj
    have hj' : j < l.length * 7 := by simpa using hj
    rw [Go.Sort.get_flatK _ _ _ _ hj]
    have hd : j / 7 < l.length := by omega
    have hm : j % 7 < 7 := Nat.mod_lt _ (by omega)
    have e1 : l[j / 7]? = some (l.toArray[j / 7]!) := by rw [getElem!_pos _ _ (by simpa using hd)]; simp [hd]
    have e2 : ∀ q : Ev, (encE q)[j % 7]? = some ((encE q)[j % 7]!) := fun q => by rw [getElem!_pos _ _ (by rw [encE_len]; exact hm)]; exact List.getElem?_eq_getElem _
    have := World.ownsRow.cells h (g := g) rfl _ _ (csE_at e1 (e2 _))
    rw [addr_add9] at this
    refine ⟨by show w.cell? _ = some (id _); rw [id]; rw [← this]; congr 2; omega, ?_⟩
    rcases h.2 with ⟨h2, _⟩ | ⟨g', cap', cur, h3, _, h5, _⟩
    · cases h2
    · cases h3
      exact frozen_of_row w g _ cur _ h5
  have hcon := AnyQ.slices_SortFunc Tryz.sortE 7 Tryz.isAgg76 Tryz.sizeOf76 encE (fun _ => rfl) encE_one cfE swoE 61 #[] g 0 cap l.toArray w (enters_of Tryz.func61 (by kernel_rfl) rfl) (fun _ _ _ _ x y => sweepcmp x y _) hH hlt (by simpa using hl)
  change Calls Tryz.prog 60 _ _ _ at hcon
  have hsz : l.toArray.size = l.length := by simp
  rw [hsz] at hcon
  refine hcon.mono ?_
  rintro e w' ⟨rfl, d', n, os, hp, hs, rfl⟩
  have hds : d'.size = l.length := by have := hp.1; rwa [hsz] at this
  refine ⟨rfl, d'.toList, ?_, ?_, ?_, ?_⟩
  · have := hp.2.2
    have e1 : d'.extract 0 l.length = d' := by rw [← hds]; simp
    have e2 : l.toArray.extract 0 l.length = l.toArray := by rw [← hsz]; simp
    rw [e1, e2] at this
    simpa using this
  · rw [List.pairwise_iff_getElem]
    intro i j hi hj hij
    have hj' : j < l.length := by rw [← hds]; simpa using hj
    have := hs i j (Nat.zero_le _) hij hj'
    rw [ltE] at this
    have h1 := of_decide_eq_false this
    rw [getElem!_pos d' i (by omega), getElem!_pos d' j (by omega)] at h1
    simp only [Array.getElem_toList]
    omega
  · intro i e hi j u hj
    have hj7 : j < 7 := by have := (List.getElem?_eq_some_iff.1 hj).1; rwa [encE_len] at this
    have hi' : i < d'.size := by have := (List.getElem?_eq_some_iff.1 hi).1; simpa using this
    have hK := holdsK_sortWorldK_c encE 7 w g 0 l.toArray d' n os hH hlt (by rw [hds, hsz])
    have := (hK.cell hi' hj7).1
    rw [Nat.zero_add] at this
    rw [this]
    have he : d'[i]! = e := by
      rw [getElem!_pos d' i hi']
      have := (List.getElem?_eq_some_iff.1 hi).2
      simpa using this
    rw [he, getElem!_pos (encE e) j (by rw [encE_len]; exact hj7)]
    exact ((List.getElem?_eq_some_iff.1 hj).2 ▸ rfl)
  · refine ⟨rfl, rfl, rfl, ?_, fun k hk hne => ?_⟩
    · simp [sortWorldK, grow, putRowK]
    · have hkg : k ≠ g := fun h => hne (by rw [h])
      have e1 : (sortWorldK encE 7 w g 0 n d' os).heap[k]? = (w.heap.modify g (Go.Sort.onCells (Go.Sort.putCells id 0 (Go.Sort.flatK encE 7 d'))))[k]? := by
        simp only [sortWorldK, grow, putRowK, Go.Sort.putRow, Go.Sort.mapBlock]
        rw [Array.getElem?_append_left (by simpa using hk)]
        rfl
      rw [e1, Array.getElem?_modify, if_neg (Ne.symm hkg)]
end Go.Proofs.YtjlgiejggcbgbaaGreatDoor
