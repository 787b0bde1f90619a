/-
  Rows of bytes that grow by append, from call to call: facts on memory. No walk.
-/
import Derived.Test.YtebfggiodhaahaaGreatDoorCbMath
import Derived.Test.YtebfggiodhaahaaGreatDoorOwnRow
import Derived.Laws.BytesArg
namespace Go.Proofs.YtebfggiodhaahaaGreatDoor
open Go.RowKit Go.Shelf

/-- Bytes as cells. -/
def U8s (l : List UInt8) : List Value := l.map fun b => Value.int .u8 (b.toNat : Int)
@[simp] theorem U8s_len (l : List UInt8) : (U8s l).length = l.length := by simp [U8s]
theorem U8s_app (l m : List UInt8) : U8s (l ++ m) = U8s l ++ U8s m := by simp [U8s]
theorem U8s_one (l : List UInt8) : ∀ u ∈ U8s l, u.oneCell' = true := by
  intro u hu
  obtain ⟨b, _, rfl⟩ := List.mem_map.1 hu
  rfl
/-- A row of bytes that the call owns, its blocks from base on. -/
def Bo (W : World) (base : Nat) (v : Value) (l : List UInt8) : Prop := W.ownsRow base 5 1 v l.length (U8s l)
theorem Bo.nil (W : World) (base : Nat) : Bo W base (.slice none 0 0) [] := World.ownsRow_nil _ _ _ _
theorem Bo.alloc {W : World} {base : Nat} {v : Value} {l : List UInt8} (h : Bo W base v l) (o : Obj) : Bo (W.alloc o) base v l := World.ownsRow.alloc h o
theorem Bo.keep {W W' : World} {base : Nat} {v : Value} {l : List UInt8} (h : Bo W base v l) (hb : Below W.heap.size W W') : Bo W' base v l := by
  refine ⟨h.1, ?_⟩
  rcases h.2 with h2 | ⟨g, cap, cur, h3, h4, h5, h6⟩
  · exact Or.inl h2
  · exact Or.inr ⟨g, cap, cur, h3, h4, by rw [hb.block g (Array.getElem?_eq_some_iff.1 h5).1]; exact h5, h6⟩
/-- What a row of bytes looks like. -/
theorem Bo.form {W : World} {base : Nat} {v : Value} {l : List UInt8} (h : Bo W base v l) : (l = [] ∧ v = .slice none 0 0) ∨ ∃ g cap, v = .slice (some ⟨g, 0, none⟩) l.length cap ∧ base ≤ g ∧ g < W.heap.size ∧ l.length ≤ cap ∧ cap ≤ maxLen ∧ ∀ i b, l[i]? = some b → W.cell? ⟨g, i, none⟩ = some (.int .u8 (b.toNat : Int)) := by
  have h' := h
  rcases h.2 with ⟨h2, h3⟩ | ⟨g, cap, cur, h3, h4, h5, h6, h7, _⟩
  · exact Or.inl ⟨List.eq_nil_of_length_eq_zero h3, h2⟩
  · refine Or.inr ⟨g, cap, h3, h4, (Array.getElem?_eq_some_iff.1 h5).1, h6, h7, fun i b hi => ?_⟩
    have := World.ownsRow.cells h' (g := g) (by rw [h3]; rfl) i (.int .u8 (b.toNat : Int)) (by unfold U8s; rw [List.getElem?_map, hi]; rfl)
    rwa [addr_add, Nat.zero_add] at this
/-- What a call that appends does to memory: it writes to the row's own block and to new ones alone, and the new row lies in the one or in the others. -/
structure Onto (w w' : World) (v v' : Value) : Prop where
  grown : w.grownBy w' v.ownBlock
  lies : v'.ownBlock = v.ownBlock ∨ ∃ g, v'.ownBlock = some g ∧ w.heap.size ≤ g
theorem Onto.refl (w : World) (v : Value) : Onto w w v v := ⟨⟨rfl, rfl, rfl, Nat.le_refl _, fun _ _ _ => rfl⟩, Or.inl rfl⟩
theorem Onto.trans {w0 w1 w2 : World} {v0 v1 v2 : Value} (h : Onto w0 w1 v0 v1) (k : Onto w1 w2 v1 v2) : Onto w0 w2 v0 v2 := by
  have hg := h.grown; have kg := k.grown
  refine ⟨⟨kg.os.trans hg.os, kg.tape.trans hg.tape, kg.output.trans hg.output, Nat.le_trans hg.size kg.size, fun i hi hne => ?_⟩, ?_⟩
  · rw [kg.block i (Nat.lt_of_lt_of_le hi hg.size) ?_, hg.block i hi hne]
    rcases h.lies with e | ⟨g, e, hge⟩
    · rw [e]; exact hne
    · rw [e]; intro hc; have := Option.some.inj hc; omega
  · rcases k.lies with e | ⟨g, e, hge⟩
    · rcases h.lies with e2 | ⟨g2, e2, hge2⟩
      · exact Or.inl (e.trans e2)
      · exact Or.inr ⟨g2, e.trans e2, hge2⟩
    · exact Or.inr ⟨g, e, Nat.le_trans hg.size hge⟩
theorem Onto.below {w0 w1 w2 : World} {v0 v1 : Value} (h : Onto w0 w1 v0 v1) (hb : Below w1.heap.size w1 w2) : Onto w0 w2 v0 v1 :=
  ⟨⟨hb.os.trans h.grown.os, hb.tape.trans h.grown.tape, hb.output.trans h.grown.output, Nat.le_trans h.grown.size hb.size, fun i hi hne => (hb.block i (Nat.lt_of_lt_of_le hi h.grown.size)).trans (h.grown.block i hi hne)⟩, h.lies⟩
theorem Onto.of {w w' : World} (hb : Below w.heap.size w w') (v : Value) : Onto w w' v v := (Onto.refl w v).below hb
/-- Below the base all is as it was. -/
theorem Onto.frame {w w' : World} {v v' : Value} {base : Nat} {l : List UInt8} (h : Onto w w' v v') (hB : base ≤ w.heap.size) (ho : Bo w base v l) : Below base w w' :=
  ⟨h.grown.os, h.grown.tape, h.grown.output, h.grown.size, fun k hk => h.grown.block k (Nat.lt_of_lt_of_le hk hB) (fun e => by have := (World.ownsRow.lt ho k e.symm).1; omega)⟩
theorem Onto.size {w w' : World} {v v' : Value} (h : Onto w w' v v') : w.heap.size ≤ w'.heap.size := h.grown.size
/-- Behind an append as the law tells it. -/
theorem Onto.app {w0 w1 w2 : World} {v0 v1 : Value} {g H : Nat} (n c : Nat) (h : Onto w0 w1 v0 v1) (hg : w1.grownBy w2 v1.ownBlock) (hat : v1.ownBlock = some g ∨ g = H) (hH : w1.heap.size ≤ H) : Onto w0 w2 v0 (.slice (some ⟨g, 0, none⟩) n c) := by
  refine h.trans ⟨hg, ?_⟩
  rcases hat with e | e
  · exact Or.inl e.symm
  · exact Or.inr ⟨g, rfl, by omega⟩
theorem info_u8 : (Tryz.prog.info? 5).map (fun i => (i.zero, i.size, i.bytes)) = some (some (.int .u8 0), 1, 1) := by kernel_rfl
theorem und_u8s : Tryz.prog.underlying 22 = some (.slice 5) := by kernel_rfl
end Go.Proofs.YtebfggiodhaahaaGreatDoor
