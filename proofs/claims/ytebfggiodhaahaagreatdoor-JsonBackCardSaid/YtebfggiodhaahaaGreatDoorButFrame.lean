/-
  A frame that leaves out one block: what a reader's methods do to memory (they turn their own struct, and else make new blocks alone).
-/
import Derived.Test.YtebfggiodhaahaaGreatDoorGA
import Derived.Test.YtebfggiodhaahaaGreatDoorGH
import Derived.Test.YtebfggiodhaahaaGreatDoorGC
import Derived.BigQuiet
import Derived.BigRegion
import Derived.Deep.AppendLies
import Derived.Deep.Cut
import Derived.Deep.DeepCutAuto
import Derived.Deep.OwnRows
import Derived.Deep.QuietTactic
import Derived.Laws.AppendOwn
import Derived.Laws.Rows
import Derived.Lib.Hide
import Derived.Lib.ItoaNum
import Derived.Lib.ItoaWalk
import Derived.Lib.QuietBelow
import Derived.LoopTactic
import Derived.RegionTactic
import Derived.RowKit
import Derived.RowKit3
import Derived.Shelf.Strings.SlTrimAscii
import Derived.Shelf.Strings.Trim
import Derived.WalkKit
import Derived.WalkLawsBesides
import Derived.WalkSpells
namespace Go.Proofs.YtebfggiodhaahaaGreatDoor
open Go.RowKit Go.Shelf

/-- Below N the world w' is as w was, but for the block B. -/
structure But (N B : Nat) (w w' : World) : Prop where
  os : w'.os = w.os
  tape : w'.tape = w.tape
  output : w'.output = w.output
  size : w.heap.size ≤ w'.heap.size
  block : ∀ k, k < N → k ≠ B → w'.heap[k]? = w.heap[k]?
theorem But.refl (N B : Nat) (w : World) : But N B w w := ⟨rfl, rfl, rfl, Nat.le_refl _, fun _ _ _ => rfl⟩
theorem But.of {N B : Nat} {w w' : World} (h : Below N w w') : But N B w w' := ⟨h.os, h.tape, h.output, h.size, fun k hk _ => h.block k hk⟩
theorem But.trans {N B : Nat} {a b c : World} (h : But N B a b) (k : But N B b c) : But N B a c :=
  ⟨k.os.trans h.os, k.tape.trans h.tape, k.output.trans h.output, Nat.le_trans h.size k.size, fun i hi hb => (k.block i hi hb).trans (h.block i hi hb)⟩
theorem But.mono {N M B : Nat} {w w' : World} (h : But N B w w') (hM : M ≤ N) : But M B w w' := ⟨h.os, h.tape, h.output, h.size, fun k hk hb => h.block k (Nat.lt_of_lt_of_le hk hM) hb⟩
/-- One behind the other, the second told of the world that it began in. -/
theorem But.seq {B : Nat} {a b c : World} (h : But a.heap.size B a b) (k : But b.heap.size B b c) : But a.heap.size B a c := h.trans (k.mono h.size)
theorem But.store {N B : Nat} {a w : World} (h : But N B a w) (o : Nat) (u : Value) : But N B a (w.setCell ⟨B, o, none⟩ u) :=
  h.trans ⟨rfl, rfl, rfl, by simp [World.setCell], fun k _ hb => Below.heap_setCell _ _ _ _ hb⟩
theorem But.made {N B : Nat} {a w : World} (h : But N B a w) (hN : N ≤ w.heap.size) (o : Obj) : But N B a (w.alloc o) :=
  h.trans (But.of ⟨rfl, rfl, rfl, by simp, fun k hk => Below.heap_alloc _ _ _ (by omega)⟩)
/-- Below the block itself all is as it was. -/
theorem But.below {N B : Nat} {w w' : World} (h : But N B w w') (hB : B ≤ N) : Below B w w' := ⟨h.os, h.tape, h.output, h.size, fun k hk => h.block k (Nat.lt_of_lt_of_le hk hB) (Nat.ne_of_lt hk)⟩
/-- A text that begins with a byte. -/
theorem cons_facts8 (c : UInt8) (t : List UInt8) : (str (c :: t)).toList.isEmpty = false ∧ ¬ (str (c :: t)).toList = [] ∧ 0 < (str (c :: t)).size ∧ (∀ h : 0 < (str (c :: t)).size, (str (c :: t))[0]'h = c) ∧ (str (c :: t)).extract 1 (str (c :: t)).size = str t := by
  refine ⟨by rw [str_toList]; rfl, by rw [str_toList]; simp, by rw [str_size]; simp, fun h => byte_at (c :: t) 0 h, ?_⟩
  rw [str_drop]
  rfl
end Go.Proofs.YtebfggiodhaahaaGreatDoor
