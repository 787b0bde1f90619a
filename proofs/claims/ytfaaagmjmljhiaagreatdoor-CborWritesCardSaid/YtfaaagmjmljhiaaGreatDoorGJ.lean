/-
  CbMath CbOwn CbPut CbStr CbNat CbFlt CbVal, one behind the other: a claim holds at most 60 files.
-/
import Derived.Test.YtfaaagmjmljhiaaGreatDoorButFrame
import Derived.Test.YtfaaagmjmljhiaaGreatDoorOwnRow
import Derived.Laws.BytesArg
import Derived.Lib.AppendStr
import Derived.Test.YtfaaagmjmljhiaaGreatDoorValMay
section
namespace Go.Proofs.YtfaaagmjmljhiaaGreatDoor
open Go.RowKit

/-- So many bytes of a number, the greatest first. -/
def be (n : Nat) : Nat → List UInt8
  | 0 => []
  | k + 1 => UInt8.ofNat (n / 256 ^ k) :: be n k
@[simp] theorem be_zero (n : Nat) : be n 0 = [] := rfl
theorem be_succ (n k : Nat) : be n (k + 1) = UInt8.ofNat (n / 256 ^ k) :: be n k := rfl
@[simp] theorem be_len (n : Nat) : ∀ k, (be n k).length = k
  | 0 => rfl
  | k + 1 => by rw [be_succ, List.length_cons, be_len n k]
/-- The number of bytes, the greatest first. -/
def nb (l : List UInt8) : Nat := l.foldl (fun a b => a * 256 + b.toNat) 0
theorem nb_nil : nb [] = 0 := rfl
theorem nb_snoc (l : List UInt8) (b : UInt8) : nb (l ++ [b]) = nb l * 256 + b.toNat := by unfold nb; rw [List.foldl_append]; rfl
theorem foldl_nb (l : List UInt8) : ∀ a, l.foldl (fun a b => a * 256 + b.toNat) a = a * 256 ^ l.length + nb l := by
  induction l with
  | nil => intro a; simp [nb]
  | cons b l ih =>
    intro a
    have h1 := ih (a * 256 + b.toNat)
    have h2 := ih (0 * 256 + b.toNat)
    show l.foldl _ (a * 256 + b.toNat) = _
    rw [h1]
    have h3 : nb (b :: l) = (0 * 256 + b.toNat) * 256 ^ l.length + nb l := h2
    rw [h3, List.length_cons, Nat.pow_succ, Nat.zero_mul, Nat.zero_add, Nat.add_mul, Nat.mul_assoc, Nat.mul_comm 256, Nat.add_assoc]
theorem nb_cons (b : UInt8) (l : List UInt8) : nb (b :: l) = b.toNat * 256 ^ l.length + nb l := by
  have h := foldl_nb l (0 * 256 + b.toNat)
  rw [Nat.zero_mul, Nat.zero_add] at h
  show l.foldl _ (0 * 256 + b.toNat) = _
  rw [Nat.zero_mul, Nat.zero_add, h]
theorem nb_lt (l : List UInt8) : nb l < 256 ^ l.length := by
  induction l with
  | nil => decide
  | cons b l ih =>
    rw [nb_cons, List.length_cons, Nat.pow_succ]
    have h1 : b.toNat < 256 := b.toNat_lt
    have h2 : (b.toNat + 1) * 256 ^ l.length ≤ 256 * 256 ^ l.length := Nat.mul_le_mul_right _ (by omega)
    rw [Nat.add_mul, Nat.one_mul] at h2
    rw [Nat.mul_comm (256 ^ l.length)]
    omega
theorem nb_be (n : Nat) : ∀ k, nb (be n k) = n % 256 ^ k
  | 0 => by simp [nb, Nat.mod_one]
  | k + 1 => by
    rw [be_succ, nb_cons, be_len, nb_be n k, UInt8.toNat_ofNat']
    have h1 : n % 256 ^ (k + 1) = 256 ^ k * (n / 256 ^ k % 256) + n % 256 ^ k := by
      rw [Nat.pow_succ, Nat.mod_mul]; omega
    rw [h1, Nat.mul_comm]
/-- How many bytes stand behind a head's first. -/
def hsz (a : Nat) : Nat := if a < 24 ∨ a = 31 then 0 else 2 ^ (a - 24)
theorem hsz_low {a : Nat} (h : a < 24) : hsz a = 0 := if_pos (Or.inl h)
theorem hsz_open : hsz 31 = 0 := rfl
theorem hsz_24 : hsz 24 = 1 := rfl
theorem hsz_25 : hsz 25 = 2 := rfl
theorem hsz_26 : hsz 26 = 4 := rfl
theorem hsz_27 : hsz 27 = 8 := rfl
/-- A head's bytes. -/
def hby (m a n : Nat) : List UInt8 := UInt8.ofNat (m * 32 + a) :: be n (hsz a)
theorem hby_len (m a n : Nat) : (hby m a n).length = 1 + hsz a := by unfold hby; rw [List.length_cons, be_len]; omega
/-- The additional information of the shortest head. -/
def sinf (n : Nat) : Nat := if n < 24 then n else if n < 256 then 24 else if n < 65536 then 25 else if n < 4294967296 then 26 else 27
theorem sinf_lt (n : Nat) : sinf n < 28 := by unfold sinf; split <;> (try split) <;> (try split) <;> (try split) <;> omega
/-- The shortest head. -/
def hds (m n : Nat) : List UInt8 := hby m (sinf n) n
theorem hds_len (m n : Nat) : (hds m n).length ≤ 9 := by
  unfold hds
  rw [hby_len]
  have : hsz (sinf n) ≤ 8 := by
    unfold sinf
    split
    · rw [hsz_low (by assumption)]; omega
    · split
      · decide
      · split
        · decide
        · split <;> decide
  omega
theorem hds_pos (m n : Nat) : 0 < (hds m n).length := by unfold hds; rw [hby_len]; omega
end Go.Proofs.YtfaaagmjmljhiaaGreatDoor
end
section
namespace Go.Proofs.YtfaaagmjmljhiaaGreatDoor
open Go.RowKit Go.Shelf

/-- Bytes as cells. -/
def U8s (l : List UInt8) : List Value := l.map fun b => Value.int .u8 (b.toNat : Int)
@[simp] theorem U8s_len (l : List UInt8) : (U8s l).length = l.length := by simp [U8s]
theorem U8s_app (l m : List UInt8) : U8s (l ++ m) = U8s l ++ U8s m := by simp [U8s]
theorem U8s_one (l : List UInt8) : ∀ u ∈ U8s l, u.oneCell' = true := by
  intro u hu
  obtain ⟨b, _, rfl⟩ := List.mem_map.1 hu
  rfl
/-- A row of bytes that the call owns, its blocks from base on. -/
def Bo (W : World) (base : Nat) (v : Value) (l : List UInt8) : Prop := W.ownsRow base 5 1 v l.length (U8s l)
theorem Bo.nil (W : World) (base : Nat) : Bo W base (.slice none 0 0) [] := World.ownsRow_nil _ _ _ _
theorem Bo.alloc {W : World} {base : Nat} {v : Value} {l : List UInt8} (h : Bo W base v l) (o : Obj) : Bo (W.alloc o) base v l := World.ownsRow.alloc h o
theorem Bo.keep {W W' : World} {base : Nat} {v : Value} {l : List UInt8} (h : Bo W base v l) (hb : Below W.heap.size W W') : Bo W' base v l := by
  refine ⟨h.1, ?_⟩
  rcases h.2 with h2 | ⟨g, cap, cur, h3, h4, h5, h6⟩
  · exact Or.inl h2
  · exact Or.inr ⟨g, cap, cur, h3, h4, by rw [hb.block g (Array.getElem?_eq_some_iff.1 h5).1]; exact h5, h6⟩
/-- What a row of bytes looks like. -/
theorem Bo.form {W : World} {base : Nat} {v : Value} {l : List UInt8} (h : Bo W base v l) : (l = [] ∧ v = .slice none 0 0) ∨ ∃ g cap, v = .slice (some ⟨g, 0, none⟩) l.length cap ∧ base ≤ g ∧ g < W.heap.size ∧ l.length ≤ cap ∧ cap ≤ maxLen ∧ ∀ i b, l[i]? = some b → W.cell? ⟨g, i, none⟩ = some (.int .u8 (b.toNat : Int)) := by
  have h' := h
  rcases h.2 with ⟨h2, h3⟩ | ⟨g, cap, cur, h3, h4, h5, h6, h7, _⟩
  · exact Or.inl ⟨List.eq_nil_of_length_eq_zero h3, h2⟩
  · refine Or.inr ⟨g, cap, h3, h4, (Array.getElem?_eq_some_iff.1 h5).1, h6, h7, fun i b hi => ?_⟩
    have := World.ownsRow.cells h' (g := g) (by rw [h3]; rfl) i (.int .u8 (b.toNat : Int)) (by unfold U8s; rw [List.getElem?_map, hi]; rfl)
    rwa [addr_add, Nat.zero_add] at this
/-- What a call that appends does to memory: it writes to the row's own block and to new ones alone, and the new row lies in the one or in the others. -/
structure Onto (w w' : World) (v v' : Value) : Prop where
  grown : w.grownBy w' v.ownBlock
  lies : v'.ownBlock = v.ownBlock ∨ ∃ g, v'.ownBlock = some g ∧ w.heap.size ≤ g
theorem Onto.refl (w : World) (v : Value) : Onto w w v v := ⟨⟨rfl, rfl, rfl, Nat.le_refl _, fun _ _ _ => rfl⟩, Or.inl rfl⟩
theorem Onto.trans {w0 w1 w2 : World} {v0 v1 v2 : Value} (h : Onto w0 w1 v0 v1) (k : Onto w1 w2 v1 v2) : Onto w0 w2 v0 v2 := by
  have hg := h.grown; have kg := k.grown
  refine ⟨⟨kg.os.trans hg.os, kg.tape.trans hg.tape, kg.output.trans hg.output, Nat.le_trans hg.size kg.size, fun i hi hne => ?_⟩, ?_⟩
  · rw [kg.block i (Nat.lt_of_lt_of_le hi hg.size) ?_, hg.block i hi hne]
    rcases h.lies with e | ⟨g, e, hge⟩
    · rw [e]; exact hne
    · rw [e]; intro hc; have := Option.some.inj hc; omega
  · rcases k.lies with e | ⟨g, e, hge⟩
    · rcases h.lies with e2 | ⟨g2, e2, hge2⟩
      · exact Or.inl (e.trans e2)
      · exact Or.inr ⟨g2, e.trans e2, hge2⟩
    · exact Or.inr ⟨g, e, Nat.le_trans hg.size hge⟩
theorem Onto.below {w0 w1 w2 : World} {v0 v1 : Value} (h : Onto w0 w1 v0 v1) (hb : Below w1.heap.size w1 w2) : Onto w0 w2 v0 v1 :=
  ⟨⟨hb.os.trans h.grown.os, hb.tape.trans h.grown.tape, hb.output.trans h.grown.output, Nat.le_trans h.grown.size hb.size, fun i hi hne => (hb.block i (Nat.lt_of_lt_of_le hi h.grown.size)).trans (h.grown.block i hi hne)⟩, h.lies⟩
theorem Onto.of {w w' : World} (hb : Below w.heap.size w w') (v : Value) : Onto w w' v v := (Onto.refl w v).below hb
/-- Below the base all is as it was. -/
theorem Onto.frame {w w' : World} {v v' : Value} {base : Nat} {l : List UInt8} (h : Onto w w' v v') (hB : base ≤ w.heap.size) (ho : Bo w base v l) : Below base w w' :=
  ⟨h.grown.os, h.grown.tape, h.grown.output, h.grown.size, fun k hk => h.grown.block k (Nat.lt_of_lt_of_le hk hB) (fun e => by have := (World.ownsRow.lt ho k e.symm).1; omega)⟩
theorem Onto.size {w w' : World} {v v' : Value} (h : Onto w w' v v') : w.heap.size ≤ w'.heap.size := h.grown.size
/-- Behind an append as the law tells it. -/
theorem Onto.app {w0 w1 w2 : World} {v0 v1 : Value} {g H : Nat} (n c : Nat) (h : Onto w0 w1 v0 v1) (hg : w1.grownBy w2 v1.ownBlock) (hat : v1.ownBlock = some g ∨ g = H) (hH : w1.heap.size ≤ H) : Onto w0 w2 v0 (.slice (some ⟨g, 0, none⟩) n c) := by
  refine h.trans ⟨hg, ?_⟩
  rcases hat with e | e
  · exact Or.inl e.symm
  · exact Or.inr ⟨g, rfl, by omega⟩
theorem info_u8 : (Tryz.prog.info? 5).map (fun i => (i.zero, i.size, i.bytes)) = some (some (.int .u8 0), 1, 1) := by kernel_rfl
theorem und_u8s : Tryz.prog.underlying 24 = some (.slice 5) := by kernel_rfl
theorem Bo.snoc {W : World} {base : Nat} {v : Value} {l : List UInt8} {c : UInt8} {x : Int} (h : W.ownsRow base 5 1 v (l.length + 1) (U8s l ++ [.int .u8 x])) (hx : x = (c.toNat : Int)) : Bo W base v (l ++ [c]) := by
  subst hx
  unfold Bo
  rw [U8s_app, List.length_append]
  exact h
end Go.Proofs.YtfaaagmjmljhiaaGreatDoor
end
section
namespace Go.Proofs.YtfaaagmjmljhiaaGreatDoor
open Go.RowKit Go.Shelf
set_option linter.unusedVariables false

/-- A head as the program has it. -/
abbrev HdV (m a n : Int) : Value := .agg #[.int .i64 m, .int .i64 a, .int .u64 n]
/-- The block c is a head. -/
def Hb (W : World) (c : Nat) (m a n : Int) : Prop := W.heap[c]? = some (.cells #[.int .i64 m, .int .i64 a, .int .u64 n] 69 (0, 0))
section
variable {W W' : World} {c : Nat} {m a n : Int}
theorem Hb.lt (h : Hb W c m a n) : c < W.heap.size := by
  unfold Hb at h
  exact (Array.getElem?_eq_some_iff.1 h).1
theorem Hb.new (W : World) (m a n : Int) : Hb (W.alloc (.cells #[.int .i64 m, .int .i64 a, .int .u64 n] 69)) W.heap.size m a n := heap_alloc_new W _
theorem Hb.alloc (h : Hb W c m a n) (o : Obj) : Hb (W.alloc o) c m a n := (Below.heap_alloc W o c h.lt).trans h
theorem Hb.keep (hb : Below W.heap.size W W') (h : Hb W c m a n) : Hb W' c m a n := (hb.block c h.lt).trans h
theorem Hb.grown {r : Option Nat} (hg : W.grownBy W' r) (h : Hb W c m a n) (hne : some c ≠ r) : Hb W' c m a n := (hg.block c h.lt hne).trans h
theorem Hb.parts (h : Hb W c m a n) : W.cell? ⟨c, 0, none⟩ = some (.int .i64 m) ∧ W.cell? ⟨c, 1, none⟩ = some (.int .i64 a) ∧ W.cell? ⟨c, 2, none⟩ = some (.int .u64 n) :=
  ⟨cell_of_row W c 0 _ _ _ h, cell_of_row W c 1 _ _ _ h, cell_of_row W c 2 _ _ _ h⟩
theorem Hb.info (h : Hb W c m a n) (b : Int) : Hb (W.setCell ⟨c, 1, none⟩ (.int .i64 b)) c m b n := by
  have := heap_setCell_same W c 1 _ _ (.int .i64 b) h
  simpa [Hb] using this
theorem Hb.num (h : Hb W c m a n) (b : Int) : Hb (W.setCell ⟨c, 2, none⟩ (.int .u64 b)) c m a b := by
  have := heap_setCell_same W c 2 _ _ (.int .u64 b) h
  simpa [Hb] using this
theorem Hb.other (h : Hb W c m a n) {d : Nat} (hne : c ≠ d) (i : Nat) (u : Value) : Hb (W.setCell ⟨d, i, none⟩ u) c m a n := (Below.heap_setCell W ⟨d, i, none⟩ u c hne).trans h
theorem Hb.free (h : Hb W c m a n) (i : Nat) : W.frozen? ⟨c, i, none⟩ = false := frozen_of_row W c i _ _ h
end
theorem isopen_any (m a n : Int) (w : World) : Calls Tryz.prog 81 #[HdV m a n] w fun e w' => e = .returned (.bool (a == 31)) ∧ Below w.heap.size w w' := by
  go_enter Tryz.func81, Tryz.ntmps81
  go_wp2
  go_ret
  exact ⟨rfl, bal (Below.refl _ _) _⟩
theorem hsize_low (m a n : Int) (h : a < 24) (w : World) : Calls Tryz.prog 53 #[HdV m a n] w fun e w' => e = .returned (.int .i64 0) ∧ Below w.heap.size w w' := by
  go_enter Tryz.func53, Tryz.ntmps53
  go_wp2
  go_ret
  exact ⟨rfl, bal (Below.refl _ _) _⟩
theorem hsize_open (m n : Int) (w : World) : Calls Tryz.prog 53 #[HdV m 31 n] w fun e w' => e = .returned (.int .i64 0) ∧ Below w.heap.size w w' := by
  have k1 := isopen_any m 31 n
  go_enter Tryz.func53, Tryz.ntmps53
  go_wp2_with (go_at_call 81; ((with_reducible refine (k1 _).mono ?_); rintro e w1 ⟨rfl, hb⟩))
  go_ret
  exact ⟨rfl, btr (bal (Below.refl _ _) _) hb⟩
theorem hsize_wide (m a n s : Int) (h : (a = 24 ∧ s = 1) ∨ (a = 25 ∧ s = 2) ∨ (a = 26 ∧ s = 4) ∨ (a = 27 ∧ s = 8)) (w : World) : Calls Tryz.prog 53 #[HdV m a n] w fun e w' => e = .returned (.int .i64 s) ∧ Below w.heap.size w w' := by
  have k1 := isopen_any m a n
  have H0 := Hb.new w m a n
  rcases h with ⟨rfl, rfl⟩ | ⟨rfl, rfl⟩ | ⟨rfl, rfl⟩ | ⟨rfl, rfl⟩
  all_goals
    go_enter Tryz.func53, Tryz.ntmps53
    go_wp2_with (go_at_call 81; ((with_reducible refine (k1 _).mono ?_); rintro e w1 ⟨rfl, hb⟩; obtain ⟨p0, p1, p2⟩ := (Hb.keep hb H0).parts))
    go_ret
    exact ⟨rfl, btr (bal (Below.refl _ _) _) hb⟩
theorem hsize_any (m : Int) (a : Nat) (n : Int) (h : a < 28 ∨ a = 31) (w : World) : Calls Tryz.prog 53 #[HdV m a n] w fun e w' => e = .returned (.int .i64 (hsz a : Nat)) ∧ Below w.heap.size w w' := by
  by_cases h1 : a < 24
  · rw [hsz_low h1]; exact hsize_low m a n (by omega) w
  by_cases h2 : a = 31
  · subst h2; exact hsize_open m n w
  refine hsize_wide m a n _ ?_ w
  rcases (show a = 24 ∨ a = 25 ∨ a = 26 ∨ a = 27 by omega) with rfl | rfl | rfl | rfl
  · exact Or.inl ⟨rfl, rfl⟩
  · exact Or.inr (Or.inl ⟨rfl, rfl⟩)
  · exact Or.inr (Or.inr (Or.inl ⟨rfl, rfl⟩))
  · exact Or.inr (Or.inr (Or.inr ⟨rfl, rfl⟩))
/-- A row's block is no head's that the call made behind it. -/
theorem Bo.apart {W : World} {base : Nat} {v : Value} {l : List UInt8} (h : Bo W base v l) {c : Nat} (hc : W.heap.size ≤ c) : some c ≠ v.ownBlock := by
  intro e
  have := (World.ownsRow.lt h c e.symm).2
  omega
theorem Hb.apart {W : World} {base c : Nat} {v : Value} {l : List UInt8} {m a n : Int} (hh : Hb W c m a n) (h : Bo W base v l) : some c ≠ v.ownBlock := by
  intro e
  rcases h.2 with ⟨rfl, _⟩ | ⟨g, cap, cur, rfl, _, hg, _⟩
  · cases e
  · have : c = g := Option.some.inj e
    subst this
    unfold Hb at hh
    rw [hg] at hh
    simp at hh
theorem be_step (n k : Nat) : (UInt8.ofNat (n / 256 ^ k)).toNat = n / 2 ^ (8 * k) % 256 := by
  rw [UInt8.toNat_ofNat', Nat.pow_mul]
set_option maxRecDepth 100000 in
set_option maxHeartbeats 1000000 in
theorem ahead_core (m a n s : Nat) (c0 : UInt8) (Z : Int) (hZ : bits .or .i64 (wrap64 ((m : Int) * 32)) (a : Int) % 256 = Z) (hc : Z = (c0.toNat : Int)) (hs : s ≤ 8) (hn : n < 18446744073709551616) (v : Value) (l : List UInt8) (base : Nat) (w : World) (hbase : base ≤ w.heap.size) (h : Bo w base v l) (hl : l.length ≤ 1000000)
    (k1 : ∀ W, Calls Tryz.prog 53 #[HdV m a n] W fun e w' => e = .returned (.int .i64 (s : Int)) ∧ Below W.heap.size W w') :
    Calls Tryz.prog 52 #[v, HdV m a n] w fun e w' => ∃ v', e = .returned v' ∧ Bo w' base v' (l ++ c0 :: be n s) ∧ Onto w w' v v' := by
  obtain ⟨i0, hi, hz0, hz1, hz2⟩ := info_at info_u8
  have K1 := Lib.hid k1
  have HC := Lib.hid hc
  have H0 := Lib.hid (Hb.new w m a n)
  have HAP := Lib.hid (h.apart (Nat.le_refl w.heap.size))
  have HO := Lib.hid (Onto.of (bal (bal (Below.refl _ w) (.cells #[.int .i64 m, .int .i64 a, .int .u64 n] 69)) (.cells #[.int .u8 Z] 5)) v)
  clear k1 hc
  go_enter Tryz.func52, Tryz.ntmps52
  go_wp2_with (first
    | (at_builtin; refine wpList_append_lies _ rfl (.tmp 6) (.tmp 14) 24 rfl base 5 i0 (.int .u8 0) 1 1 und_u8s hi hz0 hz1 hz2 rfl (by decide) v l.length _ rfl ((World.ownsRow.alloc (World.ownsRow.alloc h _) _)) ⟨w.heap.size + 1, 0, none⟩ 1 1 [.int .u8 Z] rfl rfl (cell_of_str0 _ _ _ _ (by simp)) (one_new1 _ _) (by decide) (by unfold maxLen; omega) (by omega) (by simp; omega) _ rfl ?_; intro g cap w1 hown hgrow hat hlt; have B1 := Lib.hid (Bo.snoc hown HC.out); have O1 := Lib.hid (HO.out.app (l.length + 1) cap hgrow hat (Nat.le_refl _)); have H1 := Lib.hid (Hb.grown hgrow (H0.out.alloc _) HAP.out); obtain ⟨p0, p1, p2⟩ := H1.out.parts; clear hown hgrow hat hlt)
    | (go_at_call 53; ((with_reducible refine (K1.out _).mono ?_); rintro e w2 ⟨rfl, hb⟩; have B2 := Lib.hid (Bo.keep B1.out hb); have O2 := Lib.hid (Onto.below O1.out hb); have H2 := Lib.hid (Hb.keep hb H1.out); clear hb p0 p1 p2 B1 O1 H1)))
  go_loopw [0, 5] (fun bv iv wr => ∃ (k : Nat) (j : Int) (l1 : List UInt8), k ≤ s ∧ j + 1 = (k : Int) ∧ iv = .int .i64 j ∧ l1.length + k = l.length + 1 + s ∧ Hid (Bo wr base bv l1) ∧ Hid (l1 ++ be n k = l ++ c0 :: be n s) ∧ Hid (Onto w wr v bv) ∧ Hid (Hb wr w.heap.size m a n)) (fun _ iv _ => (intOf iv + 1).toNat)
  case atStart => exact ⟨s, (s : Int) - 1, l ++ [c0], Nat.le_refl _, by omega, rfl, by simp, B2, by show _ = _; simp, O2, H2⟩
  case round =>
    obtain ⟨k, j, l1, hk, hj, rfl, hlen, BR, HE, OR, HR⟩ := hrel
    clear B2 O2 H2
    rename World => wr
    obtain ⟨p0, p1, p2⟩ := HR.out.parts
    cases k with
    | zero =>
      obtain rfl : j = -1 := by simp at hj; omega
      go_wp2
      go_ret
      have e := HE.out
      rw [be_zero, List.append_nil] at e
      exact ⟨_, rfl, e ▸ BR.out, OR.out⟩
    | succ k =>
      obtain rfl : j = (k : Int) := by omega
      have hws := OR.out.size
      obtain ⟨r, hr⟩ : ∃ r : Nat, 8 * k = r := ⟨_, rfl⟩
      have hr1 : 8 * (k : Int) = (r : Int) := by omega
      have hr2 : (r : Int).toNat = r := Int.toNat_natCast r
      have hr3 : (0 : Int) ≤ (r : Int) := by omega
      have hr4 : r ≤ 64 := by omega
      have HX : Hid (((n : Int) / 2 ^ r) % 256 = ((UInt8.ofNat (n / 256 ^ k)).toNat : Int)) := by
        show _ = _
        rw [be_step, hr]
        simp
      obtain ⟨X, hX⟩ : ∃ X : Int, (n : Int) / 2 ^ r % 256 = X := ⟨_, rfl⟩
      rw [hX] at HX
      have HA := Lib.hid (HR.out.apart BR.out)
      have HO1 := Lib.hid (OR.out.below (bal (Below.refl _ wr) (.cells #[.int .u8 X] 5)))
      have HE2 : Hid ((l1 ++ [UInt8.ofNat (n / 256 ^ k)]) ++ be n k = l ++ c0 :: be n s) := by
        show _ = _
        rw [← HE.out, be_succ, List.append_assoc]; rfl
      clear HE hr hj
      go_wp2_with (at_builtin; refine wpList_append_lies _ rfl (.tmp 23) (.tmp 30) 24 rfl base 5 i0 (.int .u8 0) 1 1 und_u8s hi hz0 hz1 hz2 rfl (by decide) u0 l1.length _ rfl (World.ownsRow.alloc BR.out _) ⟨wr.heap.size, 0, none⟩ 1 1 [.int .u8 X] rfl rfl (cell_of_str0 _ _ _ _ (by simp)) (one_new1 _ _) (by decide) (by unfold maxLen; omega) (by omega) (by simp; omega) _ rfl ?_; intro g2 cap2 w3 hown hgrow hat hlt; have B1 := Lib.hid (Bo.snoc hown HX.out); have O1 := Lib.hid (HO1.out.app (l1.length + 1) cap2 hgrow hat (Nat.le_refl _)); have H1 := Lib.hid (Hb.grown hgrow (HR.out.alloc _) HA.out); clear hown hgrow hat hlt)
      go_roundw
      case rel => exact ⟨k, (k : Int) - 1, l1 ++ [UInt8.ofNat (n / 256 ^ k)], by omega, by omega, by go_num, by rw [List.length_append]; simp <;> omega, B1, HE2, O1, H1⟩
      case measure => simp [intOf]
theorem head_byte : ∀ m : Nat, m < 8 → ∀ a : Nat, a < 32 → bits .or .i64 (wrap64 ((m : Int) * 32)) (a : Int) % 256 = ((UInt8.ofNat (m * 32 + a)).toNat : Int) := by decide +kernel
theorem ahead_any (m a n : Nat) (hm : m < 8) (ha : a < 28 ∨ a = 31) (hn : n < 18446744073709551616) (v : Value) (l : List UInt8) (base : Nat) (w : World) (hbase : base ≤ w.heap.size) (h : Bo w base v l) (hl : l.length ≤ 1000000) :
    Calls Tryz.prog 52 #[v, HdV m a n] w fun e w' => ∃ v', e = .returned v' ∧ Bo w' base v' (l ++ hby m a n) ∧ Onto w w' v v' := by
  have hs : hsz a ≤ 8 := by
    by_cases h1 : a < 24
    · rw [hsz_low h1]; omega
    · rcases (show a = 24 ∨ a = 25 ∨ a = 26 ∨ a = 27 ∨ a = 31 by omega) with rfl | rfl | rfl | rfl | rfl <;> decide
  exact ahead_core m a n (hsz a) (UInt8.ofNat (m * 32 + a)) _ (head_byte m hm a (by omega)) rfl hs hn v l base w hbase h hl (fun W => hsize_any m a n ha W)
set_option maxRecDepth 100000 in
theorem ashort_low (m n : Nat) (hm : m < 8) (hn : n < 24) (v : Value) (l : List UInt8) (base : Nat) (w : World) (hbase : base ≤ w.heap.size) (h : Bo w base v l) (hl : l.length ≤ 1000000) :
    Calls Tryz.prog 28 #[v, .int .i64 m, .int .u64 n] w fun e w' => ∃ v', e = .returned v' ∧ Bo w' base v' (l ++ hby m n n) ∧ Onto w w' v v' := by
  have K1 := Lib.hid (ahead_any m n n hm (by omega) (by omega) v l base w hbase h hl)
  have h1 : (n : Int) < 24 := by omega
  go_enter Tryz.func28, Tryz.ntmps28
  go_wp2_with (go_at_call 52; ((with_reducible refine (K1.out).mono ?_); rintro e w1 ⟨v', rfl, B1, O1⟩))
  go_ret
  exact ⟨_, rfl, B1, O1⟩
set_option maxRecDepth 100000 in
set_option maxHeartbeats 1000000 in
theorem ashort_high (m n : Nat) (hm : m < 8) (h24 : ¬ n < 24) (hn : n < 18446744073709551616) (v : Value) (l : List UInt8) (base : Nat) (w : World) (hbase : base ≤ w.heap.size) (h : Bo w base v l) (hl : l.length ≤ 1000000) :
    Calls Tryz.prog 28 #[v, .int .i64 m, .int .u64 n] w fun e w' => ∃ v', e = .returned v' ∧ Bo w' base v' (l ++ hds m n) ∧ Onto w w' v v' := by
  have h1 : ¬ (n : Int) < 24 := by omega
  have H0 := Lib.hid (Hb.new w m 24 n)
  have B0 := Lib.hid (bal (Below.refl _ w) (.cells #[.int .i64 m, .int .i64 24, .int .u64 n] 69))
  go_enter Tryz.func28, Tryz.ntmps28
  go_wp2_with fail
  go_loopw [] (fun wr => ∃ a : Int, (a = 24 ∨ a = 25 ∨ a = 26 ∨ a = 27) ∧ Hid (a.toNat ≤ sinf n) ∧ Hid (Below w.heap.size w wr) ∧ Hid (Hb wr w.heap.size m a n)) (fun wr => match wr.cell? ⟨w.heap.size, 1, none⟩ with | some (.int _ z) => (27 - z).toNat | _ => 0)
  case atStart =>
    refine ⟨24, Or.inl rfl, ?_, B0, H0⟩
    show 24 ≤ sinf n
    unfold sinf; rw [if_neg h24]; split <;> (try split) <;> (try split) <;> omega
  case round =>
    obtain ⟨a, ha, HLE, BR, HR⟩ := hrel
    clear B0 H0
    rename World => wr
    obtain ⟨p0, p1, p2⟩ := HR.out.parts
    have pf := HR.out.free 1
    have plt := HR.out.lt
    rcases ha with rfl | rfl | rfl | rfl
    · have KS := Lib.hid (fun W => hsize_wide (m : Int) 24 (n : Int) 1 (Or.inl ⟨rfl, rfl⟩) W)
      by_cases hlt : n < 256
      · have hq : (n : Int) / 256 = 0 := by omega
        have hsi : sinf n = 24 := by unfold sinf; rw [if_neg h24, if_pos hlt]
        have KA : Hid (∀ W, Below w.heap.size w W → Calls Tryz.prog 52 #[v, HdV m 24 n] W fun e w' => ∃ v', e = .returned v' ∧ Bo w' base v' (l ++ hds m n) ∧ Onto W w' v v') := fun W hw => by
          have k := ahead_any m 24 n hm (by omega) hn v l base W (Nat.le_trans hbase hw.size) (Bo.keep h hw) hl
          rw [show hds m n = hby m 24 n by unfold hds; rw [hsi]]
          exact k
        go_wp2_with (first | (go_at_call 53; ((with_reducible refine (KS.out _).mono ?_); rintro e w2 ⟨rfl, hb⟩; have B2 := Lib.hid (btr BR.out hb); have H2 := Lib.hid (Hb.keep hb HR.out); obtain ⟨q0, q1, q2⟩ := H2.out.parts; have qf := H2.out.free 1; have qlt := H2.out.lt; clear hb p0 p1 p2 pf plt)) | (go_at_call 52; ((with_reducible refine (KA.out _ B2.out).mono ?_); rintro e w3 ⟨v', rfl, B3, O3⟩)))
        go_ret
        exact ⟨_, rfl, B3, (Onto.of B2.out v).trans O3⟩
      · have hq : ¬ (n : Int) / 256 = 0 := by omega
        have HL2 : Hid ((((24 : Int) + 1).toNat) ≤ sinf n) := by show 25 ≤ sinf n; unfold sinf; rw [if_neg h24]; split <;> (try split) <;> (try split) <;> omega
        go_wp2_with (go_at_call 53; ((with_reducible refine (KS.out _).mono ?_); rintro e w2 ⟨rfl, hb⟩; have B2 := Lib.hid (btr BR.out hb); have H2 := Lib.hid (Hb.keep hb HR.out); obtain ⟨q0, q1, q2⟩ := H2.out.parts; have qf := H2.out.free 1; have qlt := H2.out.lt; clear hb p0 p1 p2 pf plt))
        go_roundw
        case rel => exact ⟨25, by omega, HL2, Lib.hid (bsc B2.out (p := ⟨w.heap.size, 1, none⟩) (Nat.le_refl _) _), Lib.hid (H2.out.info _)⟩
        case measure => rw [(H2.out.info _).parts.2.1, HR.out.parts.2.1]; decide
    · have KS := Lib.hid (fun W => hsize_wide (m : Int) 25 (n : Int) 2 (Or.inr (Or.inl ⟨rfl, rfl⟩)) W)
      by_cases hlt : n < 65536
      · have hq : (n : Int) / 65536 = 0 := by omega
        have hsi : sinf n = 25 := by unfold sinf; rw [if_neg h24, if_neg (by intro hc; have := HLE.out; unfold sinf at this; rw [if_neg h24, if_pos hc] at this; simp at this), if_pos hlt]
        have KA : Hid (∀ W, Below w.heap.size w W → Calls Tryz.prog 52 #[v, HdV m 25 n] W fun e w' => ∃ v', e = .returned v' ∧ Bo w' base v' (l ++ hds m n) ∧ Onto W w' v v') := fun W hw => by
          have k := ahead_any m 25 n hm (by omega) hn v l base W (Nat.le_trans hbase hw.size) (Bo.keep h hw) hl
          rw [show hds m n = hby m 25 n by unfold hds; rw [hsi]]
          exact k
        go_wp2_with (first | (go_at_call 53; ((with_reducible refine (KS.out _).mono ?_); rintro e w2 ⟨rfl, hb⟩; have B2 := Lib.hid (btr BR.out hb); have H2 := Lib.hid (Hb.keep hb HR.out); obtain ⟨q0, q1, q2⟩ := H2.out.parts; have qf := H2.out.free 1; have qlt := H2.out.lt; clear hb p0 p1 p2 pf plt)) | (go_at_call 52; ((with_reducible refine (KA.out _ B2.out).mono ?_); rintro e w3 ⟨v', rfl, B3, O3⟩)))
        go_ret
        exact ⟨_, rfl, B3, (Onto.of B2.out v).trans O3⟩
      · have hq : ¬ (n : Int) / 65536 = 0 := by omega
        have HL2 : Hid ((((25 : Int) + 1).toNat) ≤ sinf n) := by show 26 ≤ sinf n; unfold sinf; rw [if_neg h24]; split <;> (try split) <;> (try split) <;> omega
        go_wp2_with (go_at_call 53; ((with_reducible refine (KS.out _).mono ?_); rintro e w2 ⟨rfl, hb⟩; have B2 := Lib.hid (btr BR.out hb); have H2 := Lib.hid (Hb.keep hb HR.out); obtain ⟨q0, q1, q2⟩ := H2.out.parts; have qf := H2.out.free 1; have qlt := H2.out.lt; clear hb p0 p1 p2 pf plt))
        go_roundw
        case rel => exact ⟨26, by omega, HL2, Lib.hid (bsc B2.out (p := ⟨w.heap.size, 1, none⟩) (Nat.le_refl _) _), Lib.hid (H2.out.info _)⟩
        case measure => rw [(H2.out.info _).parts.2.1, HR.out.parts.2.1]; decide
    · have KS := Lib.hid (fun W => hsize_wide (m : Int) 26 (n : Int) 4 (Or.inr (Or.inr (Or.inl ⟨rfl, rfl⟩))) W)
      by_cases hlt : n < 4294967296
      · have hq : (n : Int) / 4294967296 = 0 := by omega
        have hsi : sinf n = 26 := by unfold sinf; rw [if_neg h24, if_neg (by intro hc; have := HLE.out; unfold sinf at this; rw [if_neg h24, if_pos hc] at this; simp at this), if_neg (by intro hc; have := HLE.out; unfold sinf at this; rw [if_neg h24] at this; split at this <;> (try rw [if_pos hc] at this) <;> simp at this), if_pos hlt]
        have KA : Hid (∀ W, Below w.heap.size w W → Calls Tryz.prog 52 #[v, HdV m 26 n] W fun e w' => ∃ v', e = .returned v' ∧ Bo w' base v' (l ++ hds m n) ∧ Onto W w' v v') := fun W hw => by
          have k := ahead_any m 26 n hm (by omega) hn v l base W (Nat.le_trans hbase hw.size) (Bo.keep h hw) hl
          rw [show hds m n = hby m 26 n by unfold hds; rw [hsi]]
          exact k
        go_wp2_with (first | (go_at_call 53; ((with_reducible refine (KS.out _).mono ?_); rintro e w2 ⟨rfl, hb⟩; have B2 := Lib.hid (btr BR.out hb); have H2 := Lib.hid (Hb.keep hb HR.out); obtain ⟨q0, q1, q2⟩ := H2.out.parts; have qf := H2.out.free 1; have qlt := H2.out.lt; clear hb p0 p1 p2 pf plt)) | (go_at_call 52; ((with_reducible refine (KA.out _ B2.out).mono ?_); rintro e w3 ⟨v', rfl, B3, O3⟩)))
        go_ret
        exact ⟨_, rfl, B3, (Onto.of B2.out v).trans O3⟩
      · have hq : ¬ (n : Int) / 4294967296 = 0 := by omega
        have HL2 : Hid ((((26 : Int) + 1).toNat) ≤ sinf n) := by show 27 ≤ sinf n; unfold sinf; rw [if_neg h24]; split <;> (try split) <;> (try split) <;> omega
        go_wp2_with (go_at_call 53; ((with_reducible refine (KS.out _).mono ?_); rintro e w2 ⟨rfl, hb⟩; have B2 := Lib.hid (btr BR.out hb); have H2 := Lib.hid (Hb.keep hb HR.out); obtain ⟨q0, q1, q2⟩ := H2.out.parts; have qf := H2.out.free 1; have qlt := H2.out.lt; clear hb p0 p1 p2 pf plt))
        go_roundw
        case rel => exact ⟨27, by omega, HL2, Lib.hid (bsc B2.out (p := ⟨w.heap.size, 1, none⟩) (Nat.le_refl _) _), Lib.hid (H2.out.info _)⟩
        case measure => rw [(H2.out.info _).parts.2.1, HR.out.parts.2.1]; decide
    · have KS := Lib.hid (fun W => hsize_wide (m : Int) 27 (n : Int) 8 (Or.inr (Or.inr (Or.inr ⟨rfl, rfl⟩))) W)
      have hsi : sinf n = 27 := by have := HLE.out; have := sinf_lt n; omega
      have KA : Hid (∀ W, Below w.heap.size w W → Calls Tryz.prog 52 #[v, HdV m 27 n] W fun e w' => ∃ v', e = .returned v' ∧ Bo w' base v' (l ++ hds m n) ∧ Onto W w' v v') := fun W hw => by
        have k := ahead_any m 27 n hm (by omega) hn v l base W (Nat.le_trans hbase hw.size) (Bo.keep h hw) hl
        rw [show hds m n = hby m 27 n by unfold hds; rw [hsi]]
        exact k
      go_wp2_with (first | (go_at_call 52; ((with_reducible refine (KA.out _ BR.out).mono ?_); rintro e w3 ⟨v', rfl, B3, O3⟩)))
      go_ret
      exact ⟨_, rfl, B3, (Onto.of BR.out v).trans O3⟩
/-- appendShortest: the shortest head of any number of 64 bits. -/
theorem ashort_any (m n : Nat) (hm : m < 8) (hn : n < 18446744073709551616) (v : Value) (l : List UInt8) (base : Nat) (w : World) (hbase : base ≤ w.heap.size) (h : Bo w base v l) (hl : l.length ≤ 1000000) :
    Calls Tryz.prog 28 #[v, .int .i64 m, .int .u64 n] w fun e w' => ∃ v', e = .returned v' ∧ Bo w' base v' (l ++ hds m n) ∧ Onto w w' v v' := by
  by_cases h24 : n < 24
  · have e : hds m n = hby m n n := by unfold hds sinf; rw [if_pos h24]
    rw [e]
    exact ashort_low m n hm h24 v l base w hbase h hl
  · exact ashort_high m n hm h24 hn v l base w hbase h hl
end Go.Proofs.YtfaaagmjmljhiaaGreatDoor
end
section
namespace Go.Proofs.YtfaaagmjmljhiaaGreatDoor
open Go.RowKit Go.Shelf

theorem strCells_U8s (s : ByteArray) : Lib.strCells s = U8s s.data.toList := rfl
theorem und_str : Tryz.prog.underlying 9 = some .string := by kernel_rfl
/-- The law of the library, and where the new value lies. -/
theorem run_append_text (w : World) (base : Nat) (ty : TypeId) (v : Value) (l : List UInt8) (h : Bo w base v l) (s : ByteArray) (hsz : l.length + s.size ≤ 140737488355328) (hbase : base ≤ w.heap.size) :
    ∃ v' w', (Builtin.append_ #[24, 9] ty #[v, .string s]).run Tryz.prog w = .ok v' w' ∧ Bo w' base v' (l ++ s.data.toList) ∧ Onto w w' v v' := by
  obtain ⟨i0, hi, hz0, hz1, hz2⟩ := info_at info_u8
  have hm : l.length + s.size ≤ maxLen := by unfold maxLen; omega
  obtain ⟨v', w', hr, h2, h3, h4⟩ := Lib.run_append_own_string (P := Tryz.prog) w base 24 9 ty 5 i0 und_u8s und_str hi hz0 hz1 hz2 v l.length (U8s l) h s hm hsz hbase
  have hsl : s.size = s.data.toList.length := by rw [Array.length_toList]; rfl
  refine ⟨v', w', hr, ?_, h3, ?_⟩
  · unfold Bo
    rw [U8s_app, List.length_append, ← hsl]
    exact h2
  · rcases h.2 with ⟨rfl, h0⟩ | ⟨g, cap, cur, rfl, hbg, hg, hnc, hcm, hcs, htake⟩
    · by_cases hs : s.size = 0
      · rw [h4.2 ⟨rfl, hs⟩]; exact Or.inl rfl
      · have hr2 := run_append_nil_string (P := Tryz.prog) w 24 9 ty 5 i0 (.int .u8 0) und_u8s und_str hi hz0 s (by omega) (by omega) (by rw [hz2]; omega)
        rw [hr2] at hr
        simp only [Result.ok.injEq] at hr
        rw [← hr.1]
        exact Or.inr ⟨_, rfl, Nat.le_refl _⟩
    · by_cases hroom : l.length + s.size ≤ cap
      · have hr2 := Lib.run_append_room_string (P := Tryz.prog) w 24 9 ty 5 i0 und_u8s und_str hi hz1 g l.length cap cur hg s hroom (by omega)
        rw [hr2] at hr
        simp only [Result.ok.injEq] at hr
        rw [← hr.1]
        exact Or.inl rfl
      · have hr2 := Lib.run_append_grow_string (P := Tryz.prog) w 24 9 ty 5 i0 (.int .u8 0) und_u8s und_str hi hz0 ⟨g, 0, none⟩ l.length cap (U8s l) (by rw [hz1]; simp) (World.ownsRow.cells h (g := g) rfl) s (by omega) (by unfold maxLen at hm; omega) (by rw [hz2]; exact growslice_fits (by omega) (by omega))
        rw [hr2] at hr
        simp only [Result.ok.injEq] at hr
        rw [← hr.1]
        exact Or.inr ⟨_, rfl, Nat.le_refl _⟩
/-- At the operation. -/
theorem wpList_append_text {ops : Array Oper} {rest : List Oper} {o : Oper} {a : Act} {Q : Exit → Act → World → Prop} (w : World) (hgd : o.guard = none) (sl x : Operand)
    (ho : o.op = .call { callee := .builtin .append, args := #[sl, x], argTypes := #[24, 9] }) (base : Nat) (v : Value) (l : List UInt8) (hs : a.eval sl = v) (hb : Bo w base v l) (s : ByteArray) (hx : a.eval x = .string s)
    (hsz : l.length + s.size ≤ 140737488355328) (hbase : base ≤ w.heap.size)
    (h : ∀ v' w', Bo w' base v' (l ++ s.data.toList) → Onto w w' v v' → wpList Tryz.prog ops Q rest (a.put o.dst v') w') : wpList Tryz.prog ops Q (o :: rest) a w := by
  refine wpList_plain hgd fun K hK => ?_
  obtain ⟨v', w', hr, h2, h3⟩ := run_append_text w base o.type v l hb s hsz hbase
  unfold Oper.wp execOp
  simp only [ho, resolve, invoke, builtin, Sem.run_bind, Sem.run_pure, Result.andThen_ok, List.map_toArray, List.map_cons, List.map_nil, hs, hx, hr]
  exact hK _ _ (h v' w' h2 h3)
/-- appendText: the shortest head of its length, and the text. -/
theorem atext_any (m : Nat) (hm : m < 8) (s : ByteArray) (hs : s.size ≤ 1000000) (v : Value) (l : List UInt8) (base : Nat) (w : World) (hbase : base ≤ w.heap.size) (h : Bo w base v l) (hl : l.length ≤ 1000000) :
    Calls Tryz.prog 31 #[v, .int .i64 m, .string s] w fun e w' => ∃ v', e = .returned v' ∧ Bo w' base v' (l ++ (hds m s.size ++ s.data.toList)) ∧ Onto w w' v v' := by
  have K1 := Lib.hid (ashort_any m s.size hm (by omega) v l base w hbase h hl)
  have hh := hds_len m s.size
  have hsz : (l ++ hds m s.size).length + s.size ≤ 140737488355328 := by rw [List.length_append]; omega
  go_enter Tryz.func31, Tryz.ntmps31
  go_wp2_with (first
    | (go_at_call 28; ((with_reducible refine (K1.out).mono ?_); rintro e w1 ⟨v1, rfl, B1, O1⟩; have hb1 := O1.size))
    | (at_builtin; refine wpList_append_text _ rfl (.tmp 12) (.tmp 13) rfl base v1 _ rfl B1 s rfl hsz (by omega) ?_; intro v2 w2 B2 O2))
  go_ret
  exact ⟨_, rfl, by rw [← List.append_assoc]; exact B2, O1.trans O2⟩
end Go.Proofs.YtfaaagmjmljhiaaGreatDoor
end
section
namespace Go.Proofs.YtfaaagmjmljhiaaGreatDoor
open Go.RowKit Go.Shelf

theorem place_any (k : Nat) (hk : k ≤ 1000) (w : World) : Calls Tryz.prog 86 #[.int .i64 k] w fun e w' => e = .returned (.tuple #[.int .i64 (k / 8 : Nat), .int .i64 (8 * (k % 8) : Nat)]) ∧ w' = w := by
  go_enter Tryz.func86, Tryz.ntmps86
  go_wp2
  go_ret2
  exact ⟨by simp, rfl⟩
/-- A whole number's bytes: the shortest head, or a tag ahead of a byte string. -/
def natB (m tag x : Nat) : List UInt8 := if x < 18446744073709551616 then hds m x else hds 6 tag ++ (hds 2 ((blen x + 7) / 8) ++ be x ((blen x + 7) / 8))
set_option maxRecDepth 100000 in
theorem anat_low (m tag x : Nat) (hm : m < 8) (hx : x < 18446744073709551616) (v : Value) (l : List UInt8) (base : Nat) (w : World) (hbase : base ≤ w.heap.size) (h : Bo w base v l) (hl : l.length ≤ 900000) :
    Calls Tryz.prog 56 #[v, .int .i64 m, .int .u64 tag, N4 x] w fun e w' => ∃ v', e = .returned v' ∧ Bo w' base v' (l ++ natB m tag x) ∧ Onto w w' v v' := by
  have hx2 : x < 2 ^ 256 := Nat.lt_of_lt_of_le hx (by decide)
  have k1 := fun W => low_any x hx2 W
  rw [if_pos hx] at k1
  have K1 := Lib.hid k1
  have KA := Lib.hid (fun (W : World) (hw : Below w.heap.size w W) => ashort_any m x hm hx v l base W (Nat.le_trans hbase hw.size) (Bo.keep h hw) (by omega))
  rw [show natB m tag x = hds m x from if_pos hx]
  unfold N4 at *
  have B0 := Lib.hid (bal (Below.refl _ w) (.cells #[.int .u64 (lb 0 x), .int .u64 (lb 1 x), .int .u64 (lb 2 x), .int .u64 (lb 3 x)] 28))
  clear k1
  generalize lb 0 x = x0 at *
  generalize lb 1 x = x1 at *
  generalize lb 2 x = x2 at *
  generalize lb 3 x = x3 at *
  go_enter Tryz.func56, Tryz.ntmps56
  go_wp2_with (first
    | (go_at_call 84; ((with_reducible refine (K1.out _).mono ?_); rintro e w1 ⟨rfl, hb⟩; have B1 := Lib.hid (btr B0.out hb); clear hb))
    | (go_at_call 28; ((with_reducible refine (KA.out _ B1.out).mono ?_); rintro e w2 ⟨v2, rfl, B2, O2⟩)))
  go_ret
  exact ⟨_, rfl, B2, (Onto.of B1.out v).trans O2⟩
theorem Row4.apart {W : World} {base c : Nat} {v v0 v1 v2 v3 : Value} {l : List UInt8} (hh : Row4 W c v0 v1 v2 v3) (h : Bo W base v l) : some c ≠ v.ownBlock := by
  intro e
  rcases h.2 with ⟨rfl, _⟩ | ⟨g, cap, cur, rfl, _, hg, _⟩
  · cases e
  · have : c = g := Option.some.inj e
    subst this
    unfold Row4 at hh
    rw [hg] at hh
    simp at hh
theorem limb_byte (x k d r : Nat) (hd : 8 * k = 64 * d + r) (hr : r ≤ 56) (hr8 : ∃ q, r = 8 * q) : lb d x / 2 ^ r % 256 = ((UInt8.ofNat (x / 256 ^ k)).toNat : Int) := by
  obtain ⟨q, rfl⟩ := hr8
  rw [be_step, hd]
  unfold lb
  have e1 : (x / 2 ^ (64 * d) % 18446744073709551616) / 2 ^ (8 * q) % 256 = x / 2 ^ (64 * d + 8 * q) % 256 := by
    have h1 : 18446744073709551616 = 2 ^ (8 * q) * 2 ^ (64 - 8 * q) := by rw [← Nat.pow_add, show 8 * q + (64 - 8 * q) = 64 by omega]
    rw [h1, Nat.mod_mul_right_div_self, Nat.div_div_eq_div_mul, ← Nat.pow_add]
    refine Nat.mod_mod_of_dvd _ ?_
    rw [show 64 - 8 * q = 8 + (56 - 8 * q) by omega, Nat.pow_add]
    exact Nat.dvd_mul_right _ _
  rw [← e1]
  simp
set_option maxRecDepth 100000 in
set_option maxHeartbeats 2000000 in
theorem anat_high (m tag x : Nat) (htag : tag < 18446744073709551616) (hx : ¬ x < 18446744073709551616) (hx2 : x < 2 ^ 256) (v : Value) (l : List UInt8) (base : Nat) (w : World) (hbase : base ≤ w.heap.size) (h : Bo w base v l) (hl : l.length ≤ 900000) :
    Calls Tryz.prog 56 #[v, .int .i64 m, .int .u64 tag, N4 x] w fun e w' => ∃ v', e = .returned v' ∧ Bo w' base v' (l ++ natB m tag x) ∧ Onto w w' v v' := by
  obtain ⟨i0, hi, hz0, hz1, hz2⟩ := info_at info_u8
  have k1 := fun W => low_any x hx2 W
  rw [if_neg hx] at k1
  have k2 := fun W => len_any x hx2 W
  have hbl := blen_le hx2
  obtain ⟨S, hS⟩ : ∃ S : Nat, (blen x + 7) / 8 = S := ⟨_, rfl⟩
  have hS32 : S ≤ 32 := by omega
  have hSi : ((blen x : Int) + 7) / 8 = (S : Int) := by omega
  have hblx : (blen x : Int) ≤ 256 := by omega
  have hbl0 : (0 : Int) ≤ (blen x : Int) := by omega
  obtain ⟨lenx, hlenx⟩ : ∃ z : Int, z = (blen x : Int) := ⟨_, rfl⟩
  have e1 : natB m tag x = hds 6 tag ++ (hds 2 S ++ be x S) := by unfold natB; rw [if_neg hx, hS]
  rw [e1]
  have hh1 := hds_len 6 tag
  have hh2 := hds_len 2 S
  have KA : Hid (∀ W, Below w.heap.size w W → Calls Tryz.prog 28 #[v, .int .i64 6, .int .u64 tag] W fun e w' => ∃ v', e = .returned v' ∧ Bo w' base v' (l ++ hds 6 tag) ∧ Onto W w' v v') :=
    fun W hw => ashort_any 6 tag (by decide) htag v l base W (Nat.le_trans hbase hw.size) (Bo.keep h hw) (by omega)
  have KB : Hid (∀ (u : Value) (W : World), base ≤ W.heap.size → Bo W base u (l ++ hds 6 tag) → Calls Tryz.prog 28 #[u, .int .i64 2, .int .u64 S] W fun e w' => ∃ v', e = .returned v' ∧ Bo w' base v' (l ++ hds 6 tag ++ hds 2 S) ∧ Onto W w' u v') :=
    fun u W hb hB => ashort_any 2 S (by decide) (by omega) u (l ++ hds 6 tag) base W hb hB (by rw [List.length_append]; omega)
  have HX0 := Lib.hid (fun (k r : Nat) (hd : 8 * k = 64 * 0 + r) (hr : r ≤ 56) (hr8 : ∃ q, r = 8 * q) => limb_byte x k 0 r hd hr hr8)
  have HX1 := Lib.hid (fun (k r : Nat) (hd : 8 * k = 64 * 1 + r) (hr : r ≤ 56) (hr8 : ∃ q, r = 8 * q) => limb_byte x k 1 r hd hr hr8)
  have HX2 := Lib.hid (fun (k r : Nat) (hd : 8 * k = 64 * 2 + r) (hr : r ≤ 56) (hr8 : ∃ q, r = 8 * q) => limb_byte x k 2 r hd hr hr8)
  have HX3 := Lib.hid (fun (k r : Nat) (hd : 8 * k = 64 * 3 + r) (hr : r ≤ 56) (hr8 : ∃ q, r = 8 * q) => limb_byte x k 3 r hd hr hr8)
  have HAP := Lib.hid (h.apart (Nat.le_refl w.heap.size))
  rw [← hlenx] at k2 hSi hblx hbl0
  have K1 := Lib.hid k1; have K2 := Lib.hid k2
  unfold N4 at *
  have B0 := Lib.hid (bal (Below.refl _ w) (.cells #[.int .u64 (lb 0 x), .int .u64 (lb 1 x), .int .u64 (lb 2 x), .int .u64 (lb 3 x)] 28))
  have R0 := Lib.hid (Row4.new w (.int .u64 (lb 0 x)) (.int .u64 (lb 1 x)) (.int .u64 (lb 2 x)) (.int .u64 (lb 3 x)))
  clear k1 k2 e1 hlenx hbl hS
  generalize lb 0 x = x0 at *
  generalize lb 1 x = x1 at *
  generalize lb 2 x = x2 at *
  generalize lb 3 x = x3 at *
  go_enter Tryz.func56, Tryz.ntmps56
  go_wp2_with (first
    | (go_at_call 84; ((with_reducible refine (K1.out _).mono ?_); rintro e w1 ⟨rfl, hb⟩; have B1 := Lib.hid (btr B0.out hb); have R1 := Lib.hid (Row4.keep hb R0.out); obtain ⟨p0, p1, p2, p3⟩ := R1.out.four; clear hb B0 R0))
    | (go_at_call 85; ((with_reducible refine (K2.out _).mono ?_); rintro e w2 ⟨rfl, hb⟩; have B2 := Lib.hid (btr B1.out hb); have R2 := Lib.hid (Row4.keep hb R1.out); clear hb B1 R1 p0 p1 p2 p3))
    | (go_at_call 28; ((with_reducible refine (KA.out _ B2.out).mono ?_); rintro e w3 ⟨v3, rfl, B3, O3⟩; have R3 := Lib.hid (Row4.grown R2.out O3.grown HAP.out); have O3 := Lib.hid ((Onto.of B2.out v).trans O3); have H3 := Lib.hid B3; clear B3))
    | (go_at_call 28; ((with_reducible refine (KB.out _ _ (Nat.le_trans hbase O3.out.size) H3.out).mono ?_); rintro e w4 ⟨v4, rfl, B4, O4⟩; have R4 := Lib.hid (Row4.grown R3.out O4.grown (R3.out.apart H3.out)); have O4 := Lib.hid (O3.out.trans O4); have H4 := Lib.hid B4; clear B4)))
  clear KA KB K1 K2 B2 R2 H3 R3 O3 HAP h
  go_loopw [0, 12] (fun bv iv wr => ∃ (k : Nat) (j : Int) (l1 : List UInt8), k ≤ S ∧ j + 1 = (k : Int) ∧ iv = .int .i64 j ∧ l1.length ≤ 900018 + 32 - k ∧ Hid (Bo wr base bv l1) ∧ Hid (l1 ++ be x k = l ++ (hds 6 tag ++ (hds 2 S ++ be x S))) ∧ Hid (Onto w wr v bv) ∧ Hid (Row4 wr w.heap.size (.int .u64 x0) (.int .u64 x1) (.int .u64 x2) (.int .u64 x3))) (fun _ iv _ => (intOf iv + 1).toNat)
  case atStart => exact ⟨S, (S : Int) - 1, _, Nat.le_refl _, by omega, rfl, by rw [List.length_append, List.length_append]; omega, H4, by show _ = _; simp [List.append_assoc], O4, R4⟩
  case round =>
    obtain ⟨k, j, l1, hk, hj, rfl, hlen, BR, HE, OR, RR⟩ := hrel
    clear H4 O4 R4
    rename World => wr
    obtain ⟨p0, p1, p2, p3⟩ := RR.out.four
    cases k with
    | zero =>
      obtain rfl : j = -1 := by simp at hj; omega
      go_wp2
      go_ret
      have e := HE.out
      rw [be_zero, List.append_nil] at e
      exact ⟨_, rfl, e ▸ BR.out, OR.out⟩
    | succ k =>
      obtain rfl : j = (k : Int) := by omega
      have hws := OR.out.size
      have hA := Lib.hid (RR.out.apart BR.out)
      have HE2 : Hid ((l1 ++ [UInt8.ofNat (x / 256 ^ k)]) ++ be x k = l ++ (hds 6 tag ++ (hds 2 S ++ be x S))) := by
        show _ = _
        rw [← HE.out, be_succ, List.append_assoc]; rfl
      have KP := fun W => place_any k (by omega) W
      obtain ⟨r, hr⟩ : ∃ r : Nat, r = 8 * (k % 8) := ⟨_, rfl⟩
      rw [← hr] at KP
      have hr2 : (r : Int).toNat = r := Int.toNat_natCast r
      have hr3 : (0 : Int) ≤ (r : Int) := by omega
      have hr4 : r ≤ 64 := by omega
      clear HE hj
      rcases (show k / 8 = 0 ∨ k / 8 = 1 ∨ k / 8 = 2 ∨ k / 8 = 3 by omega) with hd | hd | hd | hd
      · have HX := Lib.hid (HX0.out k r (by omega) (by omega) ⟨k % 8, hr⟩)
        have KP2 : Hid (∀ W, Calls Tryz.prog 86 #[.int .i64 k] W fun e w' => e = .returned (.tuple #[.int .i64 0, .int .i64 r]) ∧ W = w') := fun W => (KP W).mono fun e w' h => ⟨by rw [hd] at h; exact h.1, h.2.symm⟩
        clear KP hd hr
        obtain ⟨X, hX⟩ : ∃ X : Int, x0 / 2 ^ r % 256 = X := ⟨_, rfl⟩
        rw [hX] at HX
        have HO1 := Lib.hid (OR.out.below (bal (Below.refl _ wr) (.cells #[.int .u8 X] 5)))
        go_wp2_with (first | (go_at_call 86; ((with_reducible refine (KP2.out _).mono ?_); rintro e w' ⟨rfl, rfl⟩)) | (at_builtin; refine wpList_append_lies _ rfl (.tmp 47) (.tmp 54) 24 rfl base 5 i0 (.int .u8 0) 1 1 und_u8s hi hz0 hz1 hz2 rfl (by decide) u0 l1.length _ rfl (World.ownsRow.alloc BR.out _) ⟨wr.heap.size, 0, none⟩ 1 1 [.int .u8 X] rfl rfl (cell_of_str0 _ _ _ _ (by simp)) (one_new1 _ _) (by decide) (by unfold maxLen; omega) (by omega) (by simp; omega) _ rfl ?_; intro g2 cap2 w3 hown hgrow hat hlt; have B1 := Lib.hid (Bo.snoc hown HX.out); have O1 := Lib.hid (HO1.out.app (l1.length + 1) cap2 hgrow hat (Nat.le_refl _)); have R1 := Lib.hid (Row4.grown (RR.out.alloc _) hgrow hA.out); clear hown hgrow hat hlt))
        refine ⟨⟨k, (k : Int) - 1, l1 ++ [UInt8.ofNat (x / 256 ^ k)], by omega, by omega, rfl, by rw [List.length_append]; simp <;> omega, B1, HE2, O1, R1⟩, by simp [intOf]⟩
      · have HX := Lib.hid (HX1.out k r (by omega) (by omega) ⟨k % 8, hr⟩)
        have KP2 : Hid (∀ W, Calls Tryz.prog 86 #[.int .i64 k] W fun e w' => e = .returned (.tuple #[.int .i64 1, .int .i64 r]) ∧ W = w') := fun W => (KP W).mono fun e w' h => ⟨by rw [hd] at h; exact h.1, h.2.symm⟩
        clear KP hd hr
        obtain ⟨X, hX⟩ : ∃ X : Int, x1 / 2 ^ r % 256 = X := ⟨_, rfl⟩
        rw [hX] at HX
        have HO1 := Lib.hid (OR.out.below (bal (Below.refl _ wr) (.cells #[.int .u8 X] 5)))
        go_wp2_with (first | (go_at_call 86; ((with_reducible refine (KP2.out _).mono ?_); rintro e w' ⟨rfl, rfl⟩)) | (at_builtin; refine wpList_append_lies _ rfl (.tmp 47) (.tmp 54) 24 rfl base 5 i0 (.int .u8 0) 1 1 und_u8s hi hz0 hz1 hz2 rfl (by decide) u0 l1.length _ rfl (World.ownsRow.alloc BR.out _) ⟨wr.heap.size, 0, none⟩ 1 1 [.int .u8 X] rfl rfl (cell_of_str0 _ _ _ _ (by simp)) (one_new1 _ _) (by decide) (by unfold maxLen; omega) (by omega) (by simp; omega) _ rfl ?_; intro g2 cap2 w3 hown hgrow hat hlt; have B1 := Lib.hid (Bo.snoc hown HX.out); have O1 := Lib.hid (HO1.out.app (l1.length + 1) cap2 hgrow hat (Nat.le_refl _)); have R1 := Lib.hid (Row4.grown (RR.out.alloc _) hgrow hA.out); clear hown hgrow hat hlt))
        refine ⟨⟨k, (k : Int) - 1, l1 ++ [UInt8.ofNat (x / 256 ^ k)], by omega, by omega, rfl, by rw [List.length_append]; simp <;> omega, B1, HE2, O1, R1⟩, by simp [intOf]⟩
      · have HX := Lib.hid (HX2.out k r (by omega) (by omega) ⟨k % 8, hr⟩)
        have KP2 : Hid (∀ W, Calls Tryz.prog 86 #[.int .i64 k] W fun e w' => e = .returned (.tuple #[.int .i64 2, .int .i64 r]) ∧ W = w') := fun W => (KP W).mono fun e w' h => ⟨by rw [hd] at h; exact h.1, h.2.symm⟩
        clear KP hd hr
        obtain ⟨X, hX⟩ : ∃ X : Int, x2 / 2 ^ r % 256 = X := ⟨_, rfl⟩
        rw [hX] at HX
        have HO1 := Lib.hid (OR.out.below (bal (Below.refl _ wr) (.cells #[.int .u8 X] 5)))
        go_wp2_with (first | (go_at_call 86; ((with_reducible refine (KP2.out _).mono ?_); rintro e w' ⟨rfl, rfl⟩)) | (at_builtin; refine wpList_append_lies _ rfl (.tmp 47) (.tmp 54) 24 rfl base 5 i0 (.int .u8 0) 1 1 und_u8s hi hz0 hz1 hz2 rfl (by decide) u0 l1.length _ rfl (World.ownsRow.alloc BR.out _) ⟨wr.heap.size, 0, none⟩ 1 1 [.int .u8 X] rfl rfl (cell_of_str0 _ _ _ _ (by simp)) (one_new1 _ _) (by decide) (by unfold maxLen; omega) (by omega) (by simp; omega) _ rfl ?_; intro g2 cap2 w3 hown hgrow hat hlt; have B1 := Lib.hid (Bo.snoc hown HX.out); have O1 := Lib.hid (HO1.out.app (l1.length + 1) cap2 hgrow hat (Nat.le_refl _)); have R1 := Lib.hid (Row4.grown (RR.out.alloc _) hgrow hA.out); clear hown hgrow hat hlt))
        refine ⟨⟨k, (k : Int) - 1, l1 ++ [UInt8.ofNat (x / 256 ^ k)], by omega, by omega, rfl, by rw [List.length_append]; simp <;> omega, B1, HE2, O1, R1⟩, by simp [intOf]⟩
      · have HX := Lib.hid (HX3.out k r (by omega) (by omega) ⟨k % 8, hr⟩)
        have KP2 : Hid (∀ W, Calls Tryz.prog 86 #[.int .i64 k] W fun e w' => e = .returned (.tuple #[.int .i64 3, .int .i64 r]) ∧ W = w') := fun W => (KP W).mono fun e w' h => ⟨by rw [hd] at h; exact h.1, h.2.symm⟩
        clear KP hd hr
        obtain ⟨X, hX⟩ : ∃ X : Int, x3 / 2 ^ r % 256 = X := ⟨_, rfl⟩
        rw [hX] at HX
        have HO1 := Lib.hid (OR.out.below (bal (Below.refl _ wr) (.cells #[.int .u8 X] 5)))
        go_wp2_with (first | (go_at_call 86; ((with_reducible refine (KP2.out _).mono ?_); rintro e w' ⟨rfl, rfl⟩)) | (at_builtin; refine wpList_append_lies _ rfl (.tmp 47) (.tmp 54) 24 rfl base 5 i0 (.int .u8 0) 1 1 und_u8s hi hz0 hz1 hz2 rfl (by decide) u0 l1.length _ rfl (World.ownsRow.alloc BR.out _) ⟨wr.heap.size, 0, none⟩ 1 1 [.int .u8 X] rfl rfl (cell_of_str0 _ _ _ _ (by simp)) (one_new1 _ _) (by decide) (by unfold maxLen; omega) (by omega) (by simp; omega) _ rfl ?_; intro g2 cap2 w3 hown hgrow hat hlt; have B1 := Lib.hid (Bo.snoc hown HX.out); have O1 := Lib.hid (HO1.out.app (l1.length + 1) cap2 hgrow hat (Nat.le_refl _)); have R1 := Lib.hid (Row4.grown (RR.out.alloc _) hgrow hA.out); clear hown hgrow hat hlt))
        refine ⟨⟨k, (k : Int) - 1, l1 ++ [UInt8.ofNat (x / 256 ^ k)], by omega, by omega, rfl, by rw [List.length_append]; simp <;> omega, B1, HE2, O1, R1⟩, by simp [intOf]⟩
/-- appendNat, any number. -/
theorem anat_any (m tag x : Nat) (hm : m < 8) (htag : tag < 18446744073709551616) (hx2 : x < 2 ^ 256) (v : Value) (l : List UInt8) (base : Nat) (w : World) (hbase : base ≤ w.heap.size) (h : Bo w base v l) (hl : l.length ≤ 900000) :
    Calls Tryz.prog 56 #[v, .int .i64 m, .int .u64 tag, N4 x] w fun e w' => ∃ v', e = .returned v' ∧ Bo w' base v' (l ++ natB m tag x) ∧ Onto w w' v v' := by
  by_cases hx : x < 18446744073709551616
  · exact anat_low m tag x hm hx v l base w hbase h hl
  · exact anat_high m tag x htag hx hx2 v l base w hbase h hl
/-- A whole number's bytes. -/
def intB (g : Bool) (x : Nat) : List UInt8 := if g then natB 1 3 (x - 1) else natB 0 2 x
set_option maxRecDepth 100000 in
theorem aint_pos (x : Nat) (hx2 : x < 2 ^ 256) (v : Value) (l : List UInt8) (base : Nat) (w : World) (hbase : base ≤ w.heap.size) (h : Bo w base v l) (hl : l.length ≤ 900000) :
    Calls Tryz.prog 29 #[v, .agg #[.bool false, .int .u64 (lb 0 x), .int .u64 (lb 1 x), .int .u64 (lb 2 x), .int .u64 (lb 3 x)]] w fun e w' => ∃ v', e = .returned v' ∧ Bo w' base v' (l ++ intB false x) ∧ Onto w w' v v' := by
  have KA : Hid (∀ W, Below w.heap.size w W → Calls Tryz.prog 56 #[v, .int .i64 0, .int .u64 2, N4 x] W fun e w' => ∃ v', e = .returned v' ∧ Bo w' base v' (l ++ intB false x) ∧ Onto W w' v v') :=
    fun W hw => anat_any 0 2 x (by decide) (by decide) hx2 v l base W (Nat.le_trans hbase hw.size) (Bo.keep h hw) hl
  unfold N4 at *
  generalize lb 0 x = x0 at *
  generalize lb 1 x = x1 at *
  generalize lb 2 x = x2 at *
  generalize lb 3 x = x3 at *
  have B0 := Lib.hid (bal (Below.refl _ w) (.cells #[.bool false, .int .u64 x0, .int .u64 x1, .int .u64 x2, .int .u64 x3] 30))
  go_enter Tryz.func29, Tryz.ntmps29
  go_wp2_with (go_at_call 56; ((with_reducible refine (KA.out _ B0.out).mono ?_); rintro e w2 ⟨v2, rfl, B2, O2⟩))
  go_ret
  exact ⟨_, rfl, B2, (Onto.of B0.out v).trans O2⟩
set_option maxRecDepth 100000 in
set_option maxHeartbeats 1000000 in
theorem aint_neg (x : Nat) (hx0 : 1 ≤ x) (hx2 : x < 2 ^ 256) (v : Value) (l : List UInt8) (base : Nat) (w : World) (hbase : base ≤ w.heap.size) (h : Bo w base v l) (hl : l.length ≤ 900000) :
    Calls Tryz.prog 29 #[v, .agg #[.bool true, .int .u64 (lb 0 x), .int .u64 (lb 1 x), .int .u64 (lb 2 x), .int .u64 (lb 3 x)]] w fun e w' => ∃ v', e = .returned v' ∧ Bo w' base v' (l ++ intB true x) ∧ Onto w w' v v' := by
  have KA : Hid (∀ W, Below w.heap.size w W → Calls Tryz.prog 56 #[v, .int .i64 1, .int .u64 3, N4 (x - 1)] W fun e w' => ∃ v', e = .returned v' ∧ Bo w' base v' (l ++ intB true x) ∧ Onto W w' v v') :=
    fun W hw => anat_any 1 3 (x - 1) (by decide) (by decide) (by omega) v l base W (Nat.le_trans hbase hw.size) (Bo.keep h hw) hl
  have k1 := fun W => sub_ok x 1 hx2 (by decide) hx0 W
  have e1 : N4 1 = .agg #[.int .u64 1, .int .u64 0, .int .u64 0, .int .u64 0] := by unfold N4; rfl
  rw [e1] at k1
  unfold N4 at *
  have K1 := Lib.hid k1
  clear k1 e1
  generalize lb 0 x = x0 at *
  generalize lb 1 x = x1 at *
  generalize lb 2 x = x2 at *
  generalize lb 3 x = x3 at *
  generalize lb 0 (x - 1) = s0 at *
  generalize lb 1 (x - 1) = s1 at *
  generalize lb 2 (x - 1) = s2 at *
  generalize lb 3 (x - 1) = s3 at *
  go_enter Tryz.func29, Tryz.ntmps29
  go_upto_region 2 with (fail)
  go_name_world w1 hw1
  have BW1 : Below w.heap.size w w1 := by rw [← hw1]; exact bal (Below.refl _ _) _
  have X1 : Row5 w1 w.heap.size (.bool true) (.int .u64 x0) (.int .u64 x1) (.int .u64 x2) (.int .u64 x3) := by rw [← hw1]; exact Row5.new _ _ _ _ _ _
  clear hw1
  have lt_X := X1.lt
  go_cut [5, 6] (fun s4 s5 wx => ∃ p : Nat, s4 = .pointer (some ⟨p, 0, none⟩) ∧ Row4 wx p (.int .u64 s0) (.int .u64 s1) (.int .u64 s2) (.int .u64 s3) ∧ w1.heap.size ≤ p ∧ Below w1.heap.size w1 wx)
  case first =>
    go_region_held3 (fun w' => w'.cell? ⟨w.heap.size, 0, none⟩ = some (.bool true) ∧ w'.cell? ⟨w.heap.size, 1, none⟩ = some (.int .u64 x0) ∧ w'.cell? ⟨w.heap.size, 2, none⟩ = some (.int .u64 x1) ∧ w'.cell? ⟨w.heap.size, 3, none⟩ = some (.int .u64 x2) ∧ w'.cell? ⟨w.heap.size, 4, none⟩ = some (.int .u64 x3))
      ((refine Row5.parts ?_; (repeat (first | (with_reducible assumption) | (with_reducible refine Row5.alloc ?_ _) | (with_reducible refine Row5.drew ?_) | ((with_reducible refine Row5.set ?_ ?_ _); rotate_left; (focus (omega))))); done))
      (first | (go_at_call 55; refine (of_one _ _).mono ?_; rintro e w9 ⟨rfl, o1, rfl⟩) | (go_at_call 54; (with_reducible refine (K1.out _).mono ?_); rintro e wf1 ⟨rfl, hb1⟩; have Xf1 : Row5 wf1 w.heap.size (.bool true) (.int .u64 x0) (.int .u64 x1) (.int .u64 x2) (.int .u64 x3) := Row5.keep hb1 (by repeat (first | (with_reducible assumption) | (with_reducible refine Row5.alloc ?_ _) | (with_reducible refine Row5.drew ?_))); have ltXf1 := Xf1.lt; (first | (refine absorb (P := Row4 wf1 w1.heap.size (.int .u64 0) (.int .u64 0) (.int .u64 0) (.int .u64 0)) (Row4.keep hb1 ?_) (fun Z1 => ?_); (focus ((repeat (first | ((with_reducible refine Row4.new' _ ?_ _ _ _ _); (simp; done)) | (with_reducible refine Row4.alloc ?_ _) | (with_reducible refine Row4.drew ?_))); done))) | (refine absorb (P := Row4 wf1 (w1.heap.size + 1) (.int .u64 0) (.int .u64 0) (.int .u64 0) (.int .u64 0)) (Row4.keep hb1 ?_) (fun Z1 => ?_); (focus ((repeat (first | ((with_reducible refine Row4.new' _ ?_ _ _ _ _); (simp; done)) | (with_reducible refine Row4.alloc ?_ _) | (with_reducible refine Row4.drew ?_))); done))) | skip); (first | (obtain ⟨zc0, zc1, zc2, zc3⟩ := Z1.four; obtain ⟨zf0, zf1, zf2, zf3⟩ := Z1.free4) | skip)))
    all_goals
      have BB1 : Below w1.heap.size w1 wf1 := btr (by repeat (first | (with_reducible exact Below.refl _ _) | (with_reducible refine bal ?_ _) | (with_reducible refine Below.drew ?_) | (with_reducible refine bdn ?_ _))) hb1
      have hs := BB1.size
      go_wp2_with fail
      go_meet
      first
        | with_reducible exact ⟨_, rfl, Row4.new _ _ _ _ _, hs, bal BB1 _⟩
        | with_reducible exact ⟨_, rfl, Row4.set4 Z1 _ _ _ _, by omega, bsc4 BB1 (by omega) _ _ _ _⟩
  case rest =>
    obtain ⟨pP, rfl, P2, hpP, hb⟩ := hcut
    generalize wc = w2 at *
    have BW2 := Lib.hid (btr BW1 hb)
    clear X1 BW1 hb
    obtain ⟨Pc0, Pc1, Pc2, Pc3⟩ := P2.four
    go_wp2_with (go_at_call 56; ((with_reducible refine (KA.out _ BW2.out).mono ?_); rintro e w3 ⟨v3, rfl, B3, O3⟩))
    go_ret
    exact ⟨_, rfl, B3, (Onto.of BW2.out v).trans O3⟩
end Go.Proofs.YtfaaagmjmljhiaaGreatDoor
end
section
namespace Go.Proofs.YtfaaagmjmljhiaaGreatDoor
open Go.RowKit Go.Shelf

/-- The old world's name kept. -/
theorem flipS {f : FuncId} {l : Array Value} {w : World} {r : Ending} (h : Calls Tryz.prog f l w fun e w' => e = r ∧ w' = w) : Calls Tryz.prog f l w fun e w' => e = r ∧ w = w' := h.mono fun _ _ ⟨a, b⟩ => ⟨a, b.symm⟩
/-- A float's bytes: the shortest width that has it. -/
def fltB (b : Nat) : List UInt8 := if (toh b).2 = true then hby 7 25 (toh b).1 else if (tos b).2 = true then hby 7 26 (tos b).1 else hby 7 27 b
theorem tos_lt8 {b : Nat} (hb : b < 18446744073709551616) : (tos b).2 = true → (tos b).1 < 4294967296 := fun h => (tos_sng hb h).1
set_option maxRecDepth 100000 in
theorem afloat_any (b : Nat) (hb : b < 18446744073709551616) (v : Value) (l : List UInt8) (base : Nat) (w : World) (hbase : base ≤ w.heap.size) (h : Bo w base v l) (hl : l.length ≤ 900000) :
    Calls Tryz.prog 30 #[v, .int .u64 b] w fun e w' => ∃ v', e = .returned v' ∧ Bo w' base v' (l ++ fltB b) ∧ Onto w w' v v' := by
  have k1 := fun W => flipS (tohalf_any b hb W)
  have k2 := fun W => tosingle_any b hb W
  have h1 := toh_lt hb
  have h2 := tos_lt8 hb
  have KH : ∀ n : Nat, n < 65536 → ∀ W, Below w.heap.size w W → Calls Tryz.prog 52 #[v, HdV 7 25 n] W fun e w' => ∃ v', e = .returned v' ∧ Bo w' base v' (l ++ hby 7 25 n) ∧ Onto W w' v v' :=
    fun n hn W hw => ahead_any 7 25 n (by decide) (by decide) (by omega) v l base W (Nat.le_trans hbase hw.size) (Bo.keep h hw) (by omega)
  have KS : ∀ n : Nat, n < 4294967296 → ∀ W, Below w.heap.size w W → Calls Tryz.prog 52 #[v, HdV 7 26 n] W fun e w' => ∃ v', e = .returned v' ∧ Bo w' base v' (l ++ hby 7 26 n) ∧ Onto W w' v v' :=
    fun n hn W hw => ahead_any 7 26 n (by decide) (by decide) (by omega) v l base W (Nat.le_trans hbase hw.size) (Bo.keep h hw) (by omega)
  have KD : ∀ W, Below w.heap.size w W → Calls Tryz.prog 52 #[v, HdV 7 27 b] W fun e w' => ∃ v', e = .returned v' ∧ Bo w' base v' (l ++ hby 7 27 b) ∧ Onto W w' v v' :=
    fun W hw => ahead_any 7 27 b (by decide) (by decide) hb v l base W (Nat.le_trans hbase hw.size) (Bo.keep h hw) (by omega)
  unfold fltB
  have B0 := Lib.hid (Below.refl w.heap.size w)
  generalize toh b = th at *
  generalize tos b = ts at *
  obtain ⟨hf, okh⟩ := th
  obtain ⟨sf, oks⟩ := ts
  dsimp only at *
  cases okh with
  | true =>
    rw [if_pos rfl]
    have K3 := Lib.hid (KH hf h1)
    have K1 := Lib.hid k1
    have g0 : (0 : Int) ≤ hf := by omega
    have g1 : (hf : Int) < 65536 := by omega
    clear KH KS KD k1 k2 h2
    go_enter Tryz.func30, Tryz.ntmps30
    go_wp2_with (first
      | (go_at_call 57; ((with_reducible refine (K1.out _).mono ?_); rintro e w1 ⟨rfl, rfl⟩))
      | (go_at_call 52; ((with_reducible refine (K3.out _ B0.out).mono ?_); rintro e w2 ⟨v2, rfl, B2, O2⟩)))
    go_ret
    exact ⟨_, rfl, B2, O2⟩
  | false =>
    rw [if_neg (by decide)]
    cases oks with
    | true =>
      rw [if_pos rfl]
      have K3 := Lib.hid (KS sf (h2 rfl))
      have K1 := Lib.hid k1
      have K2 := Lib.hid k2
      have g0 : (0 : Int) ≤ sf := by omega
      have g1 : (sf : Int) < 4294967296 := by have := h2 rfl; omega
      clear KH KS KD k1 k2 h2
      go_enter Tryz.func30, Tryz.ntmps30
      go_wp2_with (first
        | (go_at_call 57; ((with_reducible refine (K1.out _).mono ?_); rintro e w1 ⟨rfl, rfl⟩))
        | (go_at_call 58; ((with_reducible refine (K2.out _).mono ?_); rintro e w1 ⟨rfl, hb1⟩; have B1 := Lib.hid hb1; clear hb1))
        | (go_at_call 52; ((with_reducible refine (K3.out _ B1.out).mono ?_); rintro e w2 ⟨v2, rfl, B2, O2⟩)))
      go_ret
      exact ⟨_, rfl, B2, (Onto.of B1.out v).trans O2⟩
    | false =>
      rw [if_neg (by decide)]
      have K3 := Lib.hid KD
      have K1 := Lib.hid k1
      have K2 := Lib.hid k2
      clear KH KS KD k1 k2 h2
      go_enter Tryz.func30, Tryz.ntmps30
      go_wp2_with (first
        | (go_at_call 57; ((with_reducible refine (K1.out _).mono ?_); rintro e w1 ⟨rfl, rfl⟩))
        | (go_at_call 58; ((with_reducible refine (K2.out _).mono ?_); rintro e w1 ⟨rfl, hb1⟩; have B1 := Lib.hid hb1; clear hb1))
        | (go_at_call 52; ((with_reducible refine (K3.out _ B1.out).mono ?_); rintro e w2 ⟨v2, rfl, B2, O2⟩)))
      go_ret
      exact ⟨_, rfl, B2, (Onto.of B1.out v).trans O2⟩
end Go.Proofs.YtfaaagmjmljhiaaGreatDoor
end
section
namespace Go.Proofs.YtfaaagmjmljhiaaGreatDoor
open Go.RowKit Go.Shelf

set_option maxRecDepth 100000 in
theorem aval_int (g : Bool) (x : Nat) (hgx : g = true → 1 ≤ x) (hx2 : x < 2 ^ 256) (bi : Int) (s : ByteArray) (la : Option Addr) (n lc : Nat) (ka : Option Addr) (m kc : Nat) (v : Value) (l : List UInt8) (base : Nat) (w : World) (hbase : base ≤ w.heap.size) (h : Bo w base v l) (hl : l.length ≤ 900000) :
    Calls Tryz.prog 18 #[v, V10 3 g (lb 0 x) (lb 1 x) (lb 2 x) (lb 3 x) bi s la n lc ka m kc] w fun e w' => ∃ v', e = .returned v' ∧ Bo w' base v' (l ++ intB g x) ∧ Onto w w' v v' := by
  have KA : Hid (∀ W, Below w.heap.size w W → Calls Tryz.prog 29 #[v, .agg #[.bool g, .int .u64 (lb 0 x), .int .u64 (lb 1 x), .int .u64 (lb 2 x), .int .u64 (lb 3 x)]] W fun e w' => ∃ v', e = .returned v' ∧ Bo w' base v' (l ++ intB g x) ∧ Onto W w' v v') := by
    intro W hw
    cases g with
    | true => exact aint_neg x (hgx rfl) hx2 v l base W (Nat.le_trans hbase hw.size) (Bo.keep h hw) hl
    | false => exact aint_pos x hx2 v l base W (Nat.le_trans hbase hw.size) (Bo.keep h hw) hl
  clear hgx
  generalize lb 0 x = x0 at *
  generalize lb 1 x = x1 at *
  generalize lb 2 x = x2 at *
  generalize lb 3 x = x3 at *
  have B0 := Lib.hid (bal (Below.refl _ w) (.cells #[.int .i64 3, .bool g, .int .u64 x0, .int .u64 x1, .int .u64 x2, .int .u64 x3, .int .u64 bi, .string s, .slice la n lc, .slice ka m kc] 33))
  go_enter Tryz.func18, Tryz.ntmps18
  go_wp2_with (go_at_call 29; ((with_reducible refine (KA.out _ B0.out).mono ?_); rintro e w2 ⟨v2, rfl, B2, O2⟩))
  go_ret
  exact ⟨_, rfl, B2, (Onto.of B0.out v).trans O2⟩
set_option maxRecDepth 100000 in
theorem aval_float (b : Nat) (hb : b < 18446744073709551616) (g : Bool) (x0 x1 x2 x3 : Int) (s : ByteArray) (la : Option Addr) (n lc : Nat) (ka : Option Addr) (m kc : Nat) (v : Value) (l : List UInt8) (base : Nat) (w : World) (hbase : base ≤ w.heap.size) (h : Bo w base v l) (hl : l.length ≤ 900000) :
    Calls Tryz.prog 18 #[v, V10 4 g x0 x1 x2 x3 b s la n lc ka m kc] w fun e w' => ∃ v', e = .returned v' ∧ Bo w' base v' (l ++ fltB b) ∧ Onto w w' v v' := by
  have KA : Hid (∀ W, Below w.heap.size w W → Calls Tryz.prog 30 #[v, .int .u64 b] W fun e w' => ∃ v', e = .returned v' ∧ Bo w' base v' (l ++ fltB b) ∧ Onto W w' v v') :=
    fun W hw => afloat_any b hb v l base W (Nat.le_trans hbase hw.size) (Bo.keep h hw) hl
  have B0 := Lib.hid (bal (Below.refl _ w) (.cells #[.int .i64 4, .bool g, .int .u64 x0, .int .u64 x1, .int .u64 x2, .int .u64 x3, .int .u64 b, .string s, .slice la n lc, .slice ka m kc] 33))
  go_enter Tryz.func18, Tryz.ntmps18
  go_wp2_with (go_at_call 30; ((with_reducible refine (KA.out _ B0.out).mono ?_); rintro e w2 ⟨v2, rfl, B2, O2⟩))
  go_ret
  exact ⟨_, rfl, B2, (Onto.of B0.out v).trans O2⟩
/-- A row of bytes that is not empty. -/
def Bs (W : World) (base : Nat) (v : Value) (l : List UInt8) : Prop := Bo W base v l ∧ ∃ g cap, v = .slice (some ⟨g, 0, none⟩) l.length cap ∧ base ≤ g ∧ g < W.heap.size ∧ l.length ≤ cap ∧ cap ≤ maxLen ∧ ∀ i b, l[i]? = some b → W.cell? ⟨g, i, none⟩ = some (.int .u8 (b.toNat : Int))
theorem Bo.some {W : World} {base : Nat} {v : Value} {l : List UInt8} (h : Bo W base v l) (hl : 0 < l.length) : ∃ g cap, v = .slice (some ⟨g, 0, none⟩) l.length cap ∧ base ≤ g ∧ g < W.heap.size ∧ l.length ≤ cap ∧ cap ≤ maxLen ∧ ∀ i b, l[i]? = some b → W.cell? ⟨g, i, none⟩ = some (.int .u8 (b.toNat : Int)) := by
  rcases h.form with ⟨rfl, _⟩ | h
  · simp at hl
  · exact h
set_option maxRecDepth 100000 in
/-- Encode of what may be, and is written in few bytes. -/
theorem enc_ok (kd : Int) (g : Bool) (x0 x1 x2 x3 bi : Int) (s : ByteArray) (la : Option Addr) (n lc : Nat) (ka : Option Addr) (m kc : Nat) (B : List UInt8) (h0 : 0 < B.length) (h1 : B.length ≤ 65536) (w : World)
    (k1 : ∀ W, Below w.heap.size w W → Calls Tryz.prog 17 #[V10 kd g x0 x1 x2 x3 bi s la n lc ka m kc] W fun e w' => e = .returned (.int .i64 0) ∧ Below W.heap.size W w')
    (k2 : ∀ W, Below w.heap.size w W → Calls Tryz.prog 18 #[.slice none 0 0, V10 kd g x0 x1 x2 x3 bi s la n lc ka m kc] W fun e w' => ∃ v', e = .returned v' ∧ Bo w' w.heap.size v' B ∧ Onto W w' (.slice none 0 0) v') :
    Calls Tryz.prog 10 #[V10 kd g x0 x1 x2 x3 bi s la n lc ka m kc] w fun e w' => ∃ v', e = .returned (.tuple #[v', .int .i64 0]) ∧ Bo w' w.heap.size v' B ∧ Below w.heap.size w w' := by
  have K1 := Lib.hid k1
  obtain ⟨N, hN⟩ : ∃ N, B.length = N := ⟨_, rfl⟩
  have K2 : Hid (∀ W, Below w.heap.size w W → Calls Tryz.prog 18 #[.slice none 0 0, V10 kd g x0 x1 x2 x3 bi s la n lc ka m kc] W fun e w' => ∃ gg cap, e = .returned (.slice (some ⟨gg, 0, none⟩) N cap) ∧ Bo w' w.heap.size (.slice (some ⟨gg, 0, none⟩) N cap) B ∧ Onto W w' (.slice none 0 0) (.slice (some ⟨gg, 0, none⟩) N cap)) := by
    intro W hW
    refine (k2 W hW).mono ?_
    rintro e w' ⟨v', rfl, hB, hO⟩
    obtain ⟨gg, cap, rfl, _⟩ := hB.some h0
    rw [hN] at *
    exact ⟨gg, cap, rfl, hB, hO⟩
  rw [hN] at h0 h1
  clear k1 k2 hN
  have B0 := Lib.hid (bal (Below.refl _ w) (.cells #[.int .i64 kd, .bool g, .int .u64 x0, .int .u64 x1, .int .u64 x2, .int .u64 x3, .int .u64 bi, .string s, .slice la n lc, .slice ka m kc] 33))
  have R0 := Lib.hid (Row10.new w (.int .i64 kd) (.bool g) (.int .u64 x0) (.int .u64 x1) (.int .u64 x2) (.int .u64 x3) (.int .u64 bi) (.string s) (.slice la n lc) (.slice ka m kc))
  have h2 : ¬ (65536 : Int) < (N : Int) := by omega
  go_enter Tryz.func10, Tryz.ntmps10
  go_wp2_with (first
    | (go_at_call 17; ((with_reducible refine (K1.out _ B0.out).mono ?_); rintro e w1 ⟨rfl, hb⟩; have B1 := Lib.hid (btr B0.out hb); have R1 := Lib.hid (Row10.keep hb R0.out); obtain ⟨p0, p1, p2, p3, p4, p5, p6, p7, p8, p9⟩ := R1.out.parts; clear hb))
    | (go_at_call 18; ((with_reducible refine (K2.out _ B1.out).mono ?_); rintro e w2 ⟨gg, cap, rfl, B2, O2⟩)))
  go_ret2
  exact ⟨_, rfl, B2, btr B1.out (O2.frame (Nat.le_refl _) (Bo.nil _ _))⟩
end Go.Proofs.YtfaaagmjmljhiaaGreatDoor
end
