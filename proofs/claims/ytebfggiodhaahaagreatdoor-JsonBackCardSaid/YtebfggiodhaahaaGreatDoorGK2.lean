/-
  JsLongM JsTxtM JsCut JsDeepM JsLongD JsLongW JsLongA JsDeepD, one behind the other: a claim holds at most 60 files.
-/
import Derived.Test.YtebfggiodhaahaaGreatDoorGJ5
import Derived.Test.YtebfggiodhaahaaGreatDoorGJ2
import Derived.Test.YtebfggiodhaahaaGreatDoorGK1
import Derived.Deep.RegionHeld3
section
namespace Go.Proofs.YtebfggiodhaahaaGreatDoor
open Go.RowKit Go.Shelf
set_option linter.unusedVariables false

theorem usz_asc {b : Nat} (h : b < 128) : usz b = 1 := by unfold usz; simp; omega
theorem uown_asc {b : Nat} (h : b < 128) : uown b = b := by unfold uown; simp; omega
theorem udec_asc {c : UInt8} (h : c.toNat < 128) (t : List UInt8) : udec (c :: t) = some (uown c.toNat, 1) := by
  rw [show udec (c :: t) = (if usz c.toNat = 0 then none else match uacc (uown c.toNat) (usz c.toNat - 1) t with | none => none | some d => if ulng d = usz c.toNat then some (d, usz c.toNat) else none) from rfl, usz_asc h, if_neg (by decide)]
  have : ulng (uown c.toNat) = 1 := by rw [uown_asc h]; unfold ulng; (repeat' split) <;> omega
  simp [uacc, this]
theorem unc_asc {c : UInt8} (h : c.toNat < 128) (t : List UInt8) : unc (c :: t) = (c.toNat : Int) ∧ unn (c :: t) = 1 := by
  unfold unc unn
  rw [if_neg (by simp), if_neg (by simp), udec_asc h t, uown_asc h]
  exact ⟨rfl, rfl⟩
theorem jtx_x : ∀ (n : Nat) (acc : List UInt8), jtx (n + 1) (List.replicate n 120 ++ [34]) acc = some (acc ++ List.replicate n 120, []) := by
  intro n
  induction n with
  | zero =>
    intro acc
    rw [List.replicate_zero, List.nil_append, List.append_nil]
    unfold jtx
    obtain ⟨h1, h2⟩ := unc_asc (c := 34) (by decide) []
    rw [h1, h2, if_neg (by decide), if_pos (by decide)]
    rfl
  | succ n ih =>
    intro acc
    rw [List.replicate_succ, List.cons_append]
    conv => lhs; unfold jtx
    obtain ⟨h1, h2⟩ := unc_asc (c := 120) (by decide) (List.replicate n 120 ++ [34])
    rw [h1, h2, if_neg (by decide)]
    show (if ([120] : List UInt8) = [34] then _ else if ([120] : List UInt8) = [92] then _ else jtx (n + 1) (List.replicate n 120 ++ [34]) (acc ++ [120])) = _
    rw [if_neg (by decide), if_neg (by decide), ih]
    simp
/-- A text of n letters between quotes. -/
def qx (n : Nat) : List UInt8 := 34 :: (List.replicate n 120 ++ [34])
def tx (n : Nat) : VT := lf 5 false 0 0 (str (List.replicate n 120))
theorem lf_nodes (k : Int) (g : Bool) (x : Nat) (y : Int) (s : ByteArray) : (lf k g x y s).nodes = 1 := by unfold lf; rw [VT.nodes_mk]; rfl
theorem lf_depth (k : Int) (g : Bool) (x : Nat) (y : Int) (s : ByteArray) : (lf k g x y s).depth = 1 := by unfold lf; rw [VT.depth_mk]; rfl
theorem lf_has (p : VT → Bool) (k : Int) (g : Bool) (x : Nat) (y : Int) (s : ByteArray) : hasT p (lf k g x y s) = p (lf k g x y s) := by rw [hasT_mk]; simp [lf]
theorem lf_may (k : Int) (g : Bool) (x : Nat) (y : Int) (s : ByteArray) : mayN (lf k g x y s) = if overT (lf k g x y s) then 8 else if wrongT (lf k g x y s) then 1 else 0 := by
  unfold mayN
  rw [lf_depth, if_neg (by omega), lf_has, lf_has]
theorem lf_small (k : Int) (g : Bool) (x : Nat) (y : Int) (s : ByteArray) (h : s.size ≤ 100000) : (lf k g x y s).Every SmallO := .mk _ _ ⟨h, fun s h => by cases h⟩ (fun t h => by cases h)
/-- 1. and n noughts. -/
def on (n : Nat) : List UInt8 := 49 :: 46 :: List.replicate n 48
theorem null_may7 : mayN (lf 1 false 0 0 ⟨#[]⟩) = 0 := by
  rw [lf_may]
  decide +kernel
end Go.Proofs.YtebfggiodhaahaaGreatDoor
end
section
namespace Go.Proofs.YtebfggiodhaahaaGreatDoor
open Go.RowKit Go.Shelf
set_option linter.unusedVariables false

/-- A piece that means x, whatever stands behind it. -/
def Pc (p x : List UInt8) : Prop := ∀ (f : Nat) (R acc : List UInt8), jtx (f + 1) (p ++ R) acc = jtx f R (acc ++ x)
def Pcs (p x : List UInt8) : Prop := ∃ k, ∀ (f : Nat) (R acc : List UInt8), jtx (f + k) (p ++ R) acc = jtx f R (acc ++ x)
theorem Pcs.nil : Pcs [] [] := ⟨0, fun f R acc => by simp⟩
theorem Pc.pcs {p x : List UInt8} (h : Pc p x) : Pcs p x := ⟨1, h⟩
theorem Pcs.both {p x q y : List UInt8} (h : Pcs p x) (k : Pcs q y) : Pcs (p ++ q) (x ++ y) := by
  obtain ⟨a, ha⟩ := h
  obtain ⟨b, hb⟩ := k
  refine ⟨b + a, fun f R acc => ?_⟩
  rw [show f + (b + a) = (f + b) + a by omega, List.append_assoc, ha, hb, List.append_assoc]
theorem Pcs.ends {p x : List UInt8} (h : Pcs p x) : ∃ k, jtx k (p ++ [34]) [] = some (x, []) := by
  obtain ⟨a, ha⟩ := h
  refine ⟨1 + a, ?_⟩
  rw [ha, List.nil_append]
  have := jtx_x 0 x
  simpa using this
theorem jtx_succ (f : Nat) (l x : List UInt8) : jtx (f + 1) l x = (if unc l < 32 then none else if l.take (unn l) = [34] then some (x, l.drop (unn l)) else if l.take (unn l) = [92] then (match jesd (l.drop (unn l)) with | some (p, r) => jtx f r (x ++ p) | none => none) else jtx f (l.drop (unn l)) (x ++ l.take (unn l))) := rfl
theorem pc_plain {c : Nat} (h : ulng c ≠ 0) (h32 : 32 ≤ c) (hq : c ≠ 34) (hb : c ≠ 92) : Pc (uenc c) (uenc c) := by
  intro f R acc
  have hd := udec_enc h R
  have hl := uenc_len h
  have hne : ∀ n : Nat, n < 128 → c ≠ n → uenc c ≠ [UInt8.ofNat n] := by
    intro n hn hcn he
    have h1 := udec_enc h []
    rw [List.append_nil, he] at h1
    have h2 : ulng n ≠ 0 := by unfold ulng; rw [if_neg (by omega), if_pos hn]; omega
    have h3 := udec_enc h2 []
    have h4 : uenc n = [UInt8.ofNat n] := by unfold uenc; rw [if_pos hn]
    rw [List.append_nil, h4, h1] at h3
    have := Option.some.inj h3
    simp only [Prod.mk.injEq] at this
    exact hcn this.1
  rw [jtx_succ, unc_some hd, unn_some hd, if_neg (by omega), ← hl, List.take_left, List.drop_left, if_neg (show ¬ uenc c = [34] from hne 34 (by decide) hq), if_neg (show ¬ uenc c = [92] from hne 92 (by decide) hb)]
theorem pc_esc {q x : List UInt8} (h : ∀ R, jesd (q ++ R) = some (x, R)) : Pc (92 :: q) x := by
  intro f R acc
  rw [List.cons_append, jtx_succ]
  obtain ⟨h1, h2⟩ := unc_asc (c := 92) (by decide) (q ++ R)
  rw [h1, h2, if_neg (by decide)]
  show (if ([92] : List UInt8) = [34] then _ else if ([92] : List UInt8) = [92] then (match jesd (q ++ R) with | some (p, r) => jtx f r (acc ++ p) | none => none) else _) = _
  rw [if_neg (by decide), if_pos rfl, h]
theorem up_code {c : Nat} (h : ulng c ≠ 0) : up c = uenc c := by
  unfold up
  rw [uput_some (by rw [zlng_nat]; exact h)]
  rfl
theorem jesd_let {d m : UInt8} (hd : d ≠ 117) (hm : jesm.find? (fun p => p.1 = d) = some (d, m)) (R : List UInt8) : jesd ([d] ++ R) = some ([m], R) := by
  show (if d = 117 then _ else match jesm.find? (fun p => p.1 = d) with | some p => some ([p.2], R) | none => none) = _
  rw [if_neg hd, hm]
theorem jesd_117 (T R : List UInt8) : jesd ((117 :: T) ++ R) = jpnt (T ++ R) := by
  show (if (117 : UInt8) = 117 then jpnt (T ++ R) else (match jesm.find? (fun p => p.1 = 117) with | some p => some ([p.2], T ++ R) | none => none)) = _
  rw [if_pos rfl]
theorem jesd_u {D : List UInt8} {v : Nat} (hD : D.length = 4) (hv : hexs D 0 = some v) (hs : v / 1024 ≠ 54) (hz : ulng v ≠ 0) (R : List UInt8) : jesd ((117 :: D) ++ R) = some (uenc v, R) := by
  rw [jesd_117]
  unfold jpnt
  rw [if_pos (by rw [List.length_append]; omega), show (D ++ R).take 4 = D from by rw [← hD, List.take_left], hv]
  simp only
  rw [if_neg hs, zlng_nat, if_neg hz, up_code hz, show (D ++ R).drop 4 = R from by rw [← hD, List.drop_left]]
/-- A digit of sixteen, small or great. -/
def hx (s : Bool) (n : Nat) : UInt8 := if n < 10 then UInt8.ofNat (48 + n) else if s then UInt8.ofNat (87 + n) else UInt8.ofNat (55 + n)
def hx4 (s : Bool) (n : Nat) : List UInt8 := [hx s (n / 4096 % 16), hx s (n / 256 % 16), hx s (n / 16 % 16), hx s (n % 16)]
/-- What the law writes of an escape: its six bytes. -/
def hesc (s : Bool) (n : Nat) : List UInt8 := 92 :: 117 :: hx4 s n
/-- What the encoder writes of a byte of ASCII, looked at. -/
def jescOk (n : Nat) : Bool := match jesc (UInt8.ofNat n) with
  | [e] => e == UInt8.ofNat n && decide (32 ≤ n) && n != 34 && n != 92
  | [b, d] => b == 92 && d != 117 && jesm.find? (fun p => p.1 = d) == some (d, UInt8.ofNat n)
  | [b, u, x0, x1, x2, x3] => b == 92 && u == 117 && hexs [x0, x1, x2, x3] 0 == some n
  | _ => false
theorem jesc_all : ∀ n ∈ List.range 128, jescOk n = true := by decide +kernel
theorem pc_low {n : Nat} (h : n < 128) : Pc (jesc (UInt8.ofNat n)) (uenc n) := by
  have hk := jesc_all n (List.mem_range.2 h)
  have hu : ulng n ≠ 0 := by unfold ulng; rw [if_neg (by omega), if_pos h]; omega
  have he : uenc n = [UInt8.ofNat n] := by unfold uenc; rw [if_pos h]
  unfold jescOk at hk
  split at hk
  · rename_i e hj
    simp only [Bool.and_eq_true, beq_iff_eq, decide_eq_true_eq, bne_iff_ne, ne_eq] at hk
    rw [hj, hk.1.1.1, ← he]
    exact pc_plain hu hk.1.1.2 hk.1.2 hk.2
  · rename_i b d hj
    simp only [Bool.and_eq_true, beq_iff_eq, bne_iff_ne, ne_eq] at hk
    rw [hj, hk.1.1, he]
    exact pc_esc (q := [d]) (jesd_let hk.1.2 hk.2)
  · rename_i b u x0 x1 x2 x3 hj
    simp only [Bool.and_eq_true, beq_iff_eq] at hk
    rw [hj, hk.1.1, hk.1.2]
    exact pc_esc (q := 117 :: [x0, x1, x2, x3]) (jesd_u rfl hk.2 (by omega) hu)
  · cases hk
theorem jesc_high {b : UInt8} (h : 128 ≤ b.toNat) : jesc b = [b] := by
  have hne : ∀ d : UInt8, d.toNat < 128 → b ≠ d := fun d hd e => by rw [e] at h; omega
  unfold jesc
  rw [if_neg (hne 34 (by decide)), if_neg (hne 92 (by decide)), if_neg (hne 8 (by decide)), if_neg (hne 12 (by decide)), if_neg (hne 10 (by decide)), if_neg (hne 13 (by decide)), if_neg (hne 9 (by decide)), if_neg (by omega)]
theorem uenc_high {c : Nat} (h : ulng c ≠ 0) (h2 : 128 ≤ c) : ∀ b ∈ uenc c, 128 ≤ b.toNat := by
  have hc : c ≤ 1114111 := by unfold ulng at h; split at h <;> omega
  intro b hb
  unfold uenc at hb
  rw [if_neg (by omega)] at hb
  split at hb
  · simp only [List.mem_cons, List.not_mem_nil, or_false] at hb
    rcases hb with rfl | rfl <;> rw [u8n (by omega)] <;> omega
  · split at hb
    · simp only [List.mem_cons, List.not_mem_nil, or_false] at hb
      rcases hb with rfl | rfl | rfl <;> rw [u8n (by omega)] <;> omega
    · simp only [List.mem_cons, List.not_mem_nil, or_false] at hb
      rcases hb with rfl | rfl | rfl | rfl <;> rw [u8n (by omega)] <;> omega
theorem jescs_high {l : List UInt8} (h : ∀ b ∈ l, 128 ≤ b.toNat) : l.flatMap jesc = l := by
  induction l with
  | nil => rfl
  | cons b l ih =>
    rw [List.flatMap_cons, jesc_high (h b (List.mem_cons_self ..)), ih (fun x hx => h x (List.mem_cons_of_mem _ hx))]
    rfl
/-- What the encoder writes of a code point is read as it. -/
theorem pc_enc {c : Nat} (h : ulng c ≠ 0) : Pc ((uenc c).flatMap jesc) (uenc c) := by
  by_cases h2 : c < 128
  · have he : uenc c = [UInt8.ofNat c] := by unfold uenc; rw [if_pos h2]
    have h3 : (uenc c).flatMap jesc = jesc (UInt8.ofNat c) := by rw [he, List.flatMap_cons, List.flatMap_nil, List.append_nil]
    rw [h3]
    exact pc_low h2
  · rw [jescs_high (uenc_high h (by omega))]
    exact pc_plain h (by omega) (by omega) (by omega)
/-- S is read as T, and so is what the encoder writes of T. -/
def Tq (S T : List UInt8) : Prop := Pcs S T ∧ Pcs (T.flatMap jesc) T ∧ uval T = true
theorem Tq.nil : Tq [] [] := ⟨.nil, .nil, uval_nil⟩
end Go.Proofs.YtebfggiodhaahaaGreatDoor
end
section
namespace Go.Proofs.YtebfggiodhaahaaGreatDoor
open Go.RowKit Go.Shelf Go.Maps
set_option linter.unusedVariables false

end Go.Proofs.YtebfggiodhaahaaGreatDoor
end
section
namespace Go.Proofs.YtebfggiodhaahaaGreatDoor
open Go.RowKit Go.Shelf Go.Maps
set_option linter.unusedVariables false

/-- k + 1 arrays in one another, R behind them. -/
def aT : Nat → List UInt8 → List UInt8
  | 0, R => 91 :: 93 :: R
  | k + 1, R => 91 :: aT k (93 :: R)
def nA : Nat → VT
  | 0 => arrE []
  | k + 1 => arrE [nA k]
/-- k objects in one another around a nought, R behind them. -/
def oT : Nat → List UInt8 → List UInt8
  | 0, R => 48 :: R
  | k + 1, R => 123 :: 34 :: 97 :: 34 :: 58 :: oT k (125 :: R)
def nO : Nat → VT
  | 0 => lf 3 false 0 0 ⟨#[]⟩
  | k + 1 => objE [97] (nO k)
theorem skip_no {c : UInt8} {t : List UInt8} (h : ¬ (c = 32 ∨ c = 9 ∨ c = 10 ∨ c = 13)) : jskip (c :: t) = c :: t := by
  unfold jskip
  rw [List.dropWhile_cons, if_neg]
  intro hb
  apply h
  unfold jblank at hb
  simpa [or_assoc] using hb
theorem td0 : dpans [48] = .tuple #[VV 3 false 0 0, .int .i64 0] := by
  unfold dpans
  rw [if_neg (by decide), show rd [48] = some (false, [], 1) from by decide +kernel]
  rfl
end Go.Proofs.YtebfggiodhaahaaGreatDoor
end
section
namespace Go.Proofs.YtebfggiodhaahaaGreatDoor
open Go.RowKit Go.Shelf
set_option linter.unusedVariables false
set_option linter.unusedSimpArgs false

theorem dpans_nil : dpans [] = ER 3 := by
  unfold dpans
  rw [if_neg (by decide), show rd [] = none from by decide +kernel]
end Go.Proofs.YtebfggiodhaahaaGreatDoor
end
section
namespace Go.Proofs.YtebfggiodhaahaaGreatDoor
open Go.RowKit Go.Shelf
set_option linter.unusedVariables false
attribute [local go_sem ↓] eql_nat neq_nat

theorem long_k (z : Int) : ∃ K : Int, wrap64 (wrap64 ((IntKind.u64.wrap z).tmod 5) - 2) = K ∧ (K = -2 ∨ K = -1 ∨ K = 0 ∨ K = 1 ∨ K = 2) := by
  refine ⟨_, rfl, ?_⟩
  have h0 : 0 ≤ IntKind.u64.wrap z := by
    show 0 ≤ z % 18446744073709551616
    omega
  obtain ⟨y, hy⟩ : ∃ y, IntKind.u64.wrap z = y := ⟨_, rfl⟩
  rw [hy] at h0 ⊢
  have h1 : y.tmod 5 = y % 5 := Int.tmod_eq_emod_of_nonneg h0
  rw [h1]
  have h2 : wrap64 (y % 5) = y % 5 := by unfold wrap64; omega
  rw [h2]
  have h3 : wrap64 (y % 5 - 2) = y % 5 - 2 := by unfold wrap64; omega
  rw [h3]
  omega
theorem made_u8 (N : Nat) : madeCells #[.int .u8 0] N = (U8s (List.replicate N 0)).toArray := by
  apply Array.ext'
  apply List.ext_getElem
  · simp [madeCells, U8s]
  · intro i h1 h2
    simp [madeCells, U8s, Nat.mod_one]
theorem make_u8 (N : Nat) (hN : N ≤ 100000) (z : Int) (e : (N : Int) = z) (W : World) :
    (Instr.makeSlice 22 (.int .i64 z) (.int .i64 z)).run Tryz.prog W = .ok (.slice (some ⟨W.heap.size, 0, none⟩) N N) (W.alloc (.cells (U8s (List.replicate N 0)).toArray 5)) := by
  obtain ⟨i0, hi, hz0, hz1, hz2⟩ := info_at info_u8
  rw [← e, ← made_u8]
  exact run_make_row' 22 5 (.int .u8 0) 1 und_u8s info_u8 rfl .i64 .i64 N (by omega) (by omega) W
/-- A row of k bytes that are written and n that are not. -/
def Lk (c : UInt8) (k n : Nat) : List UInt8 := List.replicate k c ++ List.replicate n 0
theorem Lk_len (c : UInt8) (k n : Nat) : (Lk c k n).length = k + n := by unfold Lk; simp
theorem Lk_at (c : UInt8) (k n : Nat) (hn : 0 < n) : (Lk c k n)[k]? = some 0 := by
  unfold Lk
  rw [List.getElem?_append_right (by simp), List.length_replicate, Nat.sub_self, List.getElem?_replicate, if_pos hn]
theorem Lk_set (c : UInt8) (k n : Nat) : (Lk c k (n + 1)).set k c = Lk c (k + 1) n := by
  unfold Lk
  rw [List.set_append_right _ _ (by simp), List.length_replicate, Nat.sub_self, List.replicate_succ, List.set_cons_zero, List.replicate_succ' (n := k), List.append_assoc]
  rfl
def Ro (W : World) (g : Nat) (l : List UInt8) : Prop := W.heap[g]? = some (.cells (U8s l).toArray 5)
theorem by_world (W : World) (l : List UInt8) : BytesAt (Lib.bytesWorld W 5 (str l)) W.heap.size 0 l := by
  intro i b hi
  have hlt := (List.getElem?_eq_some_iff.1 hi).1
  have := Lib.bytesWorld_cell W 5 (str l) i (by rw [str_size]; exact hlt)
  rw [str_data, List.getD_eq_getElem?_getD, hi] at this
  rw [Nat.zero_add]
  exact this
theorem hnewL {W : World} {o : Obj} {B : Nat} (h : W.heap.size = B) : (W.alloc o).heap[B]? = some o := by subst h; exact heap_alloc_new W o
theorem Ro.bytes {W : World} {g : Nat} {l : List UInt8} (h : Ro W g l) : BytesAt W g 0 l := by
  intro i b hi
  rw [Nat.zero_add, cell_of_row _ g i _ _ _ h]
  unfold U8s
  simp [hi]
theorem Ro.set {W : World} {g k : Nat} {l : List UInt8} {c : UInt8} (h : Ro W g l) : Ro (W.setCell ⟨g, k, none⟩ (.int .u8 (c.toNat : Int))) g (l.set k c) := by
  have := heap_setCell_same W g k _ _ (.int .u8 (c.toNat : Int)) h
  unfold Ro
  rw [this]
  unfold U8s
  simp [List.map_set]
theorem Ro.other {W : World} {g b k : Nat} {l : List UInt8} {u : Value} (h : Ro W g l) (hne : g ≠ b) : Ro (W.setCell ⟨b, k, none⟩ u) g l := (Below.heap_setCell W ⟨b, k, none⟩ u g hne).trans h
end Go.Proofs.YtebfggiodhaahaaGreatDoor
end
section
namespace Go.Proofs.YtebfggiodhaahaaGreatDoor
open Go.RowKit Go.Shelf
set_option linter.unusedVariables false

def DAns (w : World) (l : List UInt8) (E : Int) : Prop := ∀ W g cap, Below w.heap.size w W → BytesAt W g 0 l → Calls Tryz.prog 6 #[.slice (some ⟨g, 0, none⟩) (str l).size cap] W fun e w' => ∃ (kd1 : Int) (bg1 : Bool) (y1 p1a p1b p1c bi1 : Int) (s1 : ByteArray) (la1 : Option Addr) (n1 lc1 : Nat) (ka1 : Option Addr) (m1 kc1 : Nat), e = .returned (.tuple #[V10 kd1 bg1 y1 p1a p1b p1c bi1 s1 la1 n1 lc1 ka1 m1 kc1, .int .i64 E]) ∧ Below W.heap.size W w'
def DNum (w : World) (l : List UInt8) (X E : Int) : Prop := ∀ W g cap, Below w.heap.size w W → BytesAt W g 0 l → Calls Tryz.prog 6 #[.slice (some ⟨g, 0, none⟩) (str l).size cap] W fun e w' => ∃ (kd2 : Int) (bg2 : Bool) (bi2 : Int) (s2 : ByteArray) (la2 : Option Addr) (n2 lc2 : Nat) (ka2 : Option Addr) (m2 kc2 : Nat), e = .returned (.tuple #[V10 kd2 bg2 X 0 0 0 bi2 s2 la2 n2 lc2 ka2 m2 kc2, .int .i64 E]) ∧ Below W.heap.size W w'
end Go.Proofs.YtebfggiodhaahaaGreatDoor
end
section
namespace Go.Proofs.YtebfggiodhaahaaGreatDoor
open Go.RowKit Go.Shelf Go.Maps
set_option linter.unusedVariables false

def oL (k : Nat) (R : List UInt8) : List UInt8 := 123 :: 34 :: 97 :: 34 :: 58 :: oT k R
theorem pre5 : ∀ P ∈ ([[110, 117, 108, 108], [102, 97, 108, 115, 101], [116, 114, 117, 101], [34], [91]] : List (List UInt8)), ∀ t, Lib.hasPrefix (123 :: t) P = false := by
  intro P hP t
  simp only [List.mem_cons, List.not_mem_nil, or_false] at hP
  rcases hP with rfl | rfl | rfl | rfl | rfl <;> exact pre_no (by decide)
theorem pre4 : ∀ P ∈ ([[110, 117, 108, 108], [102, 97, 108, 115, 101], [116, 114, 117, 101], [34]] : List (List UInt8)), ∀ t, Lib.hasPrefix (91 :: t) P = false := by
  intro P hP t
  simp only [List.mem_cons, List.not_mem_nil, or_false] at hP
  rcases hP with rfl | rfl | rfl | rfl <;> exact pre_no (by decide)
theorem rdoc_vc (w0 : World) (b : Nat) (hb0 : w0.heap.size ≤ b) (l : List UInt8) (T : VT) (r : List UInt8) (lg1 un1 : Bool) (hv : VC w0 b l T r lg1 un1) (hend : jskip r = []) (lg un : Bool) (w : World) (hw : Below w0.heap.size w0 w) (h : Jr w b (str l) lg un) :
    Calls Tryz.prog 11 #[.pointer (some ⟨b, 0, none⟩)] w fun e w' => ∃ (o : Own) (kids : List VT), e = .returned (.tuple #[V10 o.kind o.g (lb 0 o.x) (lb 1 o.x) (lb 2 o.x) (lb 3 o.x) o.bits o.text o.la kids.length o.lcap o.ka o.keys.length o.kcap, .bool true]) ∧ (VT.mk o kids).In w' ∧ (VT.mk o kids).Off (fun k => k < w.heap.size) ∧ er (VT.mk o kids) = T ∧ Jr w' b ⟨#[]⟩ (lg || lg1) (un || un1) ∧ But w.heap.size b w w' := by
  refine (rdoc_ok l b lg un w h (fun o kids r2 lg2 un2 W X => (VT.mk o kids).In X ∧ (VT.mk o kids).Off (fun k => k < W.heap.size) ∧ er (VT.mk o kids) = T ∧ r2 = r ∧ lg2 = (lg || lg1) ∧ un2 = (un || un1)) (fun o kids r2 lg2 un2 W X hQ => by rw [hQ.2.2.2.1]; exact hend) (fun W hB hW => ?_)).mono ?_
  · refine (hv lg un W (below_but hb0 hw hB) hW).mono ?_
    rintro e w' ⟨o, kids, he, hI, hO, hE, hj, hb⟩
    exact ⟨o, kids, r, _, _, he, ⟨hI, hO, hE, rfl, rfl, rfl⟩, hj, hb⟩
  · rintro e w' ⟨o, kids, r2, lg2, un2, W, X, he, ⟨hI, hO, hE, hr, hl2, hu2⟩, hB, hj, hb, hlt, hS⟩
    have hbw := h.lt
    subst hr; subst hl2; subst hu2
    rw [hend] at hj
    exact ⟨o, kids, he, hS.keep hI (hO.mono (fun k hk => by rcases hk with rfl | rfl <;> omega)), hO.mono (fun k hk => Nat.lt_trans hk hlt), hE, hj, hb⟩
end Go.Proofs.YtebfggiodhaahaaGreatDoor
end
