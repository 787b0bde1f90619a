/-
  Pieces of a text in JSON and what they mean: code points as themselves, escapes of either kind, what the encoder writes. No Go.
-/
import Derived.Test.YtocffoemimghhaaGreatDoorJsLongM
import Derived.Test.YtocffoemimghhaaGreatDoorGJ2
namespace Go.Proofs.YtocffoemimghhaaGreatDoor
open Go.RowKit Go.Shelf
set_option linter.unusedVariables false

/-- A piece that means x, whatever stands behind it. -/
def Pc (p x : List UInt8) : Prop := ∀ (f : Nat) (R acc : List UInt8), jtx (f + 1) (p ++ R) acc = jtx f R (acc ++ x)
def Pcs (p x : List UInt8) : Prop := ∃ k, ∀ (f : Nat) (R acc : List UInt8), jtx (f + k) (p ++ R) acc = jtx f R (acc ++ x)
theorem Pcs.nil : Pcs [] [] := ⟨0, fun f R acc => by simp⟩
theorem Pc.pcs {p x : List UInt8} (h : Pc p x) : Pcs p x := ⟨1, h⟩
theorem Pcs.both {p x q y : List UInt8} (h : Pcs p x) (k : Pcs q y) : Pcs (p ++ q) (x ++ y) := by
  obtain ⟨a, ha⟩ := h
  obtain ⟨b, hb⟩ := k
  refine ⟨b + a, fun f R acc => ?_⟩
  rw [show f + (b + a) = (f + b) + a by omega, List.append_assoc, ha, hb, List.append_assoc]
theorem Pcs.ends {p x : List UInt8} (h : Pcs p x) : ∃ k, jtx k (p ++ [34]) [] = some (x, []) := by
  obtain ⟨a, ha⟩ := h
  refine ⟨1 + a, ?_⟩
  rw [ha, List.nil_append]
  have := jtx_x 0 x
  simpa using this
theorem Pcs.jv {p x : List UInt8} (h : Pcs p x) : JV (34 :: (p ++ [34])) (lf 5 false 0 0 (str x)) [] false false := by
  obtain ⟨k, hk⟩ := h.ends
  refine .txt (t := p ++ [34]) k ?_ hk
  unfold jskip
  rw [List.dropWhile_cons, if_neg (by decide)]
theorem jtx_succ (f : Nat) (l x : List UInt8) : jtx (f + 1) l x = (if unc l < 32 then none else if l.take (unn l) = [34] then some (x, l.drop (unn l)) else if l.take (unn l) = [92] then (match jesd (l.drop (unn l)) with | some (p, r) => jtx f r (x ++ p) | none => none) else jtx f (l.drop (unn l)) (x ++ l.take (unn l))) := rfl
theorem pc_plain {c : Nat} (h : ulng c ≠ 0) (h32 : 32 ≤ c) (hq : c ≠ 34) (hb : c ≠ 92) : Pc (uenc c) (uenc c) := by
  intro f R acc
  have hd := udec_enc h R
  have hl := uenc_len h
  have hne : ∀ n : Nat, n < 128 → c ≠ n → uenc c ≠ [UInt8.ofNat n] := by
    intro n hn hcn he
    have h1 := udec_enc h []
    rw [List.append_nil, he] at h1
    have h2 : ulng n ≠ 0 := by unfold ulng; rw [if_neg (by omega), if_pos hn]; omega
    have h3 := udec_enc h2 []
    have h4 : uenc n = [UInt8.ofNat n] := by unfold uenc; rw [if_pos hn]
    rw [List.append_nil, h4, h1] at h3
    have := Option.some.inj h3
    simp only [Prod.mk.injEq] at this
    exact hcn this.1
  rw [jtx_succ, unc_some hd, unn_some hd, if_neg (by omega), ← hl, List.take_left, List.drop_left, if_neg (show ¬ uenc c = [34] from hne 34 (by decide) hq), if_neg (show ¬ uenc c = [92] from hne 92 (by decide) hb)]
theorem pc_esc {q x : List UInt8} (h : ∀ R, jesd (q ++ R) = some (x, R)) : Pc (92 :: q) x := by
  intro f R acc
  rw [List.cons_append, jtx_succ]
  obtain ⟨h1, h2⟩ := unc_asc (c := 92) (by decide) (q ++ R)
  rw [h1, h2, if_neg (by decide)]
  show (if ([92] : List UInt8) = [34] then _ else if ([92] : List UInt8) = [92] then (match jesd (q ++ R) with | some (p, r) => jtx f r (acc ++ p) | none => none) else _) = _
  rw [if_neg (by decide), if_pos rfl, h]
theorem up_code {c : Nat} (h : ulng c ≠ 0) : up c = uenc c := by
  unfold up
  rw [uput_some (by rw [zlng_nat]; exact h)]
  rfl
theorem jesd_let {d m : UInt8} (hd : d ≠ 117) (hm : jesm.find? (fun p => p.1 = d) = some (d, m)) (R : List UInt8) : jesd ([d] ++ R) = some ([m], R) := by
  show (if d = 117 then _ else match jesm.find? (fun p => p.1 = d) with | some p => some ([p.2], R) | none => none) = _
  rw [if_neg hd, hm]
theorem jesd_117 (T R : List UInt8) : jesd ((117 :: T) ++ R) = jpnt (T ++ R) := by
  show (if (117 : UInt8) = 117 then jpnt (T ++ R) else (match jesm.find? (fun p => p.1 = 117) with | some p => some ([p.2], T ++ R) | none => none)) = _
  rw [if_pos rfl]
theorem jesd_u {D : List UInt8} {v : Nat} (hD : D.length = 4) (hv : hexs D 0 = some v) (hs : v / 1024 ≠ 54) (hz : ulng v ≠ 0) (R : List UInt8) : jesd ((117 :: D) ++ R) = some (uenc v, R) := by
  rw [jesd_117]
  unfold jpnt
  rw [if_pos (by rw [List.length_append]; omega), show (D ++ R).take 4 = D from by rw [← hD, List.take_left], hv]
  simp only
  rw [if_neg hs, zlng_nat, if_neg hz, up_code hz, show (D ++ R).drop 4 = R from by rw [← hD, List.drop_left]]
theorem jesd_uu {D F : List UInt8} {v u c : Nat} (hD : D.length = 4) (hF : F.length = 4) (hv : hexs D 0 = some v) (hs : v / 1024 = 54) (hu : hexs F 0 = some u) (hs2 : u / 1024 = 55) (hc : c = 65536 + (v - 55296) * 1024 + (u - 56320)) (R : List UInt8) : jesd ((117 :: (D ++ 92 :: 117 :: F)) ++ R) = some (up c, R) := by
  rw [jesd_117]
  have e : (D ++ 92 :: 117 :: F) ++ R = D ++ (92 :: 117 :: (F ++ R)) := by simp
  rw [e]
  unfold jpnt
  have t4 : (D ++ (92 :: 117 :: (F ++ R))).take 4 = D := by rw [← hD, List.take_left]
  have d4 : (D ++ (92 :: 117 :: (F ++ R))).drop 4 = 92 :: 117 :: (F ++ R) := by rw [← hD, List.drop_left]
  rw [if_pos (by rw [List.length_append]; omega), t4, hv]
  simp only
  rw [if_pos hs, d4]
  have d2 : (92 :: 117 :: (F ++ R) : List UInt8).drop 2 = F ++ R := rfl
  rw [d2, if_pos ⟨rfl, by rw [List.length_append]; omega⟩, show (F ++ R).take 4 = F from by rw [← hF, List.take_left], hu]
  simp only
  rw [if_pos hs2, show (F ++ R).drop 4 = R from by rw [← hF, List.drop_left], hc]
/-- A digit of sixteen, small or great. -/
def hx (s : Bool) (n : Nat) : UInt8 := if n < 10 then UInt8.ofNat (48 + n) else if s then UInt8.ofNat (87 + n) else UInt8.ofNat (55 + n)
def hx4 (s : Bool) (n : Nat) : List UInt8 := [hx s (n / 4096 % 16), hx s (n / 256 % 16), hx s (n / 16 % 16), hx s (n % 16)]
theorem hexd_hx : ∀ s : Bool, ∀ n ∈ List.range 16, hexd (hx s n) = some n := by decide +kernel
theorem hexd_at (s : Bool) {n : Nat} (h : n < 16) : hexd (hx s n) = some n := hexd_hx s n (List.mem_range.2 h)
theorem hexs_hx4 (s : Bool) {n : Nat} (h : n < 65536) : hexs (hx4 s n) 0 = some n := by
  unfold hx4
  simp only [hexs, hexd_at s (show n / 4096 % 16 < 16 by omega), hexd_at s (show n / 256 % 16 < 16 by omega), hexd_at s (show n / 16 % 16 < 16 by omega), hexd_at s (show n % 16 < 16 by omega)]
  congr 1
  omega
/-- What the law writes of an escape: its six bytes. -/
def hesc (s : Bool) (n : Nat) : List UInt8 := 92 :: 117 :: hx4 s n
theorem hesc_len (s : Bool) (n : Nat) : (hesc s n).length = 6 := rfl
theorem pc_hesc (s : Bool) {c : Nat} (h : ulng c ≠ 0) (h2 : c < 65536) : Pc (hesc s c) (uenc c) := by
  refine pc_esc (q := 117 :: hx4 s c) (fun R => jesd_u rfl (hexs_hx4 s h2) ?_ h R)
  intro hs
  apply h
  unfold ulng
  rw [if_pos (by omega)]
theorem pc_pair (s t : Bool) {c : Nat} (h : ulng c ≠ 0) (h2 : 65536 ≤ c) : Pc (hesc s (55296 + (c - 65536) / 1024) ++ hesc t (56320 + (c - 65536) % 1024)) (uenc c) := by
  have hc : c ≤ 1114111 := by unfold ulng at h; split at h <;> omega
  rw [← up_code h]
  refine pc_esc (q := 117 :: (hx4 s (55296 + (c - 65536) / 1024) ++ 92 :: 117 :: hx4 t (56320 + (c - 65536) % 1024))) (fun R => jesd_uu rfl rfl (hexs_hx4 s (by omega)) (by omega) (hexs_hx4 t (by omega)) (by omega) (by omega) R)
/-- What the encoder writes of a byte of ASCII, looked at. -/
def jescOk (n : Nat) : Bool := match jesc (UInt8.ofNat n) with
  | [e] => e == UInt8.ofNat n && decide (32 ≤ n) && n != 34 && n != 92
  | [b, d] => b == 92 && d != 117 && jesm.find? (fun p => p.1 = d) == some (d, UInt8.ofNat n)
  | [b, u, x0, x1, x2, x3] => b == 92 && u == 117 && hexs [x0, x1, x2, x3] 0 == some n
  | _ => false
theorem jesc_all : ∀ n ∈ List.range 128, jescOk n = true := by decide +kernel
theorem pc_low {n : Nat} (h : n < 128) : Pc (jesc (UInt8.ofNat n)) (uenc n) := by
  have hk := jesc_all n (List.mem_range.2 h)
  have hu : ulng n ≠ 0 := by unfold ulng; rw [if_neg (by omega), if_pos h]; omega
  have he : uenc n = [UInt8.ofNat n] := by unfold uenc; rw [if_pos h]
  unfold jescOk at hk
  split at hk
  · rename_i e hj
    simp only [Bool.and_eq_true, beq_iff_eq, decide_eq_true_eq, bne_iff_ne, ne_eq] at hk
    rw [hj, hk.1.1.1, ← he]
    exact pc_plain hu hk.1.1.2 hk.1.2 hk.2
  · rename_i b d hj
    simp only [Bool.and_eq_true, beq_iff_eq, bne_iff_ne, ne_eq] at hk
    rw [hj, hk.1.1, he]
    exact pc_esc (q := [d]) (jesd_let hk.1.2 hk.2)
  · rename_i b u x0 x1 x2 x3 hj
    simp only [Bool.and_eq_true, beq_iff_eq] at hk
    rw [hj, hk.1.1, hk.1.2]
    exact pc_esc (q := 117 :: [x0, x1, x2, x3]) (jesd_u rfl hk.2 (by omega) hu)
  · cases hk
theorem jesc_high {b : UInt8} (h : 128 ≤ b.toNat) : jesc b = [b] := by
  have hne : ∀ d : UInt8, d.toNat < 128 → b ≠ d := fun d hd e => by rw [e] at h; omega
  unfold jesc
  rw [if_neg (hne 34 (by decide)), if_neg (hne 92 (by decide)), if_neg (hne 8 (by decide)), if_neg (hne 12 (by decide)), if_neg (hne 10 (by decide)), if_neg (hne 13 (by decide)), if_neg (hne 9 (by decide)), if_neg (by omega)]
theorem uenc_high {c : Nat} (h : ulng c ≠ 0) (h2 : 128 ≤ c) : ∀ b ∈ uenc c, 128 ≤ b.toNat := by
  have hc : c ≤ 1114111 := by unfold ulng at h; split at h <;> omega
  intro b hb
  unfold uenc at hb
  rw [if_neg (by omega)] at hb
  split at hb
  · simp only [List.mem_cons, List.not_mem_nil, or_false] at hb
    rcases hb with rfl | rfl <;> rw [u8n (by omega)] <;> omega
  · split at hb
    · simp only [List.mem_cons, List.not_mem_nil, or_false] at hb
      rcases hb with rfl | rfl | rfl <;> rw [u8n (by omega)] <;> omega
    · simp only [List.mem_cons, List.not_mem_nil, or_false] at hb
      rcases hb with rfl | rfl | rfl | rfl <;> rw [u8n (by omega)] <;> omega
theorem jescs_high {l : List UInt8} (h : ∀ b ∈ l, 128 ≤ b.toNat) : l.flatMap jesc = l := by
  induction l with
  | nil => rfl
  | cons b l ih =>
    rw [List.flatMap_cons, jesc_high (h b (List.mem_cons_self ..)), ih (fun x hx => h x (List.mem_cons_of_mem _ hx))]
    rfl
/-- What the encoder writes of a code point is read as it. -/
theorem pc_enc {c : Nat} (h : ulng c ≠ 0) : Pc ((uenc c).flatMap jesc) (uenc c) := by
  by_cases h2 : c < 128
  · have he : uenc c = [UInt8.ofNat c] := by unfold uenc; rw [if_pos h2]
    have h3 : (uenc c).flatMap jesc = jesc (UInt8.ofNat c) := by rw [he, List.flatMap_cons, List.flatMap_nil, List.append_nil]
    rw [h3]
    exact pc_low h2
  · rw [jescs_high (uenc_high h (by omega))]
    exact pc_plain h (by omega) (by omega) (by omega)
/-- S is read as T, and so is what the encoder writes of T. -/
def Tq (S T : List UInt8) : Prop := Pcs S T ∧ Pcs (T.flatMap jesc) T ∧ uval T = true
theorem Tq.nil : Tq [] [] := ⟨.nil, .nil, uval_nil⟩
theorem Tq.snoc {S T p : List UInt8} {c : Nat} (h : Tq S T) (hc : ulng c ≠ 0) (hp : Pc p (uenc c)) : Tq (S ++ p) (T ++ uenc c) := by
  refine ⟨h.1.both hp.pcs, ?_, ?_⟩
  · rw [List.flatMap_append]
    exact h.2.1.both (pc_enc hc).pcs
  · rw [(uval_both _ T (uenc c) (Nat.le_refl _) h.2.2).1]
    exact (uval_enc hc).1
theorem txt_may {x : List UInt8} (h : uval x = true) (hl : x.length ≤ 4096) : mayN (lf 5 false 0 0 (str x)) = 0 := by
  rw [lf_may]
  have h1 : overT (lf 5 false 0 0 (str x)) = false := by
    have h : ∀ (o : Own) (m : Nat), o.kind = 5 → overB o m = decide (4096 < o.text.size) := fun o m h => by
      unfold overB
      rw [if_pos (Or.inl h)]
    refine (h (lf 5 false 0 0 (str x)).o (lf 5 false 0 0 (str x)).kids.length rfl).trans ?_
    show decide (4096 < (str x).size) = _
    rw [str_size]
    exact decide_eq_false (by omega)
  have h2 : wrongT (lf 5 false 0 0 (str x)) = false := by
    show (!(outB ⟨5, false, 0, 0, str x, none, 0, none, 0, []⟩ 0 && restB ⟨5, false, 0, 0, str x, none, 0, none, 0, []⟩ 0)) = false
    have h1 : outB ⟨5, false, 0, 0, str x, none, 0, none, 0, []⟩ 0 = true := by
      unfold outB
      simp only
      rw [if_neg (by omega), if_neg (by omega), if_pos (by first | trivial | simp), eqO_parts]
      refine ⟨rfl, ?_, rfl, rfl, rfl, rfl⟩
      simp only [lb_zero]
      simp [eq5, eq4]
    have h2 : restB ⟨5, false, 0, 0, str x, none, 0, none, 0, []⟩ 0 = true := by
      unfold restB
      simp only
      rw [if_neg (by omega), if_neg (by omega), if_neg (by omega), if_neg (by omega), if_pos trivial, str_data]
      exact h
    rw [h1, h2]; rfl
  rw [h1, h2]
  rfl
theorem txt_json (x : List UInt8) : hasT notJsonT (lf 5 false 0 0 (str x)) = false := by
  rw [lf_has]
  rfl
theorem txt_enc (x : List UInt8) : jencT (lf 5 false 0 0 (str x)) = jq x := by
  unfold lf
  rw [jencT_mk, jO_5 rfl, str_data]
end Go.Proofs.YtocffoemimghhaaGreatDoor
