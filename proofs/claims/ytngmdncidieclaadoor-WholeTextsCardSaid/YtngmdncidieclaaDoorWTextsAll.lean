/-
  The reference's May, OfUint, OfInt: the contracts, for all whole numbers of a sign and four words. What a parse answers, as a number and whether there is one. The reference's PrintInt, ParseInt: the contracts, for all whole numbers of a sign and four words, all texts of at most 500 bytes. entrepotlaw2.WholeTexts answers true for every whole number of a sign and four words and every text. The tables math/bits.deBruijn64tab, internal/strconv.uint64pow10 read as their initialisers lay them.
-/
import Derived.Test.YtngmdncidieclaaDoorRefWh
import Derived.Test.YtngmdncidieclaaDoorRefText
import Derived.Test.YtngmdncidieclaaDoorWholeJ
section
namespace Go.Proofs.YtngmdncidieclaaDoor
open Go.RowKit Go.Shelf
attribute [local go_sem ↓] eql_nat neq_nat eql_int5 neq_int5

theorem rmay_pos (x0 x1 x2 x3 : Int) (w : World) :
    Calls Tryd.prog 29 #[.agg #[.bool false, .int .u64 x0, .int .u64 x1, .int .u64 x2, .int .u64 x3]] w fun e w' => e = .returned (.bool true) ∧ Below w.heap.size w w' := by
  go_enter Tryd.func29, Tryd.ntmps29
  go_wp2
  go_ret
  exact ⟨rfl, by repeat (first | exact Below.refl _ _ | refine bal ?_ _ | refine Below.drew ?_ | refine bdn ?_ _)⟩
theorem rmay_neg (x0 x1 x2 x3 : Int) (w : World) :
    Calls Tryd.prog 29 #[.agg #[.bool true, .int .u64 x0, .int .u64 x1, .int .u64 x2, .int .u64 x3]] w fun e w' => e = .returned (.bool (!eq4 x0 x1 x2 x3 0 0 0 0)) ∧ Below w.heap.size w w' := by
  go_enter Tryd.func29, Tryd.ntmps29
  go_wp2
  go_ret
  exact ⟨rfl, by repeat (first | exact Below.refl _ _ | refine bal ?_ _ | refine Below.drew ?_ | refine bdn ?_ _)⟩
theorem rofuint (v : Int) (w : World) :
    Calls Tryd.prog 33 #[.int .u64 v] w fun e w' => e = .returned (.agg #[.bool false, .int .u64 v, .int .u64 0, .int .u64 0, .int .u64 0]) ∧ Below w.heap.size w w' := by
  go_enter Tryd.func33, Tryd.ntmps33
  go_wp2
  refine bodyPost_ret (v := .agg #[.bool false, .int .u64 v, .int .u64 0, .int .u64 0, .int .u64 0]) (by simp [results, Tryd.results33, go_sem]) rfl ⟨rfl, ?_⟩
  repeat (first | (with_reducible exact Below.refl _ _) | (with_reducible refine bal ?_ _) | (with_reducible refine Below.drew ?_) | (with_reducible refine bdn ?_ _) | ((with_reducible refine bsc ?_ ?_ _); rotate_left; (focus (simp only []; omega))))
theorem rofint_pos (v : Int) (h0 : ¬ v < 0) (h1 : v < 9223372036854775808) (w : World) :
    Calls Tryd.prog 31 #[.int .i64 v] w fun e w' => e = .returned (.agg #[.bool false, .int .u64 v, .int .u64 0, .int .u64 0, .int .u64 0]) ∧ Below w.heap.size w w' := by
  have w1 : IntKind.u64.wrap v = v := by rw [IntKind.wrap_u64]; omega
  go_enter Tryd.func31, Tryd.ntmps31
  go_wp2
  refine bodyPost_ret (v := .agg #[.bool false, .int .u64 v, .int .u64 0, .int .u64 0, .int .u64 0]) (by simp [results, Tryd.results31, go_sem]) rfl ⟨rfl, ?_⟩
  repeat (first | (with_reducible exact Below.refl _ _) | (with_reducible refine bal ?_ _) | (with_reducible refine Below.drew ?_) | (with_reducible refine bdn ?_ _) | ((with_reducible refine bsc ?_ ?_ _); rotate_left; (focus (simp only []; omega))))
theorem rofint_neg (v p q : Int) (h0 : v < 0) (h1 : -9223372036854775808 ≤ v) (hp : p = v + 1) (hq : q = -p) (w : World) :
    Calls Tryd.prog 31 #[.int .i64 v] w fun e w' => e = .returned (.agg #[.bool true, .int .u64 (-v), .int .u64 0, .int .u64 0, .int .u64 0]) ∧ Below w.heap.size w w' := by
  have w0 : IntKind.i64.wrap (v + 1) = p := by rw [Go.IntWalk.i64_in _ (by omega)]; omega
  have w1 : IntKind.i64.wrap (-p) = q := by rw [Go.IntWalk.i64_in _ (by omega)]; omega
  have w2 : IntKind.u64.wrap q = q := by rw [IntKind.wrap_u64]; omega
  have w3 : IntKind.u64.wrap (q + 1) = -v := by rw [IntKind.wrap_u64]; omega
  clear hp hq
  go_enter Tryd.func31, Tryd.ntmps31
  go_wp2
  refine bodyPost_ret (v := .agg #[.bool true, .int .u64 (-v), .int .u64 0, .int .u64 0, .int .u64 0]) (by simp [results, Tryd.results31, go_sem]) rfl ⟨rfl, ?_⟩
  repeat (first | (with_reducible exact Below.refl _ _) | (with_reducible refine bal ?_ _) | (with_reducible refine Below.drew ?_) | (with_reducible refine bdn ?_ _) | ((with_reducible refine bsc ?_ ?_ _); rotate_left; (focus (simp only []; omega))))
end Go.Proofs.YtngmdncidieclaaDoor
end
section
namespace Go.Proofs.YtngmdncidieclaaDoor
open Go.RowKit Go.Shelf

theorem pend_eq {s : ByteArray} {f : FuncId} {w : World} (k : Calls Tryd.prog f #[.string s] w fun e w' => ParseEnd s e ∧ Below w.heap.size w w') :
    Calls Tryd.prog f #[.string s] w fun e w' => e = .returned (.tuple #[N4 ((parseN s).getD 0), .bool (parseN s).isSome]) ∧ Below w.heap.size w w' := by
  refine k.mono ?_
  rintro e w' ⟨h, hb⟩
  refine ⟨?_, hb⟩
  unfold ParseEnd at h
  rw [h]
  cases parseN s with
  | none => simp only [Option.getD, Option.isSome, N4, lb_zero]
  | some v => rfl
theorem dfold_below : ∀ (l : List UInt8) (x y : Nat), x < 2 ^ 256 → dfold l x = some y → y < 2 ^ 256
  | [], x, y, hx, h => by simp only [dfold] at h; cases h; exact hx
  | c :: l, x, y, hx, h => by
    simp only [dfold] at h
    cases hd : dstep x c with
    | none => rw [hd] at h; cases h
    | some z => rw [hd] at h; exact dfold_below l z y (dstep_lt hd) h
theorem parseN_below (s : ByteArray) : (parseN s).getD 0 < 2 ^ 256 := by
  cases h : parseN s with
  | none => exact Nat.two_pow_pos _
  | some v =>
    unfold parseN at h
    split at h
    · cases h
    · exact dfold_below _ 0 v (by decide) h
end Go.Proofs.YtngmdncidieclaaDoor
end
section
namespace Go.Proofs.YtngmdncidieclaaDoor
open Go.RowKit Go.Shelf
attribute [local go_sem ↓] eql_nat neq_nat eql_int5 neq_int5

set_option maxHeartbeats 1000000 in
set_option maxRecDepth 100000 in
theorem rprintint_pos (x : Nat) (p : ByteArray) (hx : x < 2 ^ 256) (_hp : p.size ≤ 78) (w : World)
    (k6 : ∀ s' W, DR W s' x → Calls Tryd.prog 27 #[s'] W fun e w' => e = .returned (.string p) ∧ Below W.heap.size W w') :
    Calls Tryd.prog 47 #[I5 false x] w fun e w' => e = .returned (.string p) ∧ Below w.heap.size w w' := by
  have K6 := Lib.hid k6; have HX := Lib.hid hx; clear k6 hx
  unfold I5
  go_enter Tryd.func47, Tryd.ntmps47
  go_wp2_with fail
  refine (rmay_pos _ _ _ _ _).mono ?_
  rintro e w1 ⟨rfl, hb⟩
  have BW1 : Below w.heap.size w w1 := btr (by repeat (first | (with_reducible exact Below.refl _ _) | (with_reducible refine bal ?_ _) | (with_reducible refine Below.drew ?_) | (with_reducible refine bdn ?_ _))) hb
  have X1 : Row5 w1 w.heap.size (.bool false) (.int .u64 (lb 0 x)) (.int .u64 (lb 1 x)) (.int .u64 (lb 2 x)) (.int .u64 (lb 3 x)) := Row5.keep hb (by repeat (first | (with_reducible exact Row5.new _ _ _ _ _ _) | ((with_reducible refine Row5.new' _ ?_ _ _ _ _ _); (simp; done)) | (with_reducible refine Row5.alloc ?_ _) | (with_reducible refine Row5.drew ?_)))
  clear hb
  obtain ⟨Xc0, Xc1, Xc2, Xc3, Xc4⟩ := X1.parts
  obtain ⟨Xf0, Xf1, Xf2, Xf3, Xf4⟩ := X1.free
  go_wp2_with fail
  refine (rof x HX.out _).mono ?_
  rintro e w2 ⟨s1, rfl, hr, hb⟩
  have hbX : Below w1.heap.size w1 w2 := btr (by repeat (first | (with_reducible exact Below.refl _ _) | (with_reducible refine bal ?_ _) | (with_reducible refine Below.drew ?_) | (with_reducible refine bdn ?_ _))) hb
  clear hbX
  have DX2 : DR w2 s1 x := hr
  clear hr
  have BW2 : Below w.heap.size w w2 := btr (by repeat (first | (with_reducible exact BW1) | (with_reducible refine bal ?_ _) | (with_reducible refine Below.drew ?_) | (with_reducible refine bdn ?_ _))) hb
  have X2 : Row5 w2 w.heap.size (.bool false) (.int .u64 (lb 0 x)) (.int .u64 (lb 1 x)) (.int .u64 (lb 2 x)) (.int .u64 (lb 3 x)) := Row5.keep hb (by repeat (first | (with_reducible exact X1) | (with_reducible refine Row5.alloc ?_ _) | (with_reducible refine Row5.drew ?_)))
  clear X1
  clear BW1
  clear hb
  go_wp2_with fail
  refine (K6.out _ _ (DR.keep (by repeat (first | (with_reducible exact Below.refl _ _) | (with_reducible refine bal ?_ _) | (with_reducible refine Below.drew ?_) | (with_reducible refine bdn ?_ _))) DX2)).mono ?_
  rintro e w3 ⟨rfl, hb⟩
  have hbX : Below w2.heap.size w2 w3 := btr (by repeat (first | (with_reducible exact Below.refl _ _) | (with_reducible refine bal ?_ _) | (with_reducible refine Below.drew ?_) | (with_reducible refine bdn ?_ _))) hb
  have DX3 : DR w3 s1 x := DR.keep hbX DX2
  clear DX2
  clear hbX
  have BW3 : Below w.heap.size w w3 := btr (by repeat (first | (with_reducible exact BW2) | (with_reducible refine bal ?_ _) | (with_reducible refine Below.drew ?_) | (with_reducible refine bdn ?_ _))) hb
  have X3 : Row5 w3 w.heap.size (.bool false) (.int .u64 (lb 0 x)) (.int .u64 (lb 1 x)) (.int .u64 (lb 2 x)) (.int .u64 (lb 3 x)) := Row5.keep hb (by repeat (first | (with_reducible exact X2) | (with_reducible refine Row5.alloc ?_ _) | (with_reducible refine Row5.drew ?_)))
  clear X2
  clear BW2
  clear hb
  obtain ⟨Xc0, Xc1, Xc2, Xc3, Xc4⟩ := X3.parts
  obtain ⟨Xf0, Xf1, Xf2, Xf3, Xf4⟩ := X3.free
  go_wp2
  go_ret
  exact ⟨rfl, BW3⟩
set_option maxHeartbeats 1000000 in
set_option maxRecDepth 100000 in
theorem rprintint_neg (x : Nat) (p : ByteArray) (hx : x < 2 ^ 256) (hp : p.size ≤ 78) (q1 : eq4 (lb 0 x) (lb 1 x) (lb 2 x) (lb 3 x) 0 0 0 0 = false) (w : World)
    (k6 : ∀ s' W, DR W s' x → Calls Tryd.prog 27 #[s'] W fun e w' => e = .returned (.string p) ∧ Below W.heap.size W w') :
    Calls Tryd.prog 47 #[I5 true x] w fun e w' => e = .returned (.string (⟨#[45]⟩ ++ p)) ∧ Below w.heap.size w w' := by
  have K6 := Lib.hid k6; have HX := Lib.hid hx; clear k6 hx
  unfold I5
  have hm := rmay_neg (lb 0 x) (lb 1 x) (lb 2 x) (lb 3 x)
  rw [q1] at hm
  have HM := Lib.hid hm; clear hm
  go_enter Tryd.func47, Tryd.ntmps47
  go_wp2_with fail
  refine (HM.out _).mono ?_
  rintro e w1 ⟨rfl, hb⟩
  have BW1 : Below w.heap.size w w1 := btr (by repeat (first | (with_reducible exact Below.refl _ _) | (with_reducible refine bal ?_ _) | (with_reducible refine Below.drew ?_) | (with_reducible refine bdn ?_ _))) hb
  have X1 : Row5 w1 w.heap.size (.bool true) (.int .u64 (lb 0 x)) (.int .u64 (lb 1 x)) (.int .u64 (lb 2 x)) (.int .u64 (lb 3 x)) := Row5.keep hb (by repeat (first | (with_reducible exact Row5.new _ _ _ _ _ _) | ((with_reducible refine Row5.new' _ ?_ _ _ _ _ _); (simp; done)) | (with_reducible refine Row5.alloc ?_ _) | (with_reducible refine Row5.drew ?_)))
  clear hb
  obtain ⟨Xc0, Xc1, Xc2, Xc3, Xc4⟩ := X1.parts
  obtain ⟨Xf0, Xf1, Xf2, Xf3, Xf4⟩ := X1.free
  go_wp2_with fail
  refine (rof x HX.out _).mono ?_
  rintro e w2 ⟨s1, rfl, hr, hb⟩
  have hbX : Below w1.heap.size w1 w2 := btr (by repeat (first | (with_reducible exact Below.refl _ _) | (with_reducible refine bal ?_ _) | (with_reducible refine Below.drew ?_) | (with_reducible refine bdn ?_ _))) hb
  clear hbX
  have DX2 : DR w2 s1 x := hr
  clear hr
  have BW2 : Below w.heap.size w w2 := btr (by repeat (first | (with_reducible exact BW1) | (with_reducible refine bal ?_ _) | (with_reducible refine Below.drew ?_) | (with_reducible refine bdn ?_ _))) hb
  have X2 : Row5 w2 w.heap.size (.bool true) (.int .u64 (lb 0 x)) (.int .u64 (lb 1 x)) (.int .u64 (lb 2 x)) (.int .u64 (lb 3 x)) := Row5.keep hb (by repeat (first | (with_reducible exact X1) | (with_reducible refine Row5.alloc ?_ _) | (with_reducible refine Row5.drew ?_)))
  clear X1
  clear BW1
  clear hb
  go_wp2_with fail
  refine (K6.out _ _ (DR.keep (by repeat (first | (with_reducible exact Below.refl _ _) | (with_reducible refine bal ?_ _) | (with_reducible refine Below.drew ?_) | (with_reducible refine bdn ?_ _))) DX2)).mono ?_
  rintro e w3 ⟨rfl, hb⟩
  have hbX : Below w2.heap.size w2 w3 := btr (by repeat (first | (with_reducible exact Below.refl _ _) | (with_reducible refine bal ?_ _) | (with_reducible refine Below.drew ?_) | (with_reducible refine bdn ?_ _))) hb
  have DX3 : DR w3 s1 x := DR.keep hbX DX2
  clear DX2
  clear hbX
  have BW3 : Below w.heap.size w w3 := btr (by repeat (first | (with_reducible exact BW2) | (with_reducible refine bal ?_ _) | (with_reducible refine Below.drew ?_) | (with_reducible refine bdn ?_ _))) hb
  have X3 : Row5 w3 w.heap.size (.bool true) (.int .u64 (lb 0 x)) (.int .u64 (lb 1 x)) (.int .u64 (lb 2 x)) (.int .u64 (lb 3 x)) := Row5.keep hb (by repeat (first | (with_reducible exact X2) | (with_reducible refine Row5.alloc ?_ _) | (with_reducible refine Row5.drew ?_)))
  clear X2
  clear BW2
  clear hb
  obtain ⟨Xc0, Xc1, Xc2, Xc3, Xc4⟩ := X3.parts
  obtain ⟨Xf0, Xf1, Xf2, Xf3, Xf4⟩ := X3.free
  go_wp2
  go_ret
  exact ⟨rfl, BW3⟩
set_option maxRecDepth 100000 in
theorem rprintint_bad (w : World) : Calls Tryd.prog 47 #[I5 true 0] w fun e w' => e = .returned (.string ⟨#[]⟩) ∧ Below w.heap.size w w' := by
  unfold I5
  simp only [lb_zero]
  have hm := rmay_neg 0 0 0 0
  rw [show eq4 0 0 0 0 0 0 0 0 = true by decide] at hm
  have HM := Lib.hid hm; clear hm
  go_enter Tryd.func47, Tryd.ntmps47
  go_wp2_with fail
  refine (HM.out _).mono ?_
  rintro e w1 ⟨rfl, hb⟩
  have BW1 : Below w.heap.size w w1 := btr (by repeat (first | (with_reducible exact Below.refl _ _) | (with_reducible refine bal ?_ _) | (with_reducible refine Below.drew ?_) | (with_reducible refine bdn ?_ _))) hb
  have X1 : Row5 w1 w.heap.size (.bool true) (.int .u64 0) (.int .u64 0) (.int .u64 0) (.int .u64 0) := Row5.keep hb (by repeat (first | (with_reducible exact Row5.new _ _ _ _ _ _) | ((with_reducible refine Row5.new' _ ?_ _ _ _ _ _); (simp; done)) | (with_reducible refine Row5.alloc ?_ _) | (with_reducible refine Row5.drew ?_)))
  clear hb
  go_wp2
  go_ret
  exact ⟨rfl, BW1⟩
theorem rprintint_z (z : Int) (hz : z.natAbs < 2 ^ 256) (w : World) :
    Calls Tryd.prog 47 #[Iz z] w fun e w' => e = .returned (.string (zstr z)) ∧ Below w.heap.size w w' := by
  rcases sgn z with ⟨n, rfl⟩ | ⟨n, hn, rfl⟩
  · have hn2 : n < 2 ^ 256 := by omega
    have lx : (digs n).length ≤ 1000 := Nat.le_trans (digs_len.2 (show n < 2 ^ (32 * 8) from hn2)) (by decide)
    have e : zstr (n : Int) = dstr n := by unfold zstr; rw [if_neg (by omega), Int.natAbs_natCast]
    rw [Iz_nat, e]
    exact rprintint_pos n (dstr n) hn2 (dstr_le hn2) w (fun s' W hD => rprint hD lx)
  · have hn2 : n < 2 ^ 256 := by omega
    have lx : (digs n).length ≤ 1000 := Nat.le_trans (digs_len.2 (show n < 2 ^ (32 * 8) from hn2)) (by decide)
    have e : zstr (-(n : Int)) = ⟨#[45]⟩ ++ dstr n := by unfold zstr; rw [if_pos (by omega), Int.natAbs_neg, Int.natAbs_natCast]
    rw [Iz_neg hn, e]
    exact rprintint_neg n (dstr n) hn2 (dstr_le hn2) ((eq4_of n 0 hn2 (by decide)).trans (decide_eq_false hn)) w (fun s' W hD => rprint hD lx)
set_option maxHeartbeats 1000000 in
set_option maxRecDepth 100000 in
theorem rparseint_minus (s : ByteArray) (v : Nat) (b : Bool) (h1 : 1 < (s.size : Int)) (h1' : 0 < s.size) (h1'' : 1 < s.size) (h2 : 1 ≤ (s.size : Int)) (h0 : ((s[0].toNat : Int) == 45) = true) (h3 : ((s[1].toNat : Int) != 48) = true) (w : World)
    (k1 : ∀ W, Calls Tryd.prog 25 #[.string (s.extract 1 s.size)] W fun e w' => e = .returned (.tuple #[N4 v, .bool b]) ∧ Below W.heap.size W w') :
    Calls Tryd.prog 45 #[.string s] w fun e w' => e = .returned (.tuple #[.agg #[.bool b, .int .u64 (lb 0 v), .int .u64 (lb 1 v), .int .u64 (lb 2 v), .int .u64 (lb 3 v)], .bool b]) ∧ Below w.heap.size w w' := by
  have K1 := Lib.hid k1; clear k1
  go_enter Tryd.func45, Tryd.ntmps45
  go_wp2_with fail
  refine (K1.out _).mono ?_
  rintro e w1 ⟨rfl, hb⟩
  have BW1 : Below w.heap.size w w1 := btr (by repeat (first | (with_reducible exact Below.refl _ _) | (with_reducible refine bal ?_ _) | (with_reducible refine Below.drew ?_) | (with_reducible refine bdn ?_ _))) hb
  have R1 : Row5 w1 w.heap.size (.bool false) (.int .u64 0) (.int .u64 0) (.int .u64 0) (.int .u64 0) := Row5.keep hb (by repeat (first | (with_reducible exact Row5.new _ _ _ _ _ _) | ((with_reducible refine Row5.new' _ ?_ _ _ _ _ _); (simp; done)) | (with_reducible refine Row5.alloc ?_ _) | (with_reducible refine Row5.drew ?_)))
  clear hb
  go_upto_region 3 with (fail)
  go_name_world w2 hw2
  have BW2 : Below w.heap.size w w2 := by rw [← hw2]; repeat (first | (with_reducible exact BW1) | (with_reducible refine bal ?_ _) | (with_reducible refine Below.drew ?_) | (with_reducible refine bdn ?_ _))
  have R2 : Row5 w2 w.heap.size (.bool false) (.int .u64 0) (.int .u64 0) (.int .u64 0) (.int .u64 0) := by rw [← hw2]; exact (by repeat (first | (with_reducible exact R1) | (with_reducible refine Row5.alloc ?_ _) | (with_reducible refine Row5.drew ?_)))
  have apN_R := R1.lt
  have apN_0 := (BW1).size
  have N2 : Row4 w2 w1.heap.size (.int .u64 (lb 0 v)) (.int .u64 (lb 1 v)) (.int .u64 (lb 2 v)) (.int .u64 (lb 3 v)) := by rw [← hw2]; exact (by repeat (first | (with_reducible exact Row4.new _ _ _ _ _) | ((with_reducible refine Row4.new' _ ?_ _ _ _ _); (simp; done)) | (with_reducible refine Row4.alloc ?_ _) | (with_reducible refine Row4.drew ?_)))
  clear R1
  clear BW1
  clear hw2
  obtain ⟨Rc0, Rc1, Rc2, Rc3, Rc4⟩ := R2.parts
  obtain ⟨Rf0, Rf1, Rf2, Rf3, Rf4⟩ := R2.free
  obtain ⟨Nc0, Nc1, Nc2, Nc3⟩ := N2.four
  obtain ⟨Nf0, Nf1, Nf2, Nf3⟩ := N2.free4
  have lt_R := R2.lt
  have lt_N := N2.lt
  have neRN : ¬ w1.heap.size = w.heap.size := by omega
  have neNR : ¬ w.heap.size = w1.heap.size := by omega
  go_wp2
  exact bodyPost_ret (v := .tuple #[.agg #[.bool b, .int .u64 (lb 0 v), .int .u64 (lb 1 v), .int .u64 (lb 2 v), .int .u64 (lb 3 v)], .bool b]) (by simp [results, Tryd.results45, go_sem, Rc0, Rc1, Rc2, Rc3, Rc4]) rfl ⟨rfl, by repeat (first | (with_reducible exact BW2) | (with_reducible refine bal ?_ _) | (with_reducible refine Below.drew ?_) | (with_reducible refine bdn ?_ _) | ((with_reducible refine bsc ?_ ?_ _); rotate_left; (focus (simp only []; omega))))⟩
set_option maxHeartbeats 1000000 in
set_option maxRecDepth 100000 in
theorem rparseint_short (s : ByteArray) (v : Nat) (b : Bool) (h1 : ¬ 1 < (s.size : Int)) (w : World)
    (k1 : ∀ W, Calls Tryd.prog 25 #[.string s] W fun e w' => e = .returned (.tuple #[N4 v, .bool b]) ∧ Below W.heap.size W w') :
    Calls Tryd.prog 45 #[.string s] w fun e w' => e = .returned (.tuple #[.agg #[.bool false, .int .u64 (lb 0 v), .int .u64 (lb 1 v), .int .u64 (lb 2 v), .int .u64 (lb 3 v)], .bool b]) ∧ Below w.heap.size w w' := by
  have K1 := Lib.hid k1; clear k1
  go_enter Tryd.func45, Tryd.ntmps45
  go_wp2_with fail
  refine (K1.out _).mono ?_
  rintro e w1 ⟨rfl, hb⟩
  have BW1 : Below w.heap.size w w1 := btr (by repeat (first | (with_reducible exact Below.refl _ _) | (with_reducible refine bal ?_ _) | (with_reducible refine Below.drew ?_) | (with_reducible refine bdn ?_ _))) hb
  have R1 : Row5 w1 w.heap.size (.bool false) (.int .u64 0) (.int .u64 0) (.int .u64 0) (.int .u64 0) := Row5.keep hb (by repeat (first | (with_reducible exact Row5.new _ _ _ _ _ _) | ((with_reducible refine Row5.new' _ ?_ _ _ _ _ _); (simp; done)) | (with_reducible refine Row5.alloc ?_ _) | (with_reducible refine Row5.drew ?_)))
  clear hb
  go_upto_region 5 with (fail)
  go_name_world w2 hw2
  have BW2 : Below w.heap.size w w2 := by rw [← hw2]; repeat (first | (with_reducible exact BW1) | (with_reducible refine bal ?_ _) | (with_reducible refine Below.drew ?_) | (with_reducible refine bdn ?_ _))
  have R2 : Row5 w2 w.heap.size (.bool false) (.int .u64 0) (.int .u64 0) (.int .u64 0) (.int .u64 0) := by rw [← hw2]; exact (by repeat (first | (with_reducible exact R1) | (with_reducible refine Row5.alloc ?_ _) | (with_reducible refine Row5.drew ?_)))
  have apN_R := R1.lt
  have apN_0 := (BW1).size
  have N2 : Row4 w2 w1.heap.size (.int .u64 (lb 0 v)) (.int .u64 (lb 1 v)) (.int .u64 (lb 2 v)) (.int .u64 (lb 3 v)) := by rw [← hw2]; exact (by repeat (first | (with_reducible exact Row4.new _ _ _ _ _) | ((with_reducible refine Row4.new' _ ?_ _ _ _ _); (simp; done)) | (with_reducible refine Row4.alloc ?_ _) | (with_reducible refine Row4.drew ?_)))
  clear R1
  clear BW1
  clear hw2
  obtain ⟨Rc0, Rc1, Rc2, Rc3, Rc4⟩ := R2.parts
  obtain ⟨Rf0, Rf1, Rf2, Rf3, Rf4⟩ := R2.free
  obtain ⟨Nc0, Nc1, Nc2, Nc3⟩ := N2.four
  obtain ⟨Nf0, Nf1, Nf2, Nf3⟩ := N2.free4
  have lt_R := R2.lt
  have lt_N := N2.lt
  have neRN : ¬ w1.heap.size = w.heap.size := by omega
  have neNR : ¬ w.heap.size = w1.heap.size := by omega
  go_wp2
  exact bodyPost_ret (v := .tuple #[.agg #[.bool false, .int .u64 (lb 0 v), .int .u64 (lb 1 v), .int .u64 (lb 2 v), .int .u64 (lb 3 v)], .bool b]) (by simp [results, Tryd.results45, go_sem, Rc0, Rc1, Rc2, Rc3, Rc4]) rfl ⟨rfl, by repeat (first | (with_reducible exact BW2) | (with_reducible refine bal ?_ _) | (with_reducible refine Below.drew ?_) | (with_reducible refine bdn ?_ _) | ((with_reducible refine bsc ?_ ?_ _); rotate_left; (focus (simp only []; omega))))⟩
set_option maxHeartbeats 1000000 in
set_option maxRecDepth 100000 in
theorem rparseint_plain (s : ByteArray) (v : Nat) (b : Bool) (h1 : 1 < (s.size : Int)) (h1' : 0 < s.size) (h0 : ((s[0].toNat : Int) == 45) = false) (w : World)
    (k1 : ∀ W, Calls Tryd.prog 25 #[.string s] W fun e w' => e = .returned (.tuple #[N4 v, .bool b]) ∧ Below W.heap.size W w') :
    Calls Tryd.prog 45 #[.string s] w fun e w' => e = .returned (.tuple #[.agg #[.bool false, .int .u64 (lb 0 v), .int .u64 (lb 1 v), .int .u64 (lb 2 v), .int .u64 (lb 3 v)], .bool b]) ∧ Below w.heap.size w w' := by
  have K1 := Lib.hid k1; clear k1
  go_enter Tryd.func45, Tryd.ntmps45
  go_wp2_with fail
  refine (K1.out _).mono ?_
  rintro e w1 ⟨rfl, hb⟩
  have BW1 : Below w.heap.size w w1 := btr (by repeat (first | (with_reducible exact Below.refl _ _) | (with_reducible refine bal ?_ _) | (with_reducible refine Below.drew ?_) | (with_reducible refine bdn ?_ _))) hb
  have R1 : Row5 w1 w.heap.size (.bool false) (.int .u64 0) (.int .u64 0) (.int .u64 0) (.int .u64 0) := Row5.keep hb (by repeat (first | (with_reducible exact Row5.new _ _ _ _ _ _) | ((with_reducible refine Row5.new' _ ?_ _ _ _ _ _); (simp; done)) | (with_reducible refine Row5.alloc ?_ _) | (with_reducible refine Row5.drew ?_)))
  clear hb
  go_upto_region 5 with (fail)
  go_name_world w2 hw2
  have BW2 : Below w.heap.size w w2 := by rw [← hw2]; repeat (first | (with_reducible exact BW1) | (with_reducible refine bal ?_ _) | (with_reducible refine Below.drew ?_) | (with_reducible refine bdn ?_ _))
  have R2 : Row5 w2 w.heap.size (.bool false) (.int .u64 0) (.int .u64 0) (.int .u64 0) (.int .u64 0) := by rw [← hw2]; exact (by repeat (first | (with_reducible exact R1) | (with_reducible refine Row5.alloc ?_ _) | (with_reducible refine Row5.drew ?_)))
  have apN_R := R1.lt
  have apN_0 := (BW1).size
  have N2 : Row4 w2 w1.heap.size (.int .u64 (lb 0 v)) (.int .u64 (lb 1 v)) (.int .u64 (lb 2 v)) (.int .u64 (lb 3 v)) := by rw [← hw2]; exact (by repeat (first | (with_reducible exact Row4.new _ _ _ _ _) | ((with_reducible refine Row4.new' _ ?_ _ _ _ _); (simp; done)) | (with_reducible refine Row4.alloc ?_ _) | (with_reducible refine Row4.drew ?_)))
  clear R1
  clear BW1
  clear hw2
  obtain ⟨Rc0, Rc1, Rc2, Rc3, Rc4⟩ := R2.parts
  obtain ⟨Rf0, Rf1, Rf2, Rf3, Rf4⟩ := R2.free
  obtain ⟨Nc0, Nc1, Nc2, Nc3⟩ := N2.four
  obtain ⟨Nf0, Nf1, Nf2, Nf3⟩ := N2.free4
  have lt_R := R2.lt
  have lt_N := N2.lt
  have neRN : ¬ w1.heap.size = w.heap.size := by omega
  have neNR : ¬ w.heap.size = w1.heap.size := by omega
  go_wp2
  exact bodyPost_ret (v := .tuple #[.agg #[.bool false, .int .u64 (lb 0 v), .int .u64 (lb 1 v), .int .u64 (lb 2 v), .int .u64 (lb 3 v)], .bool b]) (by simp [results, Tryd.results45, go_sem, Rc0, Rc1, Rc2, Rc3, Rc4]) rfl ⟨rfl, by repeat (first | (with_reducible exact BW2) | (with_reducible refine bal ?_ _) | (with_reducible refine Below.drew ?_) | (with_reducible refine bdn ?_ _) | ((with_reducible refine bsc ?_ ?_ _); rotate_left; (focus (simp only []; omega))))⟩
set_option maxHeartbeats 1000000 in
set_option maxRecDepth 100000 in
theorem rparseint_nought (s : ByteArray) (v : Nat) (b : Bool) (h1 : 1 < (s.size : Int)) (h1' : 0 < s.size) (h1'' : 1 < s.size) (h0 : ((s[0].toNat : Int) == 45) = true) (h3 : ((s[1].toNat : Int) != 48) = false) (w : World)
    (k1 : ∀ W, Calls Tryd.prog 25 #[.string s] W fun e w' => e = .returned (.tuple #[N4 v, .bool b]) ∧ Below W.heap.size W w') :
    Calls Tryd.prog 45 #[.string s] w fun e w' => e = .returned (.tuple #[.agg #[.bool false, .int .u64 (lb 0 v), .int .u64 (lb 1 v), .int .u64 (lb 2 v), .int .u64 (lb 3 v)], .bool b]) ∧ Below w.heap.size w w' := by
  have K1 := Lib.hid k1; clear k1
  go_enter Tryd.func45, Tryd.ntmps45
  go_wp2_with fail
  refine (K1.out _).mono ?_
  rintro e w1 ⟨rfl, hb⟩
  have BW1 : Below w.heap.size w w1 := btr (by repeat (first | (with_reducible exact Below.refl _ _) | (with_reducible refine bal ?_ _) | (with_reducible refine Below.drew ?_) | (with_reducible refine bdn ?_ _))) hb
  have R1 : Row5 w1 w.heap.size (.bool false) (.int .u64 0) (.int .u64 0) (.int .u64 0) (.int .u64 0) := Row5.keep hb (by repeat (first | (with_reducible exact Row5.new _ _ _ _ _ _) | ((with_reducible refine Row5.new' _ ?_ _ _ _ _ _); (simp; done)) | (with_reducible refine Row5.alloc ?_ _) | (with_reducible refine Row5.drew ?_)))
  clear hb
  go_upto_region 5 with (fail)
  go_name_world w2 hw2
  have BW2 : Below w.heap.size w w2 := by rw [← hw2]; repeat (first | (with_reducible exact BW1) | (with_reducible refine bal ?_ _) | (with_reducible refine Below.drew ?_) | (with_reducible refine bdn ?_ _))
  have R2 : Row5 w2 w.heap.size (.bool false) (.int .u64 0) (.int .u64 0) (.int .u64 0) (.int .u64 0) := by rw [← hw2]; exact (by repeat (first | (with_reducible exact R1) | (with_reducible refine Row5.alloc ?_ _) | (with_reducible refine Row5.drew ?_)))
  have apN_R := R1.lt
  have apN_0 := (BW1).size
  have N2 : Row4 w2 w1.heap.size (.int .u64 (lb 0 v)) (.int .u64 (lb 1 v)) (.int .u64 (lb 2 v)) (.int .u64 (lb 3 v)) := by rw [← hw2]; exact (by repeat (first | (with_reducible exact Row4.new _ _ _ _ _) | ((with_reducible refine Row4.new' _ ?_ _ _ _ _); (simp; done)) | (with_reducible refine Row4.alloc ?_ _) | (with_reducible refine Row4.drew ?_)))
  clear R1
  clear BW1
  clear hw2
  obtain ⟨Rc0, Rc1, Rc2, Rc3, Rc4⟩ := R2.parts
  obtain ⟨Rf0, Rf1, Rf2, Rf3, Rf4⟩ := R2.free
  obtain ⟨Nc0, Nc1, Nc2, Nc3⟩ := N2.four
  obtain ⟨Nf0, Nf1, Nf2, Nf3⟩ := N2.free4
  have lt_R := R2.lt
  have lt_N := N2.lt
  have neRN : ¬ w1.heap.size = w.heap.size := by omega
  have neNR : ¬ w.heap.size = w1.heap.size := by omega
  go_wp2
  exact bodyPost_ret (v := .tuple #[.agg #[.bool false, .int .u64 (lb 0 v), .int .u64 (lb 1 v), .int .u64 (lb 2 v), .int .u64 (lb 3 v)], .bool b]) (by simp [results, Tryd.results45, go_sem, Rc0, Rc1, Rc2, Rc3, Rc4]) rfl ⟨rfl, by repeat (first | (with_reducible exact BW2) | (with_reducible refine bal ?_ _) | (with_reducible refine Below.drew ?_) | (with_reducible refine bdn ?_ _) | ((with_reducible refine bsc ?_ ?_ _); rotate_left; (focus (simp only []; omega))))⟩
theorem parse_zero {s : ByteArray} (h : parseN s = some 0) : s.data.toList.head? = some 48 := by
  rw [parseN_dgs] at h
  split at h
  · cases h
  · cases hs : s.data.toList with
    | nil =>
      rename_i hn
      have hl : s.data.toList.length = s.size := by simp
      rw [hs] at hl
      exact absurd (.inl hl.symm) hn
    | cons c l =>
      rw [hs] at h
      simp only [dgs] at h
      by_cases hc : isD c
      · rw [if_pos hc] at h
        cases hd : dgs l (0 * 10 + (c.toNat - 48)) with
        | none => rw [hd] at h; cases h
        | some v =>
          rw [hd] at h
          have hv : v = 0 := by
            by_cases hv : v < 2 ^ 256
            · rw [capN_in hv] at h; exact Option.some.inj h
            · rw [capN_out hv] at h; cases h
          have hg := dgs_ge _ _ _ hd
          have hp : 0 < 10 ^ l.length := Nat.pow_pos (by decide)
          have h0 : (0 * 10 + (c.toNat - 48)) = 0 := by
            rcases Nat.eq_zero_or_pos (0 * 10 + (c.toNat - 48)) with h0 | h0
            · exact h0
            · have := Nat.mul_pos h0 hp; omega
          unfold isD at hc
          have : c = 48 := UInt8.toNat_inj.1 (by rw [show (48 : UInt8).toNat = 48 from rfl]; omega)
          rw [this]; rfl
      · rw [if_neg hc] at h; cases h
theorem head_at {s : ByteArray} (h : 0 < s.size) : s.data.toList.head? = some s[0] := by
  have hl : s.data.toList.length = s.size := by simp
  cases hs : s.data.toList with
  | nil => rw [hs] at hl; simp at hl; omega
  | cons c l =>
    have : s[0] = s.data.toList[0]'(by omega) := rfl
    rw [this]
    simp [hs]
theorem extract_list (s : ByteArray) (i : Nat) : (s.extract i s.size).data.toList = s.data.toList.drop i := by
  rw [ByteArray.data_extract, Array.toList_extract, List.extract_eq_take_drop]
  apply List.take_of_length_le
  rw [List.length_drop]
  have : s.data.toList.length = s.size := by simp
  omega
theorem parseN_list {s t : ByteArray} (h : s.data.toList = t.data.toList) : parseN s = parseN t := by
  have hs : s.size = t.size := by
    have h1 : s.data.toList.length = s.size := by simp
    have h2 : t.data.toList.length = t.size := by simp
    rw [← h1, ← h2, h]
  unfold parseN
  rw [hs, h]
theorem zend_of {s : ByteArray} (hp : Lib.hasPrefix s.data.toList [45] = false) : ZEnd (parseZ s) = .tuple #[.agg #[.bool false, .int .u64 (lb 0 ((parseN s).getD 0)), .int .u64 (lb 1 ((parseN s).getD 0)), .int .u64 (lb 2 ((parseN s).getD 0)), .int .u64 (lb 3 ((parseN s).getD 0))], .bool (parseN s).isSome] := by
  unfold parseZ
  have e : Lib.trimPrefix s.data.toList [45] = s.data.toList := by unfold Lib.trimPrefix; rw [hp]; rfl
  rw [e, parseN_list (s := ⟨s.data.toList.toArray⟩) (t := s) rfl, hp]
  cases parseN s with
  | none => simp only [ZEnd, Option.getD, Option.isSome, lb_zero]
  | some v =>
    simp only [ZEnd, Option.getD, Option.isSome, Bool.false_eq_true, if_false]
    rw [Iz_nat]
theorem not_dash {c : UInt8} : ((c.toNat : Int) == 45) = decide (c = 45) := by
  rw [Bool.eq_iff_iff, beq_iff_eq, decide_eq_true_iff]
  constructor
  · intro h; exact UInt8.toNat_inj.1 (by rw [show (45 : UInt8).toNat = 45 from rfl]; omega)
  · intro h; rw [h]; rfl
theorem not_nought {c : UInt8} : ((c.toNat : Int) != 48) = !decide (c = 48) := by
  have : ((c.toNat : Int) == 48) = decide (c = 48) := by
    rw [Bool.eq_iff_iff, beq_iff_eq, decide_eq_true_iff]
    constructor
    · intro h; exact UInt8.toNat_inj.1 (by rw [show (48 : UInt8).toNat = 48 from rfl]; omega)
    · intro h; rw [h]; rfl
  rw [bne, this]
theorem pre_dash (l : List UInt8) : Lib.hasPrefix l [45] = decide (l.head? = some 45) := by
  cases l with
  | nil => rfl
  | cons c l =>
    have e : Lib.hasPrefix (c :: l) [45] = ((45 : UInt8) == c) := by
      show ((45 : UInt8) == c && List.isPrefixOf [] l) = _
      rw [List.isPrefixOf, Bool.and_true]
    rw [e, Bool.eq_iff_iff, beq_iff_eq, decide_eq_true_iff]
    constructor
    · intro h; rw [← h]; rfl
    · intro h; exact (Option.some.inj h).symm
/-- The reference's ParseInt. -/
theorem rparseint_z (s : ByteArray) (hmax : s.size ≤ 500) (w : World) :
    Calls Tryd.prog 45 #[.string s] w fun e w' => e = .returned (ZEnd (parseZ s)) ∧ Below w.heap.size w w' := by
  have kp := fun W => pend_eq (rparse s hmax W)
  by_cases h1 : 1 < s.size
  · have hh := head_at (s := s) (by omega)
    by_cases hd : s[0] = 45
    · have hpre : Lib.hasPrefix s.data.toList [45] = true := by rw [pre_dash, hh, hd]; rfl
      have ht : Lib.trimPrefix s.data.toList [45] = s.data.toList.drop 1 := by unfold Lib.trimPrefix; rw [hpre]; rfl
      have hc : ∃ l : List UInt8, s.data.toList = (45 : UInt8) :: s[1] :: l := by
        have hl : s.data.toList.length = s.size := by simp
        match hs : s.data.toList, hl with
        | [], hl => simp at hl; omega
        | [c], hl => simp at hl; omega
        | c :: d :: l, hl =>
          have e0 : s[0] = s.data.toList[0]'(by rw [hs]; simp) := rfl
          have e1 : s[1] = s.data.toList[1]'(by rw [hs]; simp) := rfl
          rw [e0] at hd
          simp only [hs, List.getElem_cons_zero] at hd
          rw [e1]
          simp only [hs, List.getElem_cons_succ, List.getElem_cons_zero]
          exact ⟨l, by rw [hd]⟩
      obtain ⟨l, hl⟩ := hc
      by_cases hn : s[1] = 48
      · refine (rparseint_nought s _ _ (by omega) (by omega) h1 (by rw [not_dash]; exact decide_eq_true hd) (by rw [not_nought, decide_eq_true hn]; rfl) w kp).mono ?_
        rintro e w' ⟨rfl, hb⟩
        refine ⟨?_, hb⟩
        have hp0 : parseN s = none := by
          rw [parseN_dgs]
          split
          · rfl
          · rw [hl]; rfl
        have hz : parseZ s = none := by
          unfold parseZ
          rw [ht, hpre, hl, hn]
          cases l with
          | nil =>
            have : parseN ⟨(List.drop 1 [45, 48]).toArray⟩ = some 0 := parseN_dec (s := ⟨#[48]⟩) (x := 0) (by rw [dec_small (by decide)]; rfl) (by decide)
            rw [this]
            rfl
          | cons c l =>
            have : parseN ⟨(List.drop 1 (45 :: 48 :: c :: l)).toArray⟩ = none := parseN_nought (l := c :: l) rfl (by simp)
            rw [this]
        rw [hp0, hz]
        simp only [ZEnd, Option.getD, Option.isSome, lb_zero]
      · have hx : (s.extract 1 s.size).size ≤ 500 := by rw [ByteArray.size_extract]; omega
        have kx := fun W => pend_eq (rparse (s.extract 1 s.size) hx W)
        refine (rparseint_minus s _ _ (by omega) (by omega) h1 (by omega) (by rw [not_dash]; exact decide_eq_true hd) (by rw [not_nought, decide_eq_false hn]; rfl) w kx).mono ?_
        rintro e w' ⟨rfl, hb⟩
        refine ⟨?_, hb⟩
        have hpx : parseN ⟨(s.data.toList.drop 1).toArray⟩ = parseN (s.extract 1 s.size) := parseN_list (by rw [extract_list])
        cases hp : parseN (s.extract 1 s.size) with
        | none =>
          have hz : parseZ s = none := by unfold parseZ; rw [ht, hpx, hp]
          rw [hz]
          simp only [ZEnd, Option.getD, Option.isSome, lb_zero]
        | some v =>
          have hv : v ≠ 0 := by
            intro h0
            rw [h0] at hp
            have := parse_zero hp
            rw [extract_list, hl] at this
            exact hn (Option.some.inj this)
          have hz : parseZ s = some (-(v : Int)) := by unfold parseZ; rw [ht, hpx, hp, hpre]; simp only [if_true]; rw [if_neg hv]
          rw [hz]
          simp only [ZEnd, Option.getD, Option.isSome]
          rw [Iz_neg hv]
    · have hpre : Lib.hasPrefix s.data.toList [45] = false := by rw [pre_dash, hh]; exact decide_eq_false (fun h => hd (Option.some.inj h))
      rw [zend_of hpre]
      exact rparseint_plain s _ _ (by omega) (by omega) (by rw [not_dash]; exact decide_eq_false hd) w kp
  · refine (rparseint_short s _ _ (by omega) w kp).mono ?_
    rintro e w' ⟨rfl, hb⟩
    refine ⟨?_, hb⟩
    cases hpre : Lib.hasPrefix s.data.toList [45] with
    | false => rw [zend_of hpre]
    | true =>
      have hl : s.data.toList = [45] := by
        have hl : s.data.toList.length = s.size := by simp
        rw [pre_dash] at hpre
        have hpre := of_decide_eq_true hpre
        match hs : s.data.toList, hl with
        | [], hl => rw [hs] at hpre; cases hpre
        | [c], hl => rw [hs] at hpre; rw [Option.some.inj hpre]
        | c :: d :: l, hl => simp at hl; omega
      have hp0 : parseN s = none := by
        rw [parseN_dgs]
        split
        · rfl
        · rw [hl]; rfl
      have hz : parseZ s = none := by
        unfold parseZ
        rw [hl]
        rfl
      rw [hp0, hz]
      simp only [ZEnd, Option.getD, Option.isSome, lb_zero]
end Go.Proofs.YtngmdncidieclaaDoor
end
section
namespace Go.Proofs.YtngmdncidieclaaDoor
open Go.RowKit Go.Shelf
attribute [local go_sem ↓] eql_nat neq_nat eql_int5 neq_int5

set_option maxRecDepth 100000 in
theorem wtexts_long (g : Bool) (x0 x1 x2 x3 : Int) (s : ByteArray) (hs : 120 < (s.size : Int)) (w : World) (hT : Tabs w) :
    Calls Tryd.prog 6 #[.agg #[.bool g, .int .u64 x0, .int .u64 x1, .int .u64 x2, .int .u64 x3], .string s] w fun e w' => e = .returned (.bool true) ∧ Below w.heap.size w w' := by
  have HT := Lib.hid hT; clear hT
  go_enter Tryd.func6, Tryd.ntmps6
  go_wp2_with fail
  refine (told2_true _ (tabs_on HT.out (by repeat (first | (with_reducible exact Below.refl _ _) | (with_reducible refine bal ?_ _) | (with_reducible refine Below.drew ?_) | (with_reducible refine bdn ?_ _))))).mono ?_
  rintro e w1 ⟨rfl, hb⟩
  have BW1 : Below w.heap.size w w1 := btr (by repeat (first | (with_reducible exact Below.refl _ _) | (with_reducible refine bal ?_ _) | (with_reducible refine Below.drew ?_) | (with_reducible refine bdn ?_ _))) hb
  clear hb
  go_wp2
  go_ret
  exact ⟨rfl, BW1⟩
set_option maxHeartbeats 2000000 in
set_option maxRecDepth 100000 in
theorem wtexts_good (g : Bool) (x : Nat) (c : Bool) (v : Nat) (b : Bool) (s p : ByteArray) (hs : ¬ 120 < (s.size : Int)) (w : World) (hT : Tabs w)
    (q1 : eq5 c (lb 0 v) (lb 1 v) (lb 2 v) (lb 3 v) c (lb 0 v) (lb 1 v) (lb 2 v) (lb 3 v) = true) (q2 : eq5 g (lb 0 x) (lb 1 x) (lb 2 x) (lb 3 x) g (lb 0 x) (lb 1 x) (lb 2 x) (lb 3 x) = true)
    (k1 : ∀ W, Calls Tryd.prog 44 #[.string s] W fun e w' => e = .returned (.tuple #[I5 c v, .bool b]) ∧ Below W.heap.size W w')
    (k2 : ∀ W, Calls Tryd.prog 45 #[.string s] W fun e w' => e = .returned (.tuple #[I5 c v, .bool b]) ∧ Below W.heap.size W w')
    (k3 : ∀ W, Tab W → Calls Tryd.prog 46 #[I5 g x] W fun e w' => e = .returned (.string p) ∧ Below W.heap.size W w')
    (k4 : ∀ W, Calls Tryd.prog 44 #[.string p] W fun e w' => e = .returned (.tuple #[I5 g x, .bool true]) ∧ Below W.heap.size W w')
    (k5 : ∀ W, Calls Tryd.prog 47 #[I5 g x] W fun e w' => e = .returned (.string p) ∧ Below W.heap.size W w')
    (k6 : ∀ W, Calls Tryd.prog 29 #[I5 g x] W fun e w' => e = .returned (.bool true) ∧ Below W.heap.size W w') :
    Calls Tryd.prog 6 #[I5 g x, .string s] w fun e w' => e = .returned (.bool true) ∧ Below w.heap.size w w' := by
  unfold I5 at *
  have HT := Lib.hid hT; have K1 := Lib.hid k1; have K2 := Lib.hid k2; have K3 := Lib.hid k3; have K4 := Lib.hid k4; have K5 := Lib.hid k5; have K6 := Lib.hid k6; have Q1 := Lib.hid q1; have Q2 := Lib.hid q2; clear hT q1 q2 k1 k2 k3 k4 k5 k6
  have hbb : (b == b) = true := beq_self_eq_true b
  go_enter Tryd.func6, Tryd.ntmps6
  go_wp2_with fail
  refine (K1.out _).mono ?_
  rintro e w1 ⟨rfl, hb⟩
  have BW1 : Below w.heap.size w w1 := btr (by repeat (first | (with_reducible exact Below.refl _ _) | (with_reducible refine bal ?_ _) | (with_reducible refine Below.drew ?_) | (with_reducible refine bdn ?_ _))) hb
  have X1 : Row5 w1 w.heap.size (.bool g) (.int .u64 (lb 0 x)) (.int .u64 (lb 1 x)) (.int .u64 (lb 2 x)) (.int .u64 (lb 3 x)) := Row5.keep hb (by repeat (first | (with_reducible exact Row5.new _ _ _ _ _ _) | ((with_reducible refine Row5.new' _ ?_ _ _ _ _ _); (simp; done)) | (with_reducible refine Row5.alloc ?_ _) | (with_reducible refine Row5.drew ?_)))
  clear hb
  go_wp2_with fail
  refine (K2.out _).mono ?_
  rintro e w2 ⟨rfl, hb⟩
  have BW2 : Below w.heap.size w w2 := btr (by repeat (first | (with_reducible exact BW1) | (with_reducible refine bal ?_ _) | (with_reducible refine Below.drew ?_) | (with_reducible refine bdn ?_ _))) hb
  have X2 : Row5 w2 w.heap.size (.bool g) (.int .u64 (lb 0 x)) (.int .u64 (lb 1 x)) (.int .u64 (lb 2 x)) (.int .u64 (lb 3 x)) := Row5.keep hb (by repeat (first | (with_reducible exact X1) | (with_reducible refine Row5.alloc ?_ _) | (with_reducible refine Row5.drew ?_)))
  have apP_X := X1.lt
  have apP_0 := (BW1).size
  have P2 : Row5 w2 w1.heap.size (.bool c) (.int .u64 (lb 0 v)) (.int .u64 (lb 1 v)) (.int .u64 (lb 2 v)) (.int .u64 (lb 3 v)) := Row5.keep hb (by repeat (first | (with_reducible exact Row5.new _ _ _ _ _ _) | ((with_reducible refine Row5.new' _ ?_ _ _ _ _ _); (simp; done)) | (with_reducible refine Row5.alloc ?_ _) | (with_reducible refine Row5.drew ?_)))
  clear X1
  clear BW1
  clear hb
  go_upto_region 5 with (fail)
  go_name_world w3 hw3
  have BW3 : Below w.heap.size w w3 := by rw [← hw3]; repeat (first | (with_reducible exact BW2) | (with_reducible refine bal ?_ _) | (with_reducible refine Below.drew ?_) | (with_reducible refine bdn ?_ _))
  have X3 : Row5 w3 w.heap.size (.bool g) (.int .u64 (lb 0 x)) (.int .u64 (lb 1 x)) (.int .u64 (lb 2 x)) (.int .u64 (lb 3 x)) := by rw [← hw3]; exact (by repeat (first | (with_reducible exact X2) | (with_reducible refine Row5.alloc ?_ _) | (with_reducible refine Row5.drew ?_)))
  have P3 : Row5 w3 w1.heap.size (.bool c) (.int .u64 (lb 0 v)) (.int .u64 (lb 1 v)) (.int .u64 (lb 2 v)) (.int .u64 (lb 3 v)) := by rw [← hw3]; exact (by repeat (first | (with_reducible exact P2) | (with_reducible refine Row5.alloc ?_ _) | (with_reducible refine Row5.drew ?_)))
  have apM_X := X2.lt
  have apM_P := P2.lt
  have apM_0 := (BW2).size
  have M3 : Row5 w3 w2.heap.size (.bool c) (.int .u64 (lb 0 v)) (.int .u64 (lb 1 v)) (.int .u64 (lb 2 v)) (.int .u64 (lb 3 v)) := by rw [← hw3]; exact (by repeat (first | (with_reducible exact Row5.new _ _ _ _ _ _) | ((with_reducible refine Row5.new' _ ?_ _ _ _ _ _); (simp; done)) | (with_reducible refine Row5.alloc ?_ _) | (with_reducible refine Row5.drew ?_)))
  clear X2 P2
  clear BW2
  clear hw3
  obtain ⟨Xc0, Xc1, Xc2, Xc3, Xc4⟩ := X3.parts
  obtain ⟨Xf0, Xf1, Xf2, Xf3, Xf4⟩ := X3.free
  go_wp2_with fail
  refine (K3.out _ (tab_on HT.out.1 (by repeat (first | (with_reducible exact BW3) | (with_reducible refine bal ?_ _) | (with_reducible refine Below.drew ?_) | (with_reducible refine bdn ?_ _))))).mono ?_
  rintro e w4 ⟨rfl, hb⟩
  have BW4 : Below w.heap.size w w4 := btr (by repeat (first | (with_reducible exact BW3) | (with_reducible refine bal ?_ _) | (with_reducible refine Below.drew ?_) | (with_reducible refine bdn ?_ _))) hb
  have X4 : Row5 w4 w.heap.size (.bool g) (.int .u64 (lb 0 x)) (.int .u64 (lb 1 x)) (.int .u64 (lb 2 x)) (.int .u64 (lb 3 x)) := Row5.keep hb (by repeat (first | (with_reducible exact X3) | (with_reducible refine Row5.alloc ?_ _) | (with_reducible refine Row5.drew ?_)))
  have P4 : Row5 w4 w1.heap.size (.bool c) (.int .u64 (lb 0 v)) (.int .u64 (lb 1 v)) (.int .u64 (lb 2 v)) (.int .u64 (lb 3 v)) := Row5.keep hb (by repeat (first | (with_reducible exact P3) | (with_reducible refine Row5.alloc ?_ _) | (with_reducible refine Row5.drew ?_)))
  have M4 : Row5 w4 w2.heap.size (.bool c) (.int .u64 (lb 0 v)) (.int .u64 (lb 1 v)) (.int .u64 (lb 2 v)) (.int .u64 (lb 3 v)) := Row5.keep hb (by repeat (first | (with_reducible exact M3) | (with_reducible refine Row5.alloc ?_ _) | (with_reducible refine Row5.drew ?_)))
  clear X3 P3 M3
  clear BW3
  clear hb
  go_wp2_with fail
  refine (K4.out _).mono ?_
  rintro e w5 ⟨rfl, hb⟩
  have BW5 : Below w.heap.size w w5 := btr (by repeat (first | (with_reducible exact BW4) | (with_reducible refine bal ?_ _) | (with_reducible refine Below.drew ?_) | (with_reducible refine bdn ?_ _))) hb
  have X5 : Row5 w5 w.heap.size (.bool g) (.int .u64 (lb 0 x)) (.int .u64 (lb 1 x)) (.int .u64 (lb 2 x)) (.int .u64 (lb 3 x)) := Row5.keep hb (by repeat (first | (with_reducible exact X4) | (with_reducible refine Row5.alloc ?_ _) | (with_reducible refine Row5.drew ?_)))
  have P5 : Row5 w5 w1.heap.size (.bool c) (.int .u64 (lb 0 v)) (.int .u64 (lb 1 v)) (.int .u64 (lb 2 v)) (.int .u64 (lb 3 v)) := Row5.keep hb (by repeat (first | (with_reducible exact P4) | (with_reducible refine Row5.alloc ?_ _) | (with_reducible refine Row5.drew ?_)))
  have M5 : Row5 w5 w2.heap.size (.bool c) (.int .u64 (lb 0 v)) (.int .u64 (lb 1 v)) (.int .u64 (lb 2 v)) (.int .u64 (lb 3 v)) := Row5.keep hb (by repeat (first | (with_reducible exact M4) | (with_reducible refine Row5.alloc ?_ _) | (with_reducible refine Row5.drew ?_)))
  clear X4 P4 M4
  clear BW4
  clear hb
  go_wp2_with fail
  refine (told2_true _ (tabs_on HT.out (by repeat (first | (with_reducible exact BW5) | (with_reducible refine bal ?_ _) | (with_reducible refine Below.drew ?_) | (with_reducible refine bdn ?_ _))))).mono ?_
  rintro e w6 ⟨rfl, hb⟩
  have BW6 : Below w.heap.size w w6 := btr (by repeat (first | (with_reducible exact BW5) | (with_reducible refine bal ?_ _) | (with_reducible refine Below.drew ?_) | (with_reducible refine bdn ?_ _))) hb
  have X6 : Row5 w6 w.heap.size (.bool g) (.int .u64 (lb 0 x)) (.int .u64 (lb 1 x)) (.int .u64 (lb 2 x)) (.int .u64 (lb 3 x)) := Row5.keep hb (by repeat (first | (with_reducible exact X5) | (with_reducible refine Row5.alloc ?_ _) | (with_reducible refine Row5.drew ?_)))
  have P6 : Row5 w6 w1.heap.size (.bool c) (.int .u64 (lb 0 v)) (.int .u64 (lb 1 v)) (.int .u64 (lb 2 v)) (.int .u64 (lb 3 v)) := Row5.keep hb (by repeat (first | (with_reducible exact P5) | (with_reducible refine Row5.alloc ?_ _) | (with_reducible refine Row5.drew ?_)))
  have M6 : Row5 w6 w2.heap.size (.bool c) (.int .u64 (lb 0 v)) (.int .u64 (lb 1 v)) (.int .u64 (lb 2 v)) (.int .u64 (lb 3 v)) := Row5.keep hb (by repeat (first | (with_reducible exact M5) | (with_reducible refine Row5.alloc ?_ _) | (with_reducible refine Row5.drew ?_)))
  have apB_X := X5.lt
  have apB_P := P5.lt
  have apB_M := M5.lt
  have apB_0 := (BW5).size
  have B6 : Row5 w6 w5.heap.size (.bool g) (.int .u64 (lb 0 x)) (.int .u64 (lb 1 x)) (.int .u64 (lb 2 x)) (.int .u64 (lb 3 x)) := Row5.keep hb (by repeat (first | (with_reducible exact Row5.new _ _ _ _ _ _) | ((with_reducible refine Row5.new' _ ?_ _ _ _ _ _); (simp; done)) | (with_reducible refine Row5.alloc ?_ _) | (with_reducible refine Row5.drew ?_)))
  clear X5 P5 M5
  clear BW5
  clear hb
  obtain ⟨Xc0, Xc1, Xc2, Xc3, Xc4⟩ := X6.parts
  obtain ⟨Xf0, Xf1, Xf2, Xf3, Xf4⟩ := X6.free
  obtain ⟨Pc0, Pc1, Pc2, Pc3, Pc4⟩ := P6.parts
  obtain ⟨Pf0, Pf1, Pf2, Pf3, Pf4⟩ := P6.free
  obtain ⟨Mc0, Mc1, Mc2, Mc3, Mc4⟩ := M6.parts
  obtain ⟨Mf0, Mf1, Mf2, Mf3, Mf4⟩ := M6.free
  have q1 := Q1.out
  go_wp2_with fail
  refine (K5.out _).mono ?_
  rintro e w7 ⟨rfl, hb⟩
  have BW7 : Below w.heap.size w w7 := btr (by repeat (first | (with_reducible exact BW6) | (with_reducible refine bal ?_ _) | (with_reducible refine Below.drew ?_) | (with_reducible refine bdn ?_ _))) hb
  have X7 : Row5 w7 w.heap.size (.bool g) (.int .u64 (lb 0 x)) (.int .u64 (lb 1 x)) (.int .u64 (lb 2 x)) (.int .u64 (lb 3 x)) := Row5.keep hb (by repeat (first | (with_reducible exact X6) | (with_reducible refine Row5.alloc ?_ _) | (with_reducible refine Row5.drew ?_)))
  have P7 : Row5 w7 w1.heap.size (.bool c) (.int .u64 (lb 0 v)) (.int .u64 (lb 1 v)) (.int .u64 (lb 2 v)) (.int .u64 (lb 3 v)) := Row5.keep hb (by repeat (first | (with_reducible exact P6) | (with_reducible refine Row5.alloc ?_ _) | (with_reducible refine Row5.drew ?_)))
  have M7 : Row5 w7 w2.heap.size (.bool c) (.int .u64 (lb 0 v)) (.int .u64 (lb 1 v)) (.int .u64 (lb 2 v)) (.int .u64 (lb 3 v)) := Row5.keep hb (by repeat (first | (with_reducible exact M6) | (with_reducible refine Row5.alloc ?_ _) | (with_reducible refine Row5.drew ?_)))
  have B7 : Row5 w7 w5.heap.size (.bool g) (.int .u64 (lb 0 x)) (.int .u64 (lb 1 x)) (.int .u64 (lb 2 x)) (.int .u64 (lb 3 x)) := Row5.keep hb (by repeat (first | (with_reducible exact B6) | (with_reducible refine Row5.alloc ?_ _) | (with_reducible refine Row5.drew ?_)))
  clear X6 P6 M6 B6
  clear BW6
  clear hb
  clear q1
  obtain ⟨Xc0, Xc1, Xc2, Xc3, Xc4⟩ := X7.parts
  obtain ⟨Xf0, Xf1, Xf2, Xf3, Xf4⟩ := X7.free
  go_wp2_with fail
  refine (K6.out _).mono ?_
  rintro e w8 ⟨rfl, hb⟩
  have BW8 : Below w.heap.size w w8 := btr (by repeat (first | (with_reducible exact BW7) | (with_reducible refine bal ?_ _) | (with_reducible refine Below.drew ?_) | (with_reducible refine bdn ?_ _))) hb
  have X8 : Row5 w8 w.heap.size (.bool g) (.int .u64 (lb 0 x)) (.int .u64 (lb 1 x)) (.int .u64 (lb 2 x)) (.int .u64 (lb 3 x)) := Row5.keep hb (by repeat (first | (with_reducible exact X7) | (with_reducible refine Row5.alloc ?_ _) | (with_reducible refine Row5.drew ?_)))
  have P8 : Row5 w8 w1.heap.size (.bool c) (.int .u64 (lb 0 v)) (.int .u64 (lb 1 v)) (.int .u64 (lb 2 v)) (.int .u64 (lb 3 v)) := Row5.keep hb (by repeat (first | (with_reducible exact P7) | (with_reducible refine Row5.alloc ?_ _) | (with_reducible refine Row5.drew ?_)))
  have M8 : Row5 w8 w2.heap.size (.bool c) (.int .u64 (lb 0 v)) (.int .u64 (lb 1 v)) (.int .u64 (lb 2 v)) (.int .u64 (lb 3 v)) := Row5.keep hb (by repeat (first | (with_reducible exact M7) | (with_reducible refine Row5.alloc ?_ _) | (with_reducible refine Row5.drew ?_)))
  have B8 : Row5 w8 w5.heap.size (.bool g) (.int .u64 (lb 0 x)) (.int .u64 (lb 1 x)) (.int .u64 (lb 2 x)) (.int .u64 (lb 3 x)) := Row5.keep hb (by repeat (first | (with_reducible exact B7) | (with_reducible refine Row5.alloc ?_ _) | (with_reducible refine Row5.drew ?_)))
  clear X7 P7 M7 B7
  clear BW7
  clear hb
  obtain ⟨Xc0, Xc1, Xc2, Xc3, Xc4⟩ := X8.parts
  obtain ⟨Xf0, Xf1, Xf2, Xf3, Xf4⟩ := X8.free
  obtain ⟨Bc0, Bc1, Bc2, Bc3, Bc4⟩ := B8.parts
  obtain ⟨Bf0, Bf1, Bf2, Bf3, Bf4⟩ := B8.free
  have q2 := Q2.out
  go_wp2
  go_ret
  exact ⟨rfl, BW8⟩
set_option maxHeartbeats 2000000 in
set_option maxRecDepth 100000 in
theorem wtexts_bad (g : Bool) (x : Nat) (c : Bool) (v : Nat) (b : Bool) (s p : ByteArray) (hs : ¬ 120 < (s.size : Int)) (w : World) (hT : Tabs w)
    (q1 : eq5 c (lb 0 v) (lb 1 v) (lb 2 v) (lb 3 v) c (lb 0 v) (lb 1 v) (lb 2 v) (lb 3 v) = true)
    (k1 : ∀ W, Calls Tryd.prog 44 #[.string s] W fun e w' => e = .returned (.tuple #[I5 c v, .bool b]) ∧ Below W.heap.size W w')
    (k2 : ∀ W, Calls Tryd.prog 45 #[.string s] W fun e w' => e = .returned (.tuple #[I5 c v, .bool b]) ∧ Below W.heap.size W w')
    (k3 : ∀ W, Tab W → Calls Tryd.prog 46 #[I5 g x] W fun e w' => e = .returned (.string p) ∧ Below W.heap.size W w')
    (k4 : ∀ W, Calls Tryd.prog 44 #[.string p] W fun e w' => e = .returned (.tuple #[.agg #[.bool false, .int .u64 0, .int .u64 0, .int .u64 0, .int .u64 0], .bool false]) ∧ Below W.heap.size W w')
    (k5 : ∀ W, Calls Tryd.prog 47 #[I5 g x] W fun e w' => e = .returned (.string p) ∧ Below W.heap.size W w')
    (k6 : ∀ W, Calls Tryd.prog 29 #[I5 g x] W fun e w' => e = .returned (.bool false) ∧ Below W.heap.size W w') :
    Calls Tryd.prog 6 #[I5 g x, .string s] w fun e w' => e = .returned (.bool true) ∧ Below w.heap.size w w' := by
  unfold I5 at *
  have HT := Lib.hid hT; have K1 := Lib.hid k1; have K2 := Lib.hid k2; have K3 := Lib.hid k3; have K4 := Lib.hid k4; have K5 := Lib.hid k5; have K6 := Lib.hid k6; have Q1 := Lib.hid q1; clear hT q1 k1 k2 k3 k4 k5 k6
  have hbb : (b == b) = true := beq_self_eq_true b
  go_enter Tryd.func6, Tryd.ntmps6
  go_wp2_with fail
  refine (K1.out _).mono ?_
  rintro e w1 ⟨rfl, hb⟩
  have BW1 : Below w.heap.size w w1 := btr (by repeat (first | (with_reducible exact Below.refl _ _) | (with_reducible refine bal ?_ _) | (with_reducible refine Below.drew ?_) | (with_reducible refine bdn ?_ _))) hb
  have X1 : Row5 w1 w.heap.size (.bool g) (.int .u64 (lb 0 x)) (.int .u64 (lb 1 x)) (.int .u64 (lb 2 x)) (.int .u64 (lb 3 x)) := Row5.keep hb (by repeat (first | (with_reducible exact Row5.new _ _ _ _ _ _) | ((with_reducible refine Row5.new' _ ?_ _ _ _ _ _); (simp; done)) | (with_reducible refine Row5.alloc ?_ _) | (with_reducible refine Row5.drew ?_)))
  clear hb
  go_wp2_with fail
  refine (K2.out _).mono ?_
  rintro e w2 ⟨rfl, hb⟩
  have BW2 : Below w.heap.size w w2 := btr (by repeat (first | (with_reducible exact BW1) | (with_reducible refine bal ?_ _) | (with_reducible refine Below.drew ?_) | (with_reducible refine bdn ?_ _))) hb
  have X2 : Row5 w2 w.heap.size (.bool g) (.int .u64 (lb 0 x)) (.int .u64 (lb 1 x)) (.int .u64 (lb 2 x)) (.int .u64 (lb 3 x)) := Row5.keep hb (by repeat (first | (with_reducible exact X1) | (with_reducible refine Row5.alloc ?_ _) | (with_reducible refine Row5.drew ?_)))
  have apP_X := X1.lt
  have apP_0 := (BW1).size
  have P2 : Row5 w2 w1.heap.size (.bool c) (.int .u64 (lb 0 v)) (.int .u64 (lb 1 v)) (.int .u64 (lb 2 v)) (.int .u64 (lb 3 v)) := Row5.keep hb (by repeat (first | (with_reducible exact Row5.new _ _ _ _ _ _) | ((with_reducible refine Row5.new' _ ?_ _ _ _ _ _); (simp; done)) | (with_reducible refine Row5.alloc ?_ _) | (with_reducible refine Row5.drew ?_)))
  clear X1
  clear BW1
  clear hb
  go_upto_region 5 with (fail)
  go_name_world w3 hw3
  have BW3 : Below w.heap.size w w3 := by rw [← hw3]; repeat (first | (with_reducible exact BW2) | (with_reducible refine bal ?_ _) | (with_reducible refine Below.drew ?_) | (with_reducible refine bdn ?_ _))
  have X3 : Row5 w3 w.heap.size (.bool g) (.int .u64 (lb 0 x)) (.int .u64 (lb 1 x)) (.int .u64 (lb 2 x)) (.int .u64 (lb 3 x)) := by rw [← hw3]; exact (by repeat (first | (with_reducible exact X2) | (with_reducible refine Row5.alloc ?_ _) | (with_reducible refine Row5.drew ?_)))
  have P3 : Row5 w3 w1.heap.size (.bool c) (.int .u64 (lb 0 v)) (.int .u64 (lb 1 v)) (.int .u64 (lb 2 v)) (.int .u64 (lb 3 v)) := by rw [← hw3]; exact (by repeat (first | (with_reducible exact P2) | (with_reducible refine Row5.alloc ?_ _) | (with_reducible refine Row5.drew ?_)))
  have apM_X := X2.lt
  have apM_P := P2.lt
  have apM_0 := (BW2).size
  have M3 : Row5 w3 w2.heap.size (.bool c) (.int .u64 (lb 0 v)) (.int .u64 (lb 1 v)) (.int .u64 (lb 2 v)) (.int .u64 (lb 3 v)) := by rw [← hw3]; exact (by repeat (first | (with_reducible exact Row5.new _ _ _ _ _ _) | ((with_reducible refine Row5.new' _ ?_ _ _ _ _ _); (simp; done)) | (with_reducible refine Row5.alloc ?_ _) | (with_reducible refine Row5.drew ?_)))
  clear X2 P2
  clear BW2
  clear hw3
  obtain ⟨Xc0, Xc1, Xc2, Xc3, Xc4⟩ := X3.parts
  obtain ⟨Xf0, Xf1, Xf2, Xf3, Xf4⟩ := X3.free
  go_wp2_with fail
  refine (K3.out _ (tab_on HT.out.1 (by repeat (first | (with_reducible exact BW3) | (with_reducible refine bal ?_ _) | (with_reducible refine Below.drew ?_) | (with_reducible refine bdn ?_ _))))).mono ?_
  rintro e w4 ⟨rfl, hb⟩
  have BW4 : Below w.heap.size w w4 := btr (by repeat (first | (with_reducible exact BW3) | (with_reducible refine bal ?_ _) | (with_reducible refine Below.drew ?_) | (with_reducible refine bdn ?_ _))) hb
  have X4 : Row5 w4 w.heap.size (.bool g) (.int .u64 (lb 0 x)) (.int .u64 (lb 1 x)) (.int .u64 (lb 2 x)) (.int .u64 (lb 3 x)) := Row5.keep hb (by repeat (first | (with_reducible exact X3) | (with_reducible refine Row5.alloc ?_ _) | (with_reducible refine Row5.drew ?_)))
  have P4 : Row5 w4 w1.heap.size (.bool c) (.int .u64 (lb 0 v)) (.int .u64 (lb 1 v)) (.int .u64 (lb 2 v)) (.int .u64 (lb 3 v)) := Row5.keep hb (by repeat (first | (with_reducible exact P3) | (with_reducible refine Row5.alloc ?_ _) | (with_reducible refine Row5.drew ?_)))
  have M4 : Row5 w4 w2.heap.size (.bool c) (.int .u64 (lb 0 v)) (.int .u64 (lb 1 v)) (.int .u64 (lb 2 v)) (.int .u64 (lb 3 v)) := Row5.keep hb (by repeat (first | (with_reducible exact M3) | (with_reducible refine Row5.alloc ?_ _) | (with_reducible refine Row5.drew ?_)))
  clear X3 P3 M3
  clear BW3
  clear hb
  go_wp2_with fail
  refine (K4.out _).mono ?_
  rintro e w5 ⟨rfl, hb⟩
  have BW5 : Below w.heap.size w w5 := btr (by repeat (first | (with_reducible exact BW4) | (with_reducible refine bal ?_ _) | (with_reducible refine Below.drew ?_) | (with_reducible refine bdn ?_ _))) hb
  have X5 : Row5 w5 w.heap.size (.bool g) (.int .u64 (lb 0 x)) (.int .u64 (lb 1 x)) (.int .u64 (lb 2 x)) (.int .u64 (lb 3 x)) := Row5.keep hb (by repeat (first | (with_reducible exact X4) | (with_reducible refine Row5.alloc ?_ _) | (with_reducible refine Row5.drew ?_)))
  have P5 : Row5 w5 w1.heap.size (.bool c) (.int .u64 (lb 0 v)) (.int .u64 (lb 1 v)) (.int .u64 (lb 2 v)) (.int .u64 (lb 3 v)) := Row5.keep hb (by repeat (first | (with_reducible exact P4) | (with_reducible refine Row5.alloc ?_ _) | (with_reducible refine Row5.drew ?_)))
  have M5 : Row5 w5 w2.heap.size (.bool c) (.int .u64 (lb 0 v)) (.int .u64 (lb 1 v)) (.int .u64 (lb 2 v)) (.int .u64 (lb 3 v)) := Row5.keep hb (by repeat (first | (with_reducible exact M4) | (with_reducible refine Row5.alloc ?_ _) | (with_reducible refine Row5.drew ?_)))
  clear X4 P4 M4
  clear BW4
  clear hb
  go_wp2_with fail
  refine (told2_true _ (tabs_on HT.out (by repeat (first | (with_reducible exact BW5) | (with_reducible refine bal ?_ _) | (with_reducible refine Below.drew ?_) | (with_reducible refine bdn ?_ _))))).mono ?_
  rintro e w6 ⟨rfl, hb⟩
  have BW6 : Below w.heap.size w w6 := btr (by repeat (first | (with_reducible exact BW5) | (with_reducible refine bal ?_ _) | (with_reducible refine Below.drew ?_) | (with_reducible refine bdn ?_ _))) hb
  have X6 : Row5 w6 w.heap.size (.bool g) (.int .u64 (lb 0 x)) (.int .u64 (lb 1 x)) (.int .u64 (lb 2 x)) (.int .u64 (lb 3 x)) := Row5.keep hb (by repeat (first | (with_reducible exact X5) | (with_reducible refine Row5.alloc ?_ _) | (with_reducible refine Row5.drew ?_)))
  have P6 : Row5 w6 w1.heap.size (.bool c) (.int .u64 (lb 0 v)) (.int .u64 (lb 1 v)) (.int .u64 (lb 2 v)) (.int .u64 (lb 3 v)) := Row5.keep hb (by repeat (first | (with_reducible exact P5) | (with_reducible refine Row5.alloc ?_ _) | (with_reducible refine Row5.drew ?_)))
  have M6 : Row5 w6 w2.heap.size (.bool c) (.int .u64 (lb 0 v)) (.int .u64 (lb 1 v)) (.int .u64 (lb 2 v)) (.int .u64 (lb 3 v)) := Row5.keep hb (by repeat (first | (with_reducible exact M5) | (with_reducible refine Row5.alloc ?_ _) | (with_reducible refine Row5.drew ?_)))
  have apB_X := X5.lt
  have apB_P := P5.lt
  have apB_M := M5.lt
  have apB_0 := (BW5).size
  have B6 : Row5 w6 w5.heap.size (.bool false) (.int .u64 0) (.int .u64 0) (.int .u64 0) (.int .u64 0) := Row5.keep hb (by repeat (first | (with_reducible exact Row5.new _ _ _ _ _ _) | ((with_reducible refine Row5.new' _ ?_ _ _ _ _ _); (simp; done)) | (with_reducible refine Row5.alloc ?_ _) | (with_reducible refine Row5.drew ?_)))
  clear X5 P5 M5
  clear BW5
  clear hb
  obtain ⟨Xc0, Xc1, Xc2, Xc3, Xc4⟩ := X6.parts
  obtain ⟨Xf0, Xf1, Xf2, Xf3, Xf4⟩ := X6.free
  obtain ⟨Pc0, Pc1, Pc2, Pc3, Pc4⟩ := P6.parts
  obtain ⟨Pf0, Pf1, Pf2, Pf3, Pf4⟩ := P6.free
  obtain ⟨Mc0, Mc1, Mc2, Mc3, Mc4⟩ := M6.parts
  obtain ⟨Mf0, Mf1, Mf2, Mf3, Mf4⟩ := M6.free
  have q1 := Q1.out
  go_wp2_with fail
  refine (K5.out _).mono ?_
  rintro e w7 ⟨rfl, hb⟩
  have BW7 : Below w.heap.size w w7 := btr (by repeat (first | (with_reducible exact BW6) | (with_reducible refine bal ?_ _) | (with_reducible refine Below.drew ?_) | (with_reducible refine bdn ?_ _))) hb
  have X7 : Row5 w7 w.heap.size (.bool g) (.int .u64 (lb 0 x)) (.int .u64 (lb 1 x)) (.int .u64 (lb 2 x)) (.int .u64 (lb 3 x)) := Row5.keep hb (by repeat (first | (with_reducible exact X6) | (with_reducible refine Row5.alloc ?_ _) | (with_reducible refine Row5.drew ?_)))
  have P7 : Row5 w7 w1.heap.size (.bool c) (.int .u64 (lb 0 v)) (.int .u64 (lb 1 v)) (.int .u64 (lb 2 v)) (.int .u64 (lb 3 v)) := Row5.keep hb (by repeat (first | (with_reducible exact P6) | (with_reducible refine Row5.alloc ?_ _) | (with_reducible refine Row5.drew ?_)))
  have M7 : Row5 w7 w2.heap.size (.bool c) (.int .u64 (lb 0 v)) (.int .u64 (lb 1 v)) (.int .u64 (lb 2 v)) (.int .u64 (lb 3 v)) := Row5.keep hb (by repeat (first | (with_reducible exact M6) | (with_reducible refine Row5.alloc ?_ _) | (with_reducible refine Row5.drew ?_)))
  have B7 : Row5 w7 w5.heap.size (.bool false) (.int .u64 0) (.int .u64 0) (.int .u64 0) (.int .u64 0) := Row5.keep hb (by repeat (first | (with_reducible exact B6) | (with_reducible refine Row5.alloc ?_ _) | (with_reducible refine Row5.drew ?_)))
  clear X6 P6 M6 B6
  clear BW6
  clear hb
  clear q1
  obtain ⟨Xc0, Xc1, Xc2, Xc3, Xc4⟩ := X7.parts
  obtain ⟨Xf0, Xf1, Xf2, Xf3, Xf4⟩ := X7.free
  go_wp2_with fail
  refine (K6.out _).mono ?_
  rintro e w8 ⟨rfl, hb⟩
  have BW8 : Below w.heap.size w w8 := btr (by repeat (first | (with_reducible exact BW7) | (with_reducible refine bal ?_ _) | (with_reducible refine Below.drew ?_) | (with_reducible refine bdn ?_ _))) hb
  have X8 : Row5 w8 w.heap.size (.bool g) (.int .u64 (lb 0 x)) (.int .u64 (lb 1 x)) (.int .u64 (lb 2 x)) (.int .u64 (lb 3 x)) := Row5.keep hb (by repeat (first | (with_reducible exact X7) | (with_reducible refine Row5.alloc ?_ _) | (with_reducible refine Row5.drew ?_)))
  have P8 : Row5 w8 w1.heap.size (.bool c) (.int .u64 (lb 0 v)) (.int .u64 (lb 1 v)) (.int .u64 (lb 2 v)) (.int .u64 (lb 3 v)) := Row5.keep hb (by repeat (first | (with_reducible exact P7) | (with_reducible refine Row5.alloc ?_ _) | (with_reducible refine Row5.drew ?_)))
  have M8 : Row5 w8 w2.heap.size (.bool c) (.int .u64 (lb 0 v)) (.int .u64 (lb 1 v)) (.int .u64 (lb 2 v)) (.int .u64 (lb 3 v)) := Row5.keep hb (by repeat (first | (with_reducible exact M7) | (with_reducible refine Row5.alloc ?_ _) | (with_reducible refine Row5.drew ?_)))
  have B8 : Row5 w8 w5.heap.size (.bool false) (.int .u64 0) (.int .u64 0) (.int .u64 0) (.int .u64 0) := Row5.keep hb (by repeat (first | (with_reducible exact B7) | (with_reducible refine Row5.alloc ?_ _) | (with_reducible refine Row5.drew ?_)))
  clear X7 P7 M7 B7
  clear BW7
  clear hb
  go_wp2
  go_ret
  exact ⟨rfl, BW8⟩
theorem parseZ_lt {s : ByteArray} {z : Int} (h : parseZ s = some z) : z.natAbs < 2 ^ 256 := by
  unfold parseZ at h
  cases hp : parseN ⟨(Lib.trimPrefix s.data.toList [45]).toArray⟩ with
  | none => rw [hp] at h; cases h
  | some v =>
    have hv := parseN_lt hp
    rw [hp] at h
    simp only at h
    split at h
    · split at h
      · cases h
      · have := Option.some.inj h; omega
    · have := Option.some.inj h; omega
theorem zend_form (s : ByteArray) : ∃ c v b, v < 2 ^ 256 ∧ ZEnd (parseZ s) = .tuple #[I5 c v, .bool b] := by
  cases h : parseZ s with
  | none => exact ⟨false, 0, false, by decide, by unfold I5; simp only [ZEnd, lb_zero]⟩
  | some z =>
    have hz := parseZ_lt h
    rcases sgn z with ⟨n, rfl⟩ | ⟨n, hn, rfl⟩
    · exact ⟨false, n, true, by omega, by simp only [ZEnd]; rw [Iz_nat]⟩
    · exact ⟨true, n, true, by omega, by simp only [ZEnd]; rw [Iz_neg hn]⟩
theorem eq5_self (c : Bool) (v : Nat) (h : v < 2 ^ 256) : eq5 c (lb 0 v) (lb 1 v) (lb 2 v) (lb 3 v) c (lb 0 v) (lb 1 v) (lb 2 v) (lb 3 v) = true := by
  rw [eq5_int c c v v h h]; exact decide_eq_true ⟨rfl, rfl⟩
theorem parseZ_str (z : Int) (hz : z.natAbs < 2 ^ 256) : parseZ (zstr z) = some z := by
  rcases sgn z with ⟨n, rfl⟩ | ⟨n, hn, rfl⟩
  · have e : zstr (n : Int) = dstr n := by unfold zstr; rw [if_neg (by omega), Int.natAbs_natCast]
    rw [e]
    have hpre : Lib.hasPrefix (dstr n).data.toList [45] = false := by
      rw [pre_dash, decide_eq_false_iff_not, dstr_list]
      intro h
      cases hl : Lib.decDigits n with
      | nil => rw [hl] at h; cases h
      | cons c l =>
        rw [hl] at h
        have hc := dec_isD (n + 1) n (by omega) c (by rw [hl]; exact List.mem_cons_self ..)
        rw [Option.some.inj h] at hc
        revert hc
        decide
    unfold parseZ
    have ht : Lib.trimPrefix (dstr n).data.toList [45] = (dstr n).data.toList := by unfold Lib.trimPrefix; rw [hpre]; rfl
    rw [ht, hpre, parseN_dec (s := ⟨(dstr n).data.toList.toArray⟩) (x := n) (dstr_list n) (by omega)]
    rfl
  · have e : zstr (-(n : Int)) = ⟨#[45]⟩ ++ dstr n := by unfold zstr; rw [if_pos (by omega), Int.natAbs_neg, Int.natAbs_natCast]
    rw [e]
    have hl : (⟨#[45]⟩ ++ dstr n : ByteArray).data.toList = 45 :: Lib.decDigits n := by rw [← dstr_list n]; simp
    have hpre : Lib.hasPrefix (45 :: Lib.decDigits n) [45] = true := by rw [pre_dash]; rfl
    unfold parseZ
    rw [hl]
    have ht : Lib.trimPrefix (45 :: Lib.decDigits n) [45] = Lib.decDigits n := by unfold Lib.trimPrefix; rw [hpre]; rfl
    rw [ht, hpre, parseN_dec (s := ⟨(Lib.decDigits n).toArray⟩) (x := n) rfl (by omega)]
    simp only [if_true]
    rw [if_neg hn]
theorem zstr_le {z : Int} (hz : z.natAbs < 2 ^ 256) : (zstr z).size ≤ 79 := by
  unfold zstr
  have := dstr_le hz
  split
  · rw [ByteArray.size_append]; have : (⟨#[45]⟩ : ByteArray).size = 1 := rfl; omega
  · omega
theorem parseZ_empty : parseZ ⟨#[]⟩ = none := by
  have h : parseN ⟨#[]⟩ = none := by unfold parseN; rw [if_pos (.inl rfl)]
  unfold parseZ
  have e : Lib.trimPrefix (⟨#[]⟩ : ByteArray).data.toList [45] = [] := rfl
  rw [e, h]
theorem wtexts_any (g : Bool) (x : Nat) (s : ByteArray) (hx : x < 2 ^ 256) (w : World) (hT : Tabs w) :
    Calls Tryd.prog 6 #[I5 g x, .string s] w fun e w' => e = .returned (.bool true) ∧ Below w.heap.size w w' := by
  by_cases hs : 120 < s.size
  · exact wtexts_long g _ _ _ _ s (by omega) w hT
  · obtain ⟨c, v, b, hv, hz⟩ := zend_form s
    have k1 : ∀ W, Calls Tryd.prog 44 #[.string s] W fun e w' => e = .returned (.tuple #[I5 c v, .bool b]) ∧ Below W.heap.size W w' := fun W => by
      have := wparse_z s (by omega) W
      rw [hz] at this
      exact this
    have k2 : ∀ W, Calls Tryd.prog 45 #[.string s] W fun e w' => e = .returned (.tuple #[I5 c v, .bool b]) ∧ Below W.heap.size W w' := fun W => by
      have := rparseint_z s (by omega) W
      rw [hz] at this
      exact this
    have hgood : ∀ z : Int, z.natAbs < 2 ^ 256 → Iz z = I5 g x → (∀ W, Calls Tryd.prog 29 #[I5 g x] W fun e w' => e = .returned (.bool true) ∧ Below W.heap.size W w') →
        Calls Tryd.prog 6 #[I5 g x, .string s] w fun e w' => e = .returned (.bool true) ∧ Below w.heap.size w w' := by
      intro z hz2 he k6
      have hsz := zstr_le hz2
      refine wtexts_good g x c v b s (zstr z) (by omega) w hT (eq5_self c v hv) (eq5_self g x hx) k1 k2 (fun W hW => ?_) (fun W => ?_) (fun W => ?_) k6
      · have := wprint_z z hz2 W hW
        rw [he] at this
        exact this
      · have := wparse_z (zstr z) (by omega) W
        rw [parseZ_str z hz2] at this
        simp only [ZEnd] at this
        rw [he] at this
        exact this
      · have := rprintint_z z hz2 W
        rw [he] at this
        exact this
    cases g with
    | false => exact hgood (x : Int) (by omega) (by rw [Iz_nat]) (fun W => rmay_pos _ _ _ _ W)
    | true =>
      by_cases h0 : x = 0
      · subst h0
        refine wtexts_bad true 0 c v b s ⟨#[]⟩ (by omega) w hT (eq5_self c v hv) k1 k2 (fun W _ => wprint_bad W) (fun W => ?_) (fun W => rprintint_bad W) (fun W => ?_)
        · have := wparse_z ⟨#[]⟩ (by decide) W
          rw [parseZ_empty] at this
          exact this
        · have hm := rmay_neg 0 0 0 0 W
          rw [show eq4 0 0 0 0 0 0 0 0 = true by decide] at hm
          unfold I5
          simp only [lb_zero]
          exact hm
      · refine hgood (-(x : Int)) (by omega) (by rw [Iz_neg h0]) (fun W => ?_)
        have hm := rmay_neg (lb 0 x) (lb 1 x) (lb 2 x) (lb 3 x) W
        rw [show eq4 (lb 0 x) (lb 1 x) (lb 2 x) (lb 3 x) 0 0 0 0 = false from (eq4_of x 0 hx (by decide)).trans (decide_eq_false h0)] at hm
        exact hm
end Go.Proofs.YtngmdncidieclaaDoor
end
