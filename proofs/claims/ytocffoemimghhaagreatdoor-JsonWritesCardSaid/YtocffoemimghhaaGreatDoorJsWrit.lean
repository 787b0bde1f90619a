/-
  entrepotref6.written: a value as JSON writes it, for every value that may be and is In JSON.
-/
import Derived.Test.YtocffoemimghhaaGreatDoorJsQuot
import Derived.Test.YtocffoemimghhaaGreatDoorJsListT
import Derived.Test.YtocffoemimghhaaGreatDoorRefTextZ
import Derived.Test.YtocffoemimghhaaGreatDoorGQ
import Derived.Test.YtocffoemimghhaaGreatDoorGR
namespace Go.Proofs.YtocffoemimghhaaGreatDoor
open Go.RowKit Go.Shelf
set_option linter.unusedVariables false

theorem jpcs_flat (f : Nat → List UInt8) (c : Nat) : ∀ (E : List (List UInt8)) (i : Nat), (∀ k, (f k).length ≤ c) → ((E.zipIdx i).map fun p => jpre f p.2 ++ p.1).flatten.length ≤ (E.map List.length).sum + (c + 1) * E.length := by
  intro E
  induction E with
  | nil => intro i _; simp
  | cons e E ih =>
    intro i hf
    rw [List.zipIdx_cons, List.map_cons, List.flatten_cons, List.length_append, List.map_cons, List.sum_cons, List.length_cons, List.length_append]
    have h1 := ih (i + 1) hf
    have h2 : (jpre f i).length ≤ c + 1 := by
      unfold jpre
      rw [List.length_append]
      have := hf i
      split <;> simp <;> omega
    rw [Nat.mul_add, Nat.mul_one]
    show (jpre f i).length + e.length + _ ≤ _
    omega
theorem jpcs_len2 {f : Nat → List UInt8} {c : Nat} (hf : ∀ k, (f k).length ≤ c) (E : List (List UInt8)) : (jpcs f E).flatten.length ≤ (E.map List.length).sum + (c + 1) * E.length := jpcs_flat f c E 0 hf
set_option maxRecDepth 100000 in
theorem sum_few {l : List VT} (h : ∀ t ∈ l, (jencT t).length + 4000 ≤ 8000 * t.nodes) : ((l.map jencT).map List.length).sum + 4000 * l.length ≤ 8000 * (l.map VT.nodes).sum := by
  induction l with
  | nil => simp
  | cons a l ih =>
    simp only [List.map_cons, List.sum_cons, List.length_cons]
    have h1 := h a (by simp)
    have h2 := ih (fun t ht => h t (by simp [ht]))
    omega
theorem jkey_len {keys : List ByteArray} (h : ∀ s ∈ keys, s.size ≤ 300) (k : Nat) : (jkey keys k).length ≤ 1803 := by
  unfold jkey
  rw [List.length_append, List.length_singleton]
  have h1 := jq_len (keys.getD k ⟨#[]⟩).data.toList
  have h2 : (keys.getD k ⟨#[]⟩).size ≤ 300 := by
    rw [List.getD_eq_getElem?_getD]
    cases hk : keys[k]? with
    | none => show (⟨#[]⟩ : ByteArray).size ≤ 300; decide
    | some s => exact h s (List.mem_of_getElem? hk)
  rw [bytes_len] at h1
  omega
set_option maxRecDepth 100000 in
/-- How long a value's text is at most. -/
theorem jenc_len : ∀ T : VT, T.Every TinyO → Gd T → hasT notJsonT T = false → (jencT T).length + 4000 ≤ 8000 * T.nodes := by
  intro T
  induction T using VT.ind with
  | h o kids ih =>
    intro hE hG hJ
    have hown := hG.2.own
    have hty : TinyO o := hE.own
    have hrest : restB o kids.length = true := by unfold ownB at hown; rw [Bool.and_eq_true] at hown; exact hown.2
    have hkind := own_kind hown
    have hnj := notjson_6 hJ
    have hx : o.x < 2 ^ 256 := hG.2.2.own
    have hk2 : ∀ t ∈ kids, (jencT t).length + 4000 ≤ 8000 * t.nodes := fun t ht => ih t ht (hE.mem ht) (hG.kid ht) ((hasT_false hJ).2 t ht)
    have hsum := sum_few hk2
    rw [jencT_mk, VT.nodes_mk]
    rcases hkind with hk | hk | hk | hk | hk | hk | hk | hk
    · rw [jO_1 hk]; simp only [List.length_cons, List.length_nil]; omega
    · rw [jO_2 hk]; split <;> simp only [List.length_cons, List.length_nil] <;> omega
    · rw [jO_3 hk]; have := jint_len o.g o.x hx; omega
    · rw [jO_4 hk]; have := ptx_len (hnj.2 hk); omega
    · have hs := hty.1
      have hq := jq_len o.text.data.toList
      rw [bytes_len] at hq
      rw [jO_5 hk]; omega
    · exact absurd hk hnj.1
    · rw [jO_7 hk]
      have h1 := jpcs_len2 (f := fun _ => []) (c := 0) (fun k => by simp) (kids.map jencT)
      simp only [List.length_append, List.length_singleton, List.length_map] at h1 ⊢
      omega
    · rw [jO_8 hk]
      have h1 := jpcs_len2 (f := jkey o.keys) (c := 1803) (fun k => jkey_len hty.2.2 k) (kids.map jencT)
      simp only [List.length_append, List.length_singleton, List.length_map] at h1 ⊢
      omega
theorem flat_take7 (E : List (List UInt8)) (k : Nat) : (E.take k).flatten.length ≤ E.flatten.length := by
  rw [flat_rest E k, List.length_append]
  omega
theorem zstr_jint (g : Bool) (x : Nat) (h : ¬ (g = true ∧ x = 0)) : zstr (if g then -(x : Int) else (x : Int)) = str (jint g x) := by
  unfold jint zstr
  cases g with
  | false =>
    simp only [Bool.false_eq_true, if_false]
    rw [if_neg (by omega), Int.natAbs_natCast]
    rfl
  | true =>
    simp only [if_true]
    have hx : x ≠ 0 := fun e => h ⟨rfl, e⟩
    rw [if_pos (by omega), Int.natAbs_neg, Int.natAbs_natCast, ← str_app]
    rfl
theorem Iz_jint (g : Bool) (x : Nat) (h : ¬ (g = true ∧ x = 0)) : Iz (if g then -(x : Int) else (x : Int)) = .agg #[.bool g, .int .u64 (lb 0 x), .int .u64 (lb 1 x), .int .u64 (lb 2 x), .int .u64 (lb 3 x)] := by
  cases g with
  | false =>
    simp only [Bool.false_eq_true, if_false]
    rw [Iz_nat]
  | true =>
    simp only [if_true]
    have hx : x ≠ 0 := fun e => h ⟨rfl, e⟩
    rw [Iz_neg hx]
section
variable (g : Bool) (x0 x1 x2 x3 : Int) (la : Option Addr) (n lc : Nat) (ka : Option Addr) (m kc : Nat) (w : World)
set_option maxRecDepth 100000 in
theorem rwr_null (bi : Int) (s : ByteArray) : Calls Tryz.prog 19 #[V10 1 g x0 x1 x2 x3 bi s la n lc ka m kc] w fun e w' => e = .returned (.string (str [110, 117, 108, 108])) ∧ Below w.heap.size w w' := by
  have e : (⟨#[110, 117, 108, 108]⟩ : ByteArray) = str [110, 117, 108, 108] := rfl
  rw [← e]
  go_enter Tryz.func19, Tryz.ntmps19
  go_wp2
  go_ret
  exact ⟨rfl, bal (Below.refl _ _) _⟩
set_option maxRecDepth 100000 in
theorem rwr_no (s : ByteArray) : Calls Tryz.prog 19 #[V10 2 g x0 x1 x2 x3 0 s la n lc ka m kc] w fun e w' => e = .returned (.string (str [102, 97, 108, 115, 101])) ∧ Below w.heap.size w w' := by
  have e : (⟨#[102, 97, 108, 115, 101]⟩ : ByteArray) = str [102, 97, 108, 115, 101] := rfl
  rw [← e]
  go_enter Tryz.func19, Tryz.ntmps19
  go_wp2
  go_ret
  exact ⟨rfl, bal (Below.refl _ _) _⟩
set_option maxRecDepth 100000 in
theorem rwr_yes (s : ByteArray) : Calls Tryz.prog 19 #[V10 2 g x0 x1 x2 x3 1 s la n lc ka m kc] w fun e w' => e = .returned (.string (str [116, 114, 117, 101])) ∧ Below w.heap.size w w' := by
  have e : (⟨#[116, 114, 117, 101]⟩ : ByteArray) = str [116, 114, 117, 101] := rfl
  rw [← e]
  go_enter Tryz.func19, Tryz.ntmps19
  go_wp2
  go_ret
  exact ⟨rfl, bal (Below.refl _ _) _⟩
set_option maxRecDepth 100000 in
theorem rwr_int (S : ByteArray) (bi : Int) (s : ByteArray) (kw : ∀ W, Calls Tryz.prog 38 #[.agg #[.bool g, .int .u64 x0, .int .u64 x1, .int .u64 x2, .int .u64 x3]] W fun e w' => e = .returned (.string S) ∧ Below W.heap.size W w') : Calls Tryz.prog 19 #[V10 3 g x0 x1 x2 x3 bi s la n lc ka m kc] w fun e w' => e = .returned (.string S) ∧ Below w.heap.size w w' := by
  have KW := Lib.hid kw
  clear kw
  go_enter Tryz.func19, Tryz.ntmps19
  go_wp2_with fail
  ((with_reducible refine (KW.out _).mono ?_); rintro e w1 ⟨rfl, hb⟩)
  go_wp2
  go_ret
  exact ⟨rfl, btr (bal (Below.refl _ _) _) hb⟩
set_option maxRecDepth 100000 in
theorem rwr_float (S : ByteArray) (bi : Int) (s : ByteArray) (q : Bool) (kw : ∀ W, Calls Tryz.prog 39 #[.int .u64 bi] W fun e w' => e = .returned (.tuple #[.string S, .bool q]) ∧ Below W.heap.size W w') : Calls Tryz.prog 19 #[V10 4 g x0 x1 x2 x3 bi s la n lc ka m kc] w fun e w' => e = .returned (.string S) ∧ Below w.heap.size w w' := by
  have KW := Lib.hid kw
  clear kw
  go_enter Tryz.func19, Tryz.ntmps19
  go_wp2_with fail
  ((with_reducible refine (KW.out _).mono ?_); rintro e w1 ⟨rfl, hb⟩)
  go_wp2
  go_ret
  exact ⟨rfl, btr (bal (Below.refl _ _) _) hb⟩
set_option maxRecDepth 100000 in
theorem rwr_text (S : ByteArray) (bi : Int) (s : ByteArray) (kw : ∀ W, Calls Tryz.prog 40 #[.string s] W fun e w' => e = .returned (.string S) ∧ Below W.heap.size W w') : Calls Tryz.prog 19 #[V10 5 g x0 x1 x2 x3 bi s la n lc ka m kc] w fun e w' => e = .returned (.string S) ∧ Below w.heap.size w w' := by
  have KW := Lib.hid kw
  clear kw
  go_enter Tryz.func19, Tryz.ntmps19
  go_wp2_with fail
  ((with_reducible refine (KW.out _).mono ?_); rintro e w1 ⟨rfl, hb⟩)
  go_wp2
  go_ret
  exact ⟨rfl, btr (bal (Below.refl _ _) _) hb⟩
end
set_option maxRecDepth 100000 in
set_option maxHeartbeats 8000000 in
theorem rwr_arr (g : Bool) (x0 x1 x2 x3 bi : Int) (s : ByteArray) (la : Option Addr) (lc : Nat) (ka : Option Addr) (m kc : Nat) (kids : List VT) (bb off : Nat) (w : World) (hK : Kids w la kids bb off) (hn : kids.length ≤ 1000)
    (hlen : (jpcs (fun _ => []) (kids.map jencT)).flatten.length ≤ 4000000) (hel : ∀ t ∈ kids, (jencT t).length ≤ 4000000)
    (ih : ∀ t ∈ kids, ∀ W, t.In W → Calls Tryz.prog 19 #[t.val] W fun e w' => e = .returned (.string (str (jencT t))) ∧ Below W.heap.size W w') :
    Calls Tryz.prog 19 #[V10 7 g x0 x1 x2 x3 bi s la kids.length lc ka m kc] w fun e w' => e = .returned (.string (str ([91] ++ (jpcs (fun _ => []) (kids.map jencT)).flatten ++ [93]))) ∧ Below w.heap.size w w' := by
  have HK := Lib.hid hK; have IH := Lib.hid ih; have HKL := Lib.hid hel
  obtain ⟨n, hnn⟩ : ∃ n, kids.length = n := ⟨_, rfl⟩
  have HNN := Lib.hid hnn
  rw [hnn] at hn ⊢
  obtain ⟨E, hE⟩ : ∃ E, jpcs (fun _ => []) (kids.map jencT) = E := ⟨_, rfl⟩
  have HE : Hid (∀ (k : Nat) (t : VT), kids[k]? = some t → E[k]? = some (jpre (fun _ => []) k ++ jencT t)) := fun k t ht => by rw [← hE]; exact jpcs_at (by rw [List.getElem?_map, ht]; rfl)
  have HEL : Hid (E.length = n) := by show _ = _; rw [← hE, jpcs_len, List.length_map]; exact hnn
  rw [hE] at hlen ⊢
  have HL := Lib.hid (fun k => Nat.le_trans (flat_take7 E k) hlen)
  have R0 := Lib.hid (Row10.new w (.int .i64 7) (.bool g) (.int .u64 x0) (.int .u64 x1) (.int .u64 x2) (.int .u64 x3) (.int .u64 bi) (.string s) (.slice la n lc) (.slice ka m kc))
  have B0 := Lib.hid (bal (Below.refl w.heap.size w) (.cells #[.int .i64 7, .bool g, .int .u64 x0, .int .u64 x1, .int .u64 x2, .int .u64 x3, .int .u64 bi, .string s, .slice la n lc, .slice ka m kc] 30))
  have hz44 : ((⟨#[44]⟩ : ByteArray).size : Int) ≤ 8388608 := by decide
  have hz58 : ((⟨#[58]⟩ : ByteArray).size : Int) ≤ 8388608 := by decide
  have hzc : ((⟨#[93]⟩ : ByteArray).size : Int) ≤ 8388608 := by decide
  clear hK ih hlen hel hnn hE
  go_enter Tryz.func19, Tryz.ntmps19
  go_wp2
  go_loopw [5, 6] (fun sv iv wr => ∃ (k : Nat) (S : ByteArray), k ≤ n ∧ iv = .int .i64 k ∧ sv = .string S ∧ (S.size : Int) ≤ 8388608 ∧ Hid (S.size ≤ 4000001) ∧ Hid (S = str ([91] ++ (E.take k).flatten)) ∧ Hid (Below w.heap.size w wr) ∧ Hid (Row10 wr w.heap.size (.int .i64 7) (.bool g) (.int .u64 x0) (.int .u64 x1) (.int .u64 x2) (.int .u64 x3) (.int .u64 bi) (.string s) (.slice la n lc) (.slice ka m kc))) (fun _ iv _ => n - (intOf iv).toNat)
  case atStart =>
    refine ⟨0, ⟨#[91]⟩, Nat.zero_le _, rfl, rfl, by decide, Lib.hid (by decide), ?_, B0, R0⟩
    show (⟨#[91]⟩ : ByteArray) = _
    rw [List.take_zero]
    rfl
  case round =>
    obtain ⟨k, S, hk, rfl, rfl, hS8, HS4, HS, BW, HR⟩ := hrel
    rename World => wr
    obtain ⟨p0, p1, p2, p3, p4, p5, p6, p7, p8, p9⟩ := HR.out.parts
    by_cases hlt : k < n
    · obtain ⟨t, ht, hm⟩ := kid_at (kids := kids) (k := k) (by rw [HNN.out]; exact hlt)
      have hr := (HK.out.cells k t ht).keep BW.out
      obtain rfl : la = some ⟨bb, off, none⟩ := HK.out.la (by rw [HNN.out]; omega)
      have hti := (HK.out.ins k t ht).keep BW.out
      have HEk := Lib.hid (HE.out k t ht)
      have KT := fun W (hW : Below wr.heap.size wr W) => IH.out t hm W (hti.keep hW)
      obtain ⟨Et, hEt⟩ : ∃ Et, jencT t = Et := ⟨_, rfl⟩
      have hle : Et.length ≤ 4000000 := by rw [← hEt]; exact HKL.out t hm
      rw [hEt] at KT HEk
      obtain ⟨U, hU⟩ : ∃ U, str Et = U := ⟨_, rfl⟩
      have HU := Lib.hid hU
      have hU8 : (U.size : Int) ≤ 8388608 := by rw [← hU, str_size]; omega
      rw [hU] at KT
      have hSn : (str ([91] ++ (E.take (k + 1)).flatten)).size ≤ 4000001 := by
        rw [str_size, List.length_append]
        have := HL.out (k + 1)
        simp only [List.length_singleton]
        omega
      obtain ⟨o2, l2⟩ := t
      obtain ⟨kd2, g2, x2', b2, s2, la2, lc2, ka2, kc2, ks2⟩ := o2
      obtain ⟨c0, c1, c2, c3, c4, c5, c6, c7, c8, c9⟩ := hr.ten
      simp only [VT.val, VT.cells, VT.o_mk, VT.kids_mk] at KT
      have KT' := Lib.hid KT
      clear hr hti ht hm KT hEt hU
      have hlt2 : (k : Int) < (n : Int) := by omega
      have HSF := Lib.hid hSn
      clear hSn
      by_cases h0 : k = 0
      · have hk0 : ¬ 0 < (k : Int) := by omega
        have HFIN : Hid (S ++ U = str ([91] ++ (E.take (k + 1)).flatten)) := by
          show _ = _
          rw [HS.out, ← HU.out]
          simp only [str_app]
          rw [flat_next HEk.out]
          unfold jpre
          rw [if_pos (by omega)]
          simp
        have HZ9 : Hid ((S ++ U).size ≤ 4000001) := Lib.hid (by rw [HFIN.out]; exact HSF.out)
        have hz9 : ((S ++ U).size : Int) ≤ 8388608 := by have := HZ9.out; omega
        have HK0 := Lib.hid h0
        clear h0
        go_wp2_with (first | (go_at_call 19; ((with_reducible refine (KT'.out _ (Below.refl _ _)).mono ?_); rintro e w3 ⟨rfl, hb3⟩; have HB3 := Lib.hid hb3; clear hb3)))
        go_roundw
        case rel => exact ⟨k + 1, S ++ U, by omega, by go_num, rfl, hz9, HZ9, HFIN, Lib.hid (btr BW.out HB3.out), Lib.hid (Row10.keep HB3.out HR.out)⟩
        case measure => simp [intOf]; omega
      · have hk0 : 0 < (k : Int) := by omega
        obtain ⟨S1, hS1⟩ : ∃ S1, S ++ ⟨#[44]⟩ = S1 := ⟨_, rfl⟩
        have hz1 : (S1.size : Int) ≤ 8388608 := by rw [← hS1, ByteArray.size_append]; have : (⟨#[44]⟩ : ByteArray).size = 1 := rfl; have h4 := HS4.out; omega
        have HFIN : Hid (S1 ++ U = str ([91] ++ (E.take (k + 1)).flatten)) := by
          show _ = _
          rw [← hS1, HS.out, ← HU.out, show (⟨#[44]⟩ : ByteArray) = str [44] from rfl]
          simp only [str_app]
          rw [flat_next HEk.out]
          unfold jpre
          rw [if_neg (by omega)]
          simp
        have HZ9 : Hid ((S1 ++ U).size ≤ 4000001) := Lib.hid (by rw [HFIN.out]; exact HSF.out)
        have hz9 : ((S1 ++ U).size : Int) ≤ 8388608 := by have := HZ9.out; omega
        have HK0 := Lib.hid h0
        clear h0
        go_wp2_with (first | (go_at_call 19; ((with_reducible refine (KT'.out _ (Below.refl _ _)).mono ?_); rintro e w3 ⟨rfl, hb3⟩; have HB3 := Lib.hid hb3; clear hb3)))
        go_roundw
        case rel => exact ⟨k + 1, S1 ++ U, by omega, by go_num, rfl, hz9, HZ9, HFIN, Lib.hid (btr BW.out HB3.out), Lib.hid (Row10.keep HB3.out HR.out)⟩
        case measure => simp [intOf]; omega
    · have hge : ¬ (k : Int) < (n : Int) := by omega
      have HFIN : Hid (S ++ ⟨#[93]⟩ = str (91 :: (E.flatten ++ [93]))) := by
        show _ = _
        rw [HS.out, List.take_of_length_le (by rw [HEL.out]; omega), show (⟨#[93]⟩ : ByteArray) = str [93] from rfl, str_app]
        rfl
      go_wp2
      go_ret
      exact ⟨by rw [← HFIN.out]; rfl, BW.out⟩
set_option maxRecDepth 100000 in
set_option maxHeartbeats 8000000 in
theorem rwr_map (g : Bool) (x0 x1 x2 x3 bi : Int) (s : ByteArray) (la : Option Addr) (lc : Nat) (ka : Option Addr) (kc : Nat) (keys : List ByteArray) (kb koff : Nat) (kids : List VT) (bb off : Nat) (w : World) (hK : Kids w la kids bb off) (hn : kids.length ≤ 1000) (hKK : KeysL w ka keys kb koff) (hkz : ∀ s ∈ keys, s.size ≤ 300) (hkl : keys.length = kids.length)
    (hlen : (jpcs (jkey keys) (kids.map jencT)).flatten.length ≤ 4000000) (hel : ∀ t ∈ kids, (jencT t).length ≤ 4000000)
    (ih : ∀ t ∈ kids, ∀ W, t.In W → Calls Tryz.prog 19 #[t.val] W fun e w' => e = .returned (.string (str (jencT t))) ∧ Below W.heap.size W w') :
    Calls Tryz.prog 19 #[V10 8 g x0 x1 x2 x3 bi s la kids.length lc ka keys.length kc] w fun e w' => e = .returned (.string (str ([123] ++ (jpcs (jkey keys) (kids.map jencT)).flatten ++ [125]))) ∧ Below w.heap.size w w' := by
  have HK := Lib.hid hK; have IH := Lib.hid ih; have HKL := Lib.hid hel
  have HKK := Lib.hid hKK; have HKZ := Lib.hid hkz
  obtain ⟨n, hnn⟩ : ∃ n, kids.length = n := ⟨_, rfl⟩
  have HNN := Lib.hid hnn
  rw [hnn] at hkl
  have HKN := Lib.hid hkl
  rw [hkl]
  rw [hnn] at hn ⊢
  obtain ⟨E, hE⟩ : ∃ E, jpcs (jkey keys) (kids.map jencT) = E := ⟨_, rfl⟩
  have HE : Hid (∀ (k : Nat) (t : VT), kids[k]? = some t → E[k]? = some (jpre (jkey keys) k ++ jencT t)) := fun k t ht => by rw [← hE]; exact jpcs_at (by rw [List.getElem?_map, ht]; rfl)
  have HEL : Hid (E.length = n) := by show _ = _; rw [← hE, jpcs_len, List.length_map]; exact hnn
  rw [hE] at hlen ⊢
  have HL := Lib.hid (fun k => Nat.le_trans (flat_take7 E k) hlen)
  have R0 := Lib.hid (Row10.new w (.int .i64 8) (.bool g) (.int .u64 x0) (.int .u64 x1) (.int .u64 x2) (.int .u64 x3) (.int .u64 bi) (.string s) (.slice la n lc) (.slice ka n kc))
  have B0 := Lib.hid (bal (Below.refl w.heap.size w) (.cells #[.int .i64 8, .bool g, .int .u64 x0, .int .u64 x1, .int .u64 x2, .int .u64 x3, .int .u64 bi, .string s, .slice la n lc, .slice ka n kc] 30))
  have hz44 : ((⟨#[44]⟩ : ByteArray).size : Int) ≤ 8388608 := by decide
  have hz58 : ((⟨#[58]⟩ : ByteArray).size : Int) ≤ 8388608 := by decide
  have hzc : ((⟨#[125]⟩ : ByteArray).size : Int) ≤ 8388608 := by decide
  clear hK ih hlen hel hnn hE hKK hkz hkl
  go_enter Tryz.func19, Tryz.ntmps19
  go_wp2
  go_loopw [5, 6] (fun sv iv wr => ∃ (k : Nat) (S : ByteArray), k ≤ n ∧ iv = .int .i64 k ∧ sv = .string S ∧ (S.size : Int) ≤ 8388608 ∧ Hid (S.size ≤ 4000001) ∧ Hid (S = str ([123] ++ (E.take k).flatten)) ∧ Hid (Below w.heap.size w wr) ∧ Hid (Row10 wr w.heap.size (.int .i64 8) (.bool g) (.int .u64 x0) (.int .u64 x1) (.int .u64 x2) (.int .u64 x3) (.int .u64 bi) (.string s) (.slice la n lc) (.slice ka n kc))) (fun _ iv _ => n - (intOf iv).toNat)
  case atStart =>
    refine ⟨0, ⟨#[123]⟩, Nat.zero_le _, rfl, rfl, by decide, Lib.hid (by decide), ?_, B0, R0⟩
    show (⟨#[123]⟩ : ByteArray) = _
    rw [List.take_zero]
    rfl
  case round =>
    obtain ⟨k, S, hk, rfl, rfl, hS8, HS4, HS, BW, HR⟩ := hrel
    rename World => wr
    obtain ⟨p0, p1, p2, p3, p4, p5, p6, p7, p8, p9⟩ := HR.out.parts
    by_cases hlt : k < n
    · obtain ⟨t, ht, hm⟩ := kid_at (kids := kids) (k := k) (by rw [HNN.out]; exact hlt)
      have hr := (HK.out.cells k t ht).keep BW.out
      obtain rfl : la = some ⟨bb, off, none⟩ := HK.out.la (by rw [HNN.out]; omega)
      have hti := (HK.out.ins k t ht).keep BW.out
      have HEk := Lib.hid (HE.out k t ht)
      have KT := fun W (hW : Below wr.heap.size wr W) => IH.out t hm W (hti.keep hW)
      obtain ⟨Et, hEt⟩ : ∃ Et, jencT t = Et := ⟨_, rfl⟩
      have hle : Et.length ≤ 4000000 := by rw [← hEt]; exact HKL.out t hm
      rw [hEt] at KT HEk
      obtain ⟨U, hU⟩ : ∃ U, str Et = U := ⟨_, rfl⟩
      have HU := Lib.hid hU
      have hU8 : (U.size : Int) ≤ 8388608 := by rw [← hU, str_size]; omega
      rw [hU] at KT
      have hSn : (str ([123] ++ (E.take (k + 1)).flatten)).size ≤ 4000001 := by
        rw [str_size, List.length_append]
        have := HL.out (k + 1)
        simp only [List.length_singleton]
        omega
      obtain ⟨key, hkey, hmk⟩ := key_at (keys := keys) (k := k) (by rw [HKN.out]; exact hlt)
      obtain rfl : ka = some ⟨kb, koff, none⟩ := HKK.out.ka (by rw [HKN.out]; omega)
      have hkc := cell_keep BW.out (HKK.out.cells k key hkey)
      have hkz := HKZ.out key hmk
      have KQ := Lib.hid (fun W => rquoted key (by omega) W)
      have hJK : jkey keys k = jq key.data.toList ++ [58] := by unfold jkey; rw [List.getD_eq_getElem?_getD, hkey]; rfl
      obtain ⟨Y, hY⟩ : ∃ Y, str (jq key.data.toList) = Y := ⟨_, rfl⟩
      have hY9 : (Y.size : Int) ≤ 100000 := by rw [← hY, str_size]; have := jq_len key.data.toList; rw [bytes_len] at this; omega
      have hY8 : (Y.size : Int) ≤ 8388608 := by rw [← hY, str_size]; have := jq_len key.data.toList; rw [bytes_len] at this; omega
      have HY := Lib.hid hY
      have HJK := Lib.hid hJK
      rw [hY] at KQ
      clear hY hJK hkey hmk
      obtain ⟨o2, l2⟩ := t
      obtain ⟨kd2, g2, x2', b2, s2, la2, lc2, ka2, kc2, ks2⟩ := o2
      obtain ⟨c0, c1, c2, c3, c4, c5, c6, c7, c8, c9⟩ := hr.ten
      simp only [VT.val, VT.cells, VT.o_mk, VT.kids_mk] at KT
      have KT' := Lib.hid KT
      clear hr hti ht hm KT hEt hU
      have hlt2 : (k : Int) < (n : Int) := by omega
      have HSF := Lib.hid hSn
      clear hSn
      by_cases h0 : k = 0
      · have hk0 : ¬ 0 < (k : Int) := by omega
        obtain ⟨S2, hS2⟩ : ∃ S2, S ++ Y = S2 := ⟨_, rfl⟩
        have hz2 : (S2.size : Int) ≤ 8388608 := by rw [← hS2, ByteArray.size_append]; have h4 := HS4.out; omega
        obtain ⟨S3, hS3⟩ : ∃ S3, S2 ++ ⟨#[58]⟩ = S3 := ⟨_, rfl⟩
        have hz3 : (S3.size : Int) ≤ 8388608 := by rw [← hS3, ByteArray.size_append]; have h4 := HS4.out; have : (⟨#[58]⟩ : ByteArray).size = 1 := rfl; have h2 := congrArg ByteArray.size hS2; rw [ByteArray.size_append] at h2; omega
        have HFIN : Hid (S3 ++ U = str ([123] ++ (E.take (k + 1)).flatten)) := by
          show _ = _
          rw [← hS3, ← hS2, HS.out, ← HU.out, ← HY.out, show (⟨#[58]⟩ : ByteArray) = str [58] from rfl]
          simp only [str_app]
          rw [flat_next HEk.out]
          unfold jpre
          rw [if_pos (by omega), HJK.out]
          simp
        have HZ9 : Hid ((S3 ++ U).size ≤ 4000001) := Lib.hid (by rw [HFIN.out]; exact HSF.out)
        have hz9 : ((S3 ++ U).size : Int) ≤ 8388608 := by have := HZ9.out; omega
        have HK0 := Lib.hid h0
        clear h0
        go_wp2_with (first | (go_at_call 40; ((with_reducible refine (KQ.out _).mono ?_); rintro e w2 ⟨rfl, hb2⟩; have HB2 := Lib.hid hb2; have R2 := Row10.keep hb2 HR.out; obtain ⟨p0, p1, p2, p3, p4, p5, p6, p7, p8, p9⟩ := R2.parts; have d0 := cell_keep hb2 c0; have d1 := cell_keep hb2 c1; have d2 := cell_keep hb2 c2; have d3 := cell_keep hb2 c3; have d4 := cell_keep hb2 c4; have d5 := cell_keep hb2 c5; have d6 := cell_keep hb2 c6; have d7 := cell_keep hb2 c7; have d8 := cell_keep hb2 c8; have d9 := cell_keep hb2 c9; clear hb2)) | (go_at_call 19; ((with_reducible refine (KT'.out _ HB2.out).mono ?_); rintro e w3 ⟨rfl, hb3⟩; have HB3 := Lib.hid hb3; clear hb3)))
        go_roundw
        case rel => exact ⟨k + 1, S3 ++ U, by omega, by go_num, rfl, hz9, HZ9, HFIN, Lib.hid (btr BW.out (btr HB2.out HB3.out)), Lib.hid (Row10.keep (btr HB2.out HB3.out) HR.out)⟩
        case measure => simp [intOf]; omega
      · have hk0 : 0 < (k : Int) := by omega
        obtain ⟨S1, hS1⟩ : ∃ S1, S ++ ⟨#[44]⟩ = S1 := ⟨_, rfl⟩
        have hz1 : (S1.size : Int) ≤ 8388608 := by rw [← hS1, ByteArray.size_append]; have : (⟨#[44]⟩ : ByteArray).size = 1 := rfl; have h4 := HS4.out; omega
        obtain ⟨S2, hS2⟩ : ∃ S2, S1 ++ Y = S2 := ⟨_, rfl⟩
        have hz2 : (S2.size : Int) ≤ 8388608 := by rw [← hS2, ByteArray.size_append]; have h4 := HS4.out; have h1 := congrArg ByteArray.size hS1; rw [ByteArray.size_append] at h1; have : (⟨#[44]⟩ : ByteArray).size = 1 := rfl; omega
        obtain ⟨S3, hS3⟩ : ∃ S3, S2 ++ ⟨#[58]⟩ = S3 := ⟨_, rfl⟩
        have hz3 : (S3.size : Int) ≤ 8388608 := by rw [← hS3, ByteArray.size_append]; have h4 := HS4.out; have : (⟨#[58]⟩ : ByteArray).size = 1 := rfl; have h2 := congrArg ByteArray.size hS2; rw [ByteArray.size_append] at h2; have h1 := congrArg ByteArray.size hS1; rw [ByteArray.size_append] at h1; have h44 : (⟨#[44]⟩ : ByteArray).size = 1 := rfl; omega
        have HFIN : Hid (S3 ++ U = str ([123] ++ (E.take (k + 1)).flatten)) := by
          show _ = _
          rw [← hS3, ← hS2, ← hS1, HS.out, ← HU.out, ← HY.out, show (⟨#[58]⟩ : ByteArray) = str [58] from rfl, show (⟨#[44]⟩ : ByteArray) = str [44] from rfl]
          simp only [str_app]
          rw [flat_next HEk.out]
          unfold jpre
          rw [if_neg (by omega), HJK.out]
          simp
        have HZ9 : Hid ((S3 ++ U).size ≤ 4000001) := Lib.hid (by rw [HFIN.out]; exact HSF.out)
        have hz9 : ((S3 ++ U).size : Int) ≤ 8388608 := by have := HZ9.out; omega
        have HK0 := Lib.hid h0
        clear h0
        go_wp2_with (first | (go_at_call 40; ((with_reducible refine (KQ.out _).mono ?_); rintro e w2 ⟨rfl, hb2⟩; have HB2 := Lib.hid hb2; have R2 := Row10.keep hb2 HR.out; obtain ⟨p0, p1, p2, p3, p4, p5, p6, p7, p8, p9⟩ := R2.parts; have d0 := cell_keep hb2 c0; have d1 := cell_keep hb2 c1; have d2 := cell_keep hb2 c2; have d3 := cell_keep hb2 c3; have d4 := cell_keep hb2 c4; have d5 := cell_keep hb2 c5; have d6 := cell_keep hb2 c6; have d7 := cell_keep hb2 c7; have d8 := cell_keep hb2 c8; have d9 := cell_keep hb2 c9; clear hb2)) | (go_at_call 19; ((with_reducible refine (KT'.out _ HB2.out).mono ?_); rintro e w3 ⟨rfl, hb3⟩; have HB3 := Lib.hid hb3; clear hb3)))
        go_roundw
        case rel => exact ⟨k + 1, S3 ++ U, by omega, by go_num, rfl, hz9, HZ9, HFIN, Lib.hid (btr BW.out (btr HB2.out HB3.out)), Lib.hid (Row10.keep (btr HB2.out HB3.out) HR.out)⟩
        case measure => simp [intOf]; omega
    · have hge : ¬ (k : Int) < (n : Int) := by omega
      have HFIN : Hid (S ++ ⟨#[125]⟩ = str (123 :: (E.flatten ++ [125]))) := by
        show _ = _
        rw [HS.out, List.take_of_length_le (by rw [HEL.out]; omega), show (⟨#[125]⟩ : ByteArray) = str [125] from rfl, str_app]
        rfl
      go_wp2
      go_ret
      exact ⟨by rw [← HFIN.out]; rfl, BW.out⟩
theorem rwritten : ∀ T : VT, T.Every TinyO → Gd T → hasT notJsonT T = false → T.nodes ≤ 400 → ∀ W, T.In W → Calls Tryz.prog 19 #[T.val] W fun e w' => e = .returned (.string (str (jencT T))) ∧ Below W.heap.size W w' := by
  intro T
  induction T using VT.ind with
  | h o kids ih =>
    intro hE hG hJ hn W hI
    have hlen := jenc_len _ hE hG hJ
    have hty : TinyO o := hE.own
    have hown := hG.2.own
    have hover := hG.over
    have hwf : o.WF kids.length := hI.wf
    obtain ⟨kb, koff, hKK⟩ := hI.keys'
    have hins : ∀ (i : Nat) (t : VT), kids[i]? = some t → t.In W := fun i t h => hI.kid h
    have hKA := hI.hl
    have hkn : ∀ t ∈ kids, t.nodes ≤ 400 := fun t ht => by have := VT.nodes_kid (o := o) ht; omega
    have hkj : ∀ t ∈ kids, hasT notJsonT t = false := fun t ht => (hasT_false hJ).2 t ht
    have ih2 : ∀ t ∈ kids, ∀ W, t.In W → Calls Tryz.prog 19 #[t.val] W fun e w' => e = .returned (.string (str (jencT t))) ∧ Below W.heap.size W w' := fun t ht W hW => ih t ht (hE.mem ht) (hG.kid ht) (hkj t ht) (hkn t ht) W hW
    have hel : ∀ t ∈ kids, (jencT t).length ≤ 4000000 := fun t ht => by have := jenc_len t (hE.mem ht) (hG.kid ht) (hkj t ht); have := hkn t ht; omega
    have hrest : restB o kids.length = true := by unfold ownB at hown; rw [Bool.and_eq_true] at hown; exact hown.2
    have hkind := own_kind hown
    have hok := own_okI hown hwf.2.1
    have hnj := notjson_6 hJ
    have htot : (jencT (.mk o kids)).length ≤ 4000000 := by omega
    clear ih hlen
    rw [jencT_mk] at htot ⊢
    show Calls Tryz.prog 19 #[V10 o.kind o.g (lb 0 o.x) (lb 1 o.x) (lb 2 o.x) (lb 3 o.x) o.bits o.text o.la kids.length o.lcap o.ka o.keys.length o.kcap] W _
    rcases hkind with hk | hk | hk | hk | hk | hk | hk | hk
    · rw [jO_1 hk, hk]
      exact rwr_null o.g _ _ _ _ o.la _ o.lcap o.ka _ o.kcap W o.bits o.text
    · have hb := rest_2 hk hrest
      have hb0' := hwf.2.2.1.1
      rw [jO_2 hk, hk]
      rcases (show o.bits = 0 ∨ o.bits = 1 by omega) with hb1 | hb1
      · rw [hb1, if_pos rfl]
        exact rwr_no o.g _ _ _ _ o.la _ o.lcap o.ka _ o.kcap W o.text
      · rw [hb1, if_neg (by decide)]
        exact rwr_yes o.g _ _ _ _ o.la _ o.lcap o.ka _ o.kcap W o.text
    · rw [jO_3 hk, hk]
      have hz := hok hk
      refine rwr_int o.g _ _ _ _ o.la _ o.lcap o.ka _ o.kcap W _ o.bits o.text (fun W => ?_)
      have h := rprintint_z (if o.g then -(o.x : Int) else (o.x : Int)) (by have hx := hwf.2.1; split <;> omega) W
      rw [zstr_jint o.g o.x hz, Iz_jint o.g o.x hz] at h
      exact h
    · obtain ⟨b, hb⟩ : ∃ b : Nat, o.bits = b := ⟨o.bits.toNat, (Int.toNat_of_nonneg hwf.2.2.1.1).symm⟩
      have hb2 : b < 18446744073709551616 := by have := hwf.2.2.1.2; rw [hb] at this; omega
      have hc : cls b = 1 := by have := hnj.2 hk; rw [hb, Int.toNat_natCast] at this; exact this
      rw [jO_4 hk, hk, hb, Int.toNat_natCast]
      refine rwr_float o.g _ _ _ _ o.la _ o.lcap o.ka _ o.kcap W _ b o.text true (fun W => ?_)
      have h := rprintfloat_any b hb2 W
      unfold prans at h
      rw [if_pos hc] at h
      exact h
    · have hs := over_5 (Or.inl hk) hover
      rw [jO_5 hk, hk]
      exact rwr_text o.g _ _ _ _ o.la _ o.lcap o.ka _ o.kcap W _ o.bits o.text (fun W => rquoted o.text (by omega) W)
    · exact absurd hk hnj.1
    · have hn7 := over_7 hk hover
      obtain ⟨bb, off, ha, hb⟩ := hKA
      rw [jO_7 hk] at htot
      rw [jO_7 hk, hk]
      exact rwr_arr o.g _ _ _ _ o.bits o.text o.la o.lcap o.ka o.keys.length o.kcap kids bb off W ⟨ha, hb, hins, by omega⟩ hn7 (by simp only [List.length_append] at htot; omega) hel ih2
    · have hrr := rest_8 hk hrest
      have hoo := over_8 hk hover
      obtain ⟨bb, off, ha, hb⟩ := hKA
      rw [jO_8 hk] at htot
      rw [jO_8 hk, hk]
      exact rwr_map o.g _ _ _ _ o.bits o.text o.la o.lcap o.ka o.kcap o.keys kb koff kids bb off W ⟨ha, hb, hins, by omega⟩ hoo.2.1 hKK hty.2.2 hrr.1 (by simp only [List.length_append] at htot; omega) hel ih2
end Go.Proofs.YtocffoemimghhaaGreatDoor
