/-
  JsLeaf JsSize JsBut JsNum JsBits, one behind the other: a claim holds at most 60 files.
-/
import Derived.Test.YtebfggiodhaahaaGreatDoorGH
import Derived.Test.YtebfggiodhaahaaGreatDoorButFrame
import Derived.Test.YtebfggiodhaahaaGreatDoorGP
section
namespace Go.Proofs.YtebfggiodhaahaaGreatDoor
open Go.RowKit Go.Shelf

/-- A blank of JSON. -/
def jblank (b : UInt8) : Bool := ([32, 9, 10, 13] : List UInt8).contains b
def jskip (l : List UInt8) : List UInt8 := l.dropWhile jblank
theorem jskip_len (l : List UInt8) : (jskip l).length ≤ l.length := (List.dropWhile_sublist _).length_le
theorem trim_blanks (l : List UInt8) (w : World) :
    Calls Tryz.prog 42 #[.string (str l), .string ⟨#[32, 9, 10, 13]⟩] w fun e w' => e = .returned (.string (str (jskip l))) ∧ Below w.heap.size w w' := by
  have h := trim_left (str l) ⟨#[32, 9, 10, 13]⟩ w (by decide) (ascii_of_all (by decide))
  rw [str_data] at h
  exact h
theorem lcutp_yes (l : List UInt8) (P : ByteArray) (h : Lib.hasPrefix l P.data.toList = true) (hp : P.size ≤ l.length) (hl : l.length ≤ 140737488351232) (w : World) :
    Calls Tryz.prog 158 #[.string (str l), .string P] w fun e w' => e = .returned (.tuple #[.string (str (l.drop P.size)), .bool true]) ∧ w' = w := by
  have C := fun W => Tryz.stringslite_HasPrefix (str l) P W
  rw [str_data, h] at C
  have hd := Lib.hid (str_drop l P.size)
  have hs := str_size l
  have h1 : P.size ≤ (str l).size := by rw [hs]; exact hp
  have h2 : (str l).size ≤ 140737488351232 := by rw [hs]; exact hl
  clear hs h hp hl
  generalize str l = S at *
  have HC := Lib.hid C; clear C
  go_enter Tryz.func158, Tryz.ntmps158
  go_wp2_with (go_at_call 184; ((with_reducible refine (HC.out _).mono ?_); rintro e w' ⟨rfl, rfl⟩))
  go_ret2
  exact ⟨by rw [← hd.out]; rfl, rfl⟩
theorem lcutp_no (l : List UInt8) (P : ByteArray) (h : Lib.hasPrefix l P.data.toList = false) (w : World) :
    Calls Tryz.prog 158 #[.string (str l), .string P] w fun e w' => e = .returned (.tuple #[.string (str l), .bool false]) ∧ w' = w := by
  have C := fun W => Tryz.stringslite_HasPrefix (str l) P W
  rw [str_data, h] at C
  have HC := Lib.hid C; clear C h
  go_enter Tryz.func158, Tryz.ntmps158
  go_wp2_with (go_at_call 184; ((with_reducible refine (HC.out _).mono ?_); rintro e w' ⟨rfl, rfl⟩))
  go_ret2
  exact ⟨rfl, rfl⟩
/-- What is left behind a beginning that is cut off. -/
def cutp (l p : List UInt8) : List UInt8 × Bool := if Lib.hasPrefix l p then (l.drop p.length, true) else (l, false)
theorem cutp_any (l : List UInt8) (P : ByteArray) (hl : l.length ≤ 140737488351232) (w : World) :
    Calls Tryz.prog 114 #[.string (str l), .string P] w fun e w' => e = .returned (.tuple #[.string (str (cutp l P.data.toList).1), .bool (cutp l P.data.toList).2]) ∧ w' = w := by
  have C : ∀ W, Calls Tryz.prog 158 #[.string (str l), .string P] W fun e w' => e = .returned (.tuple #[.string (str (cutp l P.data.toList).1), .bool (cutp l P.data.toList).2]) ∧ w' = W := fun W => by
    unfold cutp
    cases h : Lib.hasPrefix l P.data.toList with
    | true =>
      have hp : P.data.toList.length ≤ l.length := (List.isPrefixOf_iff_prefix.1 h).length_le
      exact lcutp_yes l P h (by simpa using hp) hl W
    | false => exact lcutp_no l P h W
  have HC := Lib.hid C
  clear C hl
  generalize cutp l P.data.toList = r at *
  obtain ⟨r1, r2⟩ := r
  go_enter Tryz.func114, Tryz.ntmps114
  go_wp2_with (go_at_call 158; ((with_reducible refine (HC.out _).mono ?_); rintro e w' ⟨rfl, rfl⟩))
  go_ret2
  exact ⟨rfl, rfl⟩
theorem afs_nil (w : World) : Calls Tryz.prog 124 #[.string (str [])] w fun e w' => e = .returned (.string (str [])) ∧ w' = w := by
  have e1 : (str []).toList.isEmpty = true := by decide +kernel
  have e2 : (str []).toList = [] := by decide +kernel
  generalize str [] = E at *
  go_enter Tryz.func124, Tryz.ntmps124
  go_wp2
  go_ret
  exact ⟨rfl, rfl⟩
theorem afs_sign (c : UInt8) (t : List UInt8) (h : c = 43 ∨ c = 45) (hl : (c :: t).length ≤ 140737488351232) (w : World) :
    Calls Tryz.prog 124 #[.string (str (c :: t))] w fun e w' => e = .returned (.string (str t)) ∧ w' = w := by
  obtain ⟨e1, e2, e3, e4, e6⟩ := cons_facts c t
  have h2 : (str (c :: t)).size ≤ 140737488351232 := by rw [str_size]; exact hl
  have HD := Lib.hid e6
  clear hl e6
  generalize str (c :: t) = S at *
  have e5 := e4 e3
  have e7 : 1 ≤ S.size := e3
  rcases h with h | h
  · have g1 : ((S[0].toNat : Int) == 43) = true := by rw [e5, h]; rfl
    clear e4 e5 h
    go_enter Tryz.func124, Tryz.ntmps124
    go_wp2
    go_ret
    exact ⟨by rw [← HD.out]; rfl, rfl⟩
  · have g1 : ((S[0].toNat : Int) == 43) = false := by rw [e5, h]; rfl
    have g2 : ((S[0].toNat : Int) == 45) = true := by rw [e5, h]; rfl
    clear e4 e5 h
    go_enter Tryz.func124, Tryz.ntmps124
    go_wp2
    go_ret
    exact ⟨by rw [← HD.out]; rfl, rfl⟩
theorem afs_none (c : UInt8) (t : List UInt8) (h : ¬ (c = 43 ∨ c = 45)) (w : World) :
    Calls Tryz.prog 124 #[.string (str (c :: t))] w fun e w' => e = .returned (.string (str (c :: t))) ∧ w' = w := by
  obtain ⟨e1, e2, e3, e4, _⟩ := cons_facts c t
  generalize str (c :: t) = S at *
  have e5 := e4 e3
  have g1 : ((S[0].toNat : Int) == 43) = false := by
    rw [beq_eq_false_iff_ne, e5]
    intro hc
    exact h (Or.inl (UInt8.toNat_inj.1 (by show c.toNat = 43; omega)))
  have g2 : ((S[0].toNat : Int) == 45) = false := by
    rw [beq_eq_false_iff_ne, e5]
    intro hc
    exact h (Or.inr (UInt8.toNat_inj.1 (by show c.toNat = 45; omega)))
  clear e4 e5 h
  go_enter Tryz.func124, Tryz.ntmps124
  go_wp2
  go_ret
  exact ⟨rfl, rfl⟩
theorem dsgn_none {c : UInt8} {t : List UInt8} (h : ¬ (c = 43 ∨ c = 45)) : dsgn (c :: t) = (false, c :: t) := by
  unfold dsgn
  split
  · exact absurd (Or.inr (List.cons.inj (by assumption)).1) h
  · exact absurd (Or.inl (List.cons.inj (by assumption)).1) h
  · rfl
theorem afs_any (l : List UInt8) (hl : l.length ≤ 140737488351232) (w : World) :
    Calls Tryz.prog 124 #[.string (str l)] w fun e w' => e = .returned (.string (str (dsgn l).2)) ∧ w' = w := by
  cases l with
  | nil => exact afs_nil w
  | cons c t =>
    by_cases h : c = 43 ∨ c = 45
    · have e : (dsgn (c :: t)).2 = t := by rcases h with rfl | rfl <;> rfl
      rw [e]
      exact afs_sign c t h hl w
    · rw [dsgn_none h]
      exact afs_none c t h w
/-- What stands behind the digits of l; o, if it does not begin with one. -/
def aft (l o : List UInt8) : List UInt8 := if figs l = [] then o else rst l
theorem figs_nil_iff (l : List UInt8) : figs l = [] ↔ str (rst l) = str l := by
  constructor
  · intro h
    have := figs_rst l
    rw [h, List.nil_append] at this
    rw [this]
  · intro h
    have h1 := congrArg ByteArray.size h
    rw [str_size, str_size] at h1
    have h2 := figs_len l
    exact List.eq_nil_of_length_eq_zero (by omega)
theorem str_neq {a b : ByteArray} (h : ¬ a = b) : (a.toList == b.toList) = false := by
  rw [beq_eq_false_iff_ne]
  intro hc
  rw [ByteArray.toList_eq, ByteArray.toList_eq] at hc
  exact h (str_ext hc)
theorem aft_any (l o : List UInt8) (w : World) :
    Calls Tryz.prog 123 #[.string (str l), .string (str o)] w fun e w' => e = .returned (.string (str (aft l o))) ∧ Below w.heap.size w w' := by
  have HC := Lib.hid (fun W => trim_figs l W)
  by_cases h : figs l = []
  · have hs := (figs_nil_iff l).1 h
    have HA : Hid (str o = str (aft l o)) := by show _ = _; unfold aft; rw [if_pos h]
    rw [hs] at HC
    clear hs h
    generalize str (aft l o) = V at *
    generalize str l = S at *
    generalize str o = O at *
    go_enter Tryz.func123, Tryz.ntmps123
    go_wp2_with (go_at_call 42; ((with_reducible refine (HC.out _).mono ?_); rintro e w1 ⟨rfl, hb⟩))
    go_ret
    exact ⟨by rw [HA.out]; rfl, hb⟩
  · have hs := str_neq (fun hc => h ((figs_nil_iff l).2 hc))
    have hs2 : ¬ (str (rst l)).toList = (str l).toList := by rw [str_toList, str_toList]; intro hc; exact h ((figs_nil_iff l).2 (by rw [hc]))
    have HA : Hid (str (rst l) = str (aft l o)) := by show _ = _; unfold aft; rw [if_neg h]
    clear h
    generalize str (aft l o) = V at *
    generalize str (rst l) = R at *
    generalize str l = S at *
    generalize str o = O at *
    go_enter Tryz.func123, Tryz.ntmps123
    go_wp2_with (go_at_call 42; ((with_reducible refine (HC.out _).mono ?_); rintro e w1 ⟨rfl, hb⟩))
    go_ret
    exact ⟨by rw [HA.out]; rfl, hb⟩
end Go.Proofs.YtebfggiodhaahaaGreatDoor
end
section
namespace Go.Proofs.YtebfggiodhaahaaGreatDoor
open Go.RowKit Go.Shelf

/-- A text without that one letter ahead. -/
def tp1 (c : UInt8) : List UInt8 → List UInt8
  | [] => []
  | d :: t => if d = c then t else d :: t
theorem tp1_any (c : UInt8) (l : List UInt8) (w : World) : Calls Tryz.prog 122 #[.string (str l), .string ⟨#[c]⟩] w fun e w' => e = .returned (.string (str (tp1 c l))) ∧ w' = w := by
  have h := Tryz.strings_TrimPrefix (str l) ⟨#[c]⟩ w
  have e : Lib.trimPrefix (str l).data.toList (ByteArray.mk #[c]).data.toList = tp1 c l := by
    rw [str_data]
    unfold Lib.trimPrefix
    cases l with
    | nil => rw [if_neg (fun hp => by obtain ⟨t, h⟩ := (pre_one [] c).1 hp; cases h)]; rfl
    | cons d t =>
      by_cases hd : d = c
      · rw [if_pos ((pre_one _ c).2 ⟨t, by rw [hd]⟩), show tp1 c (d :: t) = t from if_pos hd]; rfl
      · rw [if_neg (fun hp => by obtain ⟨u, h⟩ := (pre_one _ c).1 hp; exact hd (List.cons.inj h).1), show tp1 c (d :: t) = d :: t from if_neg hd]
  rw [e] at h
  exact h
set_option maxHeartbeats 2000000 in
theorem nsz_core (S U R0 T D B P E G V F : ByteArray) (pb : Bool) (w : World) (hS : S.size ≤ 140737488351232) (hE : E.size ≤ 140737488351232) (hF : F.size ≤ S.size)
    (k1 : ∀ W, Calls Tryz.prog 122 #[.string S, .string ⟨#[45]⟩] W fun e w' => e = .returned (.string U) ∧ w' = W)
    (k2 : ∀ W, Calls Tryz.prog 122 #[.string U, .string ⟨#[48]⟩] W fun e w' => e = .returned (.string R0) ∧ w' = W)
    (k3 : ∀ W, Calls Tryz.prog 42 #[.string U, .string ⟨#[48, 49, 50, 51, 52, 53, 54, 55, 56, 57]⟩] W fun e w' => e = .returned (.string T) ∧ Below W.heap.size W w')
    (k4 : ∀ W, Calls Tryz.prog 114 #[.string D, .string ⟨#[46]⟩] W fun e w' => e = .returned (.tuple #[.string B, .bool pb]) ∧ w' = W)
    (k5 : ∀ W, Calls Tryz.prog 123 #[.string B, .string D] W fun e w' => e = .returned (.string P) ∧ Below W.heap.size W w')
    (k6 : ∀ W, Calls Tryz.prog 124 #[.string (E.extract 1 E.size)] W fun e w' => e = .returned (.string G) ∧ w' = W)
    (k7 : ∀ W, Calls Tryz.prog 123 #[.string G, .string E] W fun e w' => e = .returned (.string V) ∧ Below W.heap.size W w')
    (h1 : ((R0.toList == U.toList) = false ∧ R0 = D) ∨ ((R0.toList == U.toList) = true ∧ T = D)) (h2 : (D.toList == U.toList) = false)
    (h3 : (pb = true ∧ P = E) ∨ (pb = false ∧ D = E))
    (h4 : (E.toList.isEmpty = true ∧ E.toList = [] ∧ E = F) ∨ (∃ h : 0 < E.size, E.toList.isEmpty = false ∧ (¬ E.toList = []) ∧ (((((E[0]'h).toNat : Int) == 101) = true ∧ V = F) ∨ ((((E[0]'h).toNat : Int) == 101) = false ∧ (((E[0]'h).toNat : Int) == 69) = true ∧ V = F) ∨ ((((E[0]'h).toNat : Int) == 101) = false ∧ (((E[0]'h).toNat : Int) == 69) = false ∧ E = F)))) :
    Calls Tryz.prog 77 #[.string S] w fun e w' => e = .returned (.int .i64 ((S.size : Int) - (F.size : Int))) ∧ Below w.heap.size w w' := by
  have K1 := Lib.hid k1; have K2 := Lib.hid k2; have K3 := Lib.hid k3; have K4 := Lib.hid k4; have K5 := Lib.hid k5; have K6 := Lib.hid k6; have K7 := Lib.hid k7
  clear k1 k2 k3 k4 k5 k6 k7
  have hB := Below.refl w.heap.size w
  have h2b : ¬ D.toList = U.toList := by rw [beq_eq_false_iff_ne] at h2; exact h2
  have h1b : (R0.toList == U.toList) = true → R0.toList = U.toList := fun h => by rwa [beq_iff_eq] at h
  rcases h1 with ⟨h1, rfl⟩ | ⟨h1, rfl⟩
  all_goals
    try have h1c := h1b h1
    clear h1b
    rcases h3 with ⟨rfl, rfl⟩ | ⟨rfl, rfl⟩
  all_goals
    rcases h4 with ⟨e1, e2, rfl⟩ | ⟨e3, e1, e2, ⟨e4, rfl⟩ | ⟨e4, e5, rfl⟩ | ⟨e4, e5, rfl⟩⟩
  all_goals
    try have e6 : 1 ≤ ByteArray.size _ := e3
    try (rw [e2] at h2b; have u1 : ¬ U.toList = [] := fun h => h2b h.symm; have u2 : U.toList.isEmpty = false := by rw [List.isEmpty_eq_false_iff]; exact u1)
    try have u3 : (([] : List UInt8) == U.toList) = false := by rw [beq_eq_false_iff_ne]; exact h2b
    go_enter Tryz.func77, Tryz.ntmps77
    go_wp2_with (first
      | (go_at_call 122; ((with_reducible (first | refine (K1.out _).mono ?_ | refine (K2.out _).mono ?_)); rintro e w' ⟨rfl, rfl⟩))
      | (go_at_call 42; ((with_reducible refine (K3.out _).mono ?_); rintro e w1 ⟨rfl, hb⟩; replace hB := dbtr hB hb; clear hb))
      | (go_at_call 114; ((with_reducible refine (K4.out _).mono ?_); rintro e w' ⟨rfl, rfl⟩))
      | (go_at_call 124; ((with_reducible refine (K6.out _).mono ?_); rintro e w' ⟨rfl, rfl⟩))
      | (go_at_call 123; ((with_reducible (first | refine (K5.out _).mono ?_ | refine (K7.out _).mono ?_)); rintro e w1 ⟨rfl, hb⟩; replace hB := dbtr hB hb; clear hb)))
    go_ret
    exact ⟨rfl, hB⟩
theorem nsz_zero (S U : ByteArray) (w : World)
    (k1 : ∀ W, Calls Tryz.prog 122 #[.string S, .string ⟨#[45]⟩] W fun e w' => e = .returned (.string U) ∧ w' = W)
    (k2 : ∀ W, Calls Tryz.prog 122 #[.string U, .string ⟨#[48]⟩] W fun e w' => e = .returned (.string U) ∧ w' = W)
    (k3 : ∀ W, Calls Tryz.prog 42 #[.string U, .string ⟨#[48, 49, 50, 51, 52, 53, 54, 55, 56, 57]⟩] W fun e w' => e = .returned (.string U) ∧ Below W.heap.size W w') :
    Calls Tryz.prog 77 #[.string S] w fun e w' => e = .returned (.int .i64 0) ∧ Below w.heap.size w w' := by
  have K1 := Lib.hid k1; have K2 := Lib.hid k2; have K3 := Lib.hid k3
  clear k1 k2 k3
  have hB := Below.refl w.heap.size w
  have h1 : (U.toList == U.toList) = true := by rw [beq_iff_eq]
  go_enter Tryz.func77, Tryz.ntmps77
  go_wp2_with (first
    | (go_at_call 122; ((with_reducible (first | refine (K1.out _).mono ?_ | refine (K2.out _).mono ?_)); rintro e w' ⟨rfl, rfl⟩))
    | (go_at_call 42; ((with_reducible refine (K3.out _).mono ?_); rintro e w1 ⟨rfl, hb⟩; replace hB := dbtr hB hb; clear hb)))
  go_ret
  exact ⟨rfl, hB⟩
/-- What stands behind a whole number's digits: a nought stands alone. -/
def jrest : List UInt8 → List UInt8
  | [] => []
  | c :: t => if c = 48 then t else rst (c :: t)
/-- What stands behind a point and its digits. -/
def jpt (d : List UInt8) : List UInt8 := if (cutp d [46]).2 = true then aft (cutp d [46]).1 d else d
/-- What stands behind an exponent. -/
def jex : List UInt8 → List UInt8
  | [] => []
  | c :: t => if c = 101 ∨ c = 69 then aft (dsgn t).2 (c :: t) else c :: t
def jnum (l : List UInt8) : List UInt8 := jex (jpt (jrest (tp1 45 l)))
/-- How long the number is that l begins with. -/
def nsz (l : List UInt8) : Nat := if figs (tp1 45 l) = [] then 0 else l.length - (jnum l).length
theorem tp1_len (c : UInt8) (l : List UInt8) : (tp1 c l).length ≤ l.length := by
  cases l with
  | nil => exact Nat.le_refl _
  | cons d t =>
    by_cases h : d = c
    · rw [show tp1 c (d :: t) = t from if_pos h]; simp
    · rw [show tp1 c (d :: t) = d :: t from if_neg h]; exact Nat.le_refl _
theorem rst_len (l : List UInt8) : (rst l).length ≤ l.length := by have := figs_len l; omega
theorem aft_len (l o : List UInt8) : (aft l o).length ≤ max l.length o.length := by
  unfold aft
  split
  · omega
  · have := rst_len l; omega
theorem jrest_len (l : List UInt8) : (jrest l).length ≤ l.length := by
  cases l with
  | nil => exact Nat.le_refl _
  | cons c t =>
    by_cases h : c = 48
    · rw [show jrest (c :: t) = t from if_pos h]; simp
    · rw [show jrest (c :: t) = rst (c :: t) from if_neg h]; exact rst_len _
theorem cutp_len (l p : List UInt8) : (cutp l p).1.length ≤ l.length := by
  unfold cutp
  split
  · simp
  · exact Nat.le_refl _
theorem jpt_len (l : List UInt8) : (jpt l).length ≤ l.length := by
  unfold jpt
  split
  · have := aft_len (cutp l [46]).1 l; have := cutp_len l [46]; omega
  · exact Nat.le_refl _
theorem dsgn_len (l : List UInt8) : (dsgn l).2.length ≤ l.length := by
  cases l with
  | nil => exact Nat.le_refl _
  | cons c t =>
    by_cases h : c = 43 ∨ c = 45
    · have e : (dsgn (c :: t)).2 = t := by rcases h with rfl | rfl <;> rfl
      rw [e]; simp
    · rw [dsgn_none h]; exact Nat.le_refl _
theorem jex_len (l : List UInt8) : (jex l).length ≤ l.length := by
  cases l with
  | nil => exact Nat.le_refl _
  | cons c t =>
    by_cases h : c = 101 ∨ c = 69
    · rw [show jex (c :: t) = aft (dsgn t).2 (c :: t) from if_pos h]
      have := aft_len (dsgn t).2 (c :: t)
      have := dsgn_len t
      rw [List.length_cons] at *
      omega
    · rw [show jex (c :: t) = c :: t from if_neg h]; exact Nat.le_refl _
theorem len_neq {a b : List UInt8} (h : a.length ≠ b.length) : ((str a).toList == (str b).toList) = false := str_neq (fun hc => h (by have := congrArg ByteArray.size hc; rwa [str_size, str_size] at this))
theorem jrest_neq {u : List UInt8} (h : figs u ≠ []) : (jrest u).length ≠ u.length := by
  have hl := figs_len u
  have hp : 0 < (figs u).length := List.length_pos_iff.2 h
  cases u with
  | nil => exact absurd rfl h
  | cons c t =>
    by_cases hc : c = 48
    · rw [show jrest (c :: t) = t from if_pos hc]; simp
    · rw [show jrest (c :: t) = rst (c :: t) from if_neg hc]; omega
theorem nsz_any (l : List UInt8) (hl : l.length ≤ 140737488351232) (w : World) :
    Calls Tryz.prog 77 #[.string (str l)] w fun e w' => e = .returned (.int .i64 ((nsz l : Nat) : Int)) ∧ Below w.heap.size w w' := by
  have k1 := fun W => tp1_any 45 l W
  have hul := tp1_len 45 l
  unfold nsz jnum
  generalize tp1 45 l = u at *
  by_cases h : figs u = []
  · rw [if_pos h]
    refine nsz_zero (str l) (str u) w k1 (fun W => ?_) (fun W => ?_)
    · have e : tp1 48 u = u := by
        cases u with
        | nil => rfl
        | cons c t =>
          refine if_neg (fun hc => ?_)
          subst hc
          rw [show figs (48 :: t) = 48 :: figs t from rfl] at h
          cases h
      have := tp1_any 48 u W
      rwa [e] at this
    · have := trim_figs u W
      rwa [(figs_nil_iff u).1 h] at this
  · rw [if_neg h]
    have hr := jrest_neq h
    have hrl := jrest_len u
    have hpl := jpt_len (jrest u)
    have hel := jex_len (jpt (jrest u))
    have hans : ((l.length - (jex (jpt (jrest u))).length : Nat) : Int) = ((str l).size : Int) - ((str (jex (jpt (jrest u)))).size : Int) := by rw [str_size, str_size]; omega
    rw [hans]
    refine nsz_core (str l) (str u) (str (tp1 48 u)) (str (rst u)) (str (jrest u)) (str (cutp (jrest u) [46]).1) (str (aft (cutp (jrest u) [46]).1 (jrest u))) (str (jpt (jrest u)))
      (str (dsgn ((jpt (jrest u)).drop 1)).2) (str (aft (dsgn ((jpt (jrest u)).drop 1)).2 (jpt (jrest u)))) (str (jex (jpt (jrest u)))) (cutp (jrest u) [46]).2 w
      (by rw [str_size]; exact hl) (by rw [str_size]; omega) (by rw [str_size, str_size]; omega) k1 (fun W => tp1_any 48 u W) (fun W => trim_figs u W)
      (fun W => cutp_any (jrest u) ⟨#[46]⟩ (by omega) W) (fun W => aft_any _ _ W) (fun W => ?_) (fun W => aft_any _ _ W) ?_ (len_neq hr) ?_ ?_
    · rw [str_drop]
      exact afs_any _ (by rw [List.length_drop]; omega) W
    · cases u with
      | nil => exact absurd rfl h
      | cons c t =>
        by_cases hc : c = 48
        · rw [show jrest (c :: t) = t from if_pos hc, show tp1 48 (c :: t) = t from if_pos hc]
          exact .inl ⟨len_neq (by simp), rfl⟩
        · rw [show jrest (c :: t) = rst (c :: t) from if_neg hc, show tp1 48 (c :: t) = c :: t from if_neg hc]
          exact .inr ⟨by rw [beq_iff_eq], rfl⟩
    · unfold jpt
      cases hq : (cutp (jrest u) [46]).2 with
      | true => exact .inl ⟨rfl, by rw [if_pos rfl]⟩
      | false => exact .inr ⟨rfl, by rw [if_neg (by decide)]⟩
    · clear hans hel
      generalize jpt (jrest u) = e at *
      cases e with
      | nil => exact .inl ⟨by decide +kernel, by decide +kernel, rfl⟩
      | cons c t =>
        obtain ⟨f1, f2, f3, f4, _⟩ := cons_facts c t
        refine .inr ⟨f3, f1, f2, ?_⟩
        rw [f4 f3, List.drop_succ_cons, List.drop_zero]
        by_cases h1 : c = 101
        · exact .inl ⟨by rw [h1]; rfl, by rw [show jex (c :: t) = aft (dsgn t).2 (c :: t) from if_pos (.inl h1)]⟩
        · have g1 : ((c.toNat : Int) == 101) = false := by
            rw [beq_eq_false_iff_ne]
            intro hc
            exact h1 (UInt8.toNat_inj.1 (by show c.toNat = 101; omega))
          by_cases h2 : c = 69
          · exact .inr (.inl ⟨g1, by rw [h2]; rfl, by rw [show jex (c :: t) = aft (dsgn t).2 (c :: t) from if_pos (.inr h2)]⟩)
          · refine .inr (.inr ⟨g1, ?_, by rw [show jex (c :: t) = c :: t from if_neg (fun h => h.elim h1 h2)]⟩)
            rw [beq_eq_false_iff_ne]
            intro hc
            exact h2 (UInt8.toNat_inj.1 (by show c.toNat = 69; omega))
end Go.Proofs.YtebfggiodhaahaaGreatDoor
end
section
namespace Go.Proofs.YtebfggiodhaahaaGreatDoor
open Go.RowKit Go.Shelf

/-- The block b is a reader: what is left, the two marks. -/
def Jr (W : World) (b : Nat) (s : ByteArray) (lg un : Bool) : Prop := W.heap[b]? = some (.cells #[.string s, .bool lg, .bool un] 43 (0, 0))
theorem Jr.lt {W : World} {b : Nat} {s : ByteArray} {lg un : Bool} (h : Jr W b s lg un) : b < W.heap.size := by
  unfold Jr at h
  exact (Array.getElem?_eq_some_iff.1 h).1
theorem Jr.keep {W W' : World} {b : Nat} {s : ByteArray} {lg un : Bool} (h : Jr W b s lg un) (hb : Below W.heap.size W W') : Jr W' b s lg un := (hb.block b h.lt).trans h
theorem Jr.parts {W : World} {b : Nat} {s : ByteArray} {lg un : Bool} (h : Jr W b s lg un) :
    W.cell? ⟨b, 0, none⟩ = some (.string s) ∧ W.cell? ⟨b, 1, none⟩ = some (.bool lg) ∧ W.cell? ⟨b, 2, none⟩ = some (.bool un) ∧
    W.frozen? ⟨b, 0, none⟩ = false ∧ W.frozen? ⟨b, 1, none⟩ = false ∧ W.frozen? ⟨b, 2, none⟩ = false :=
  ⟨cell_of_row W b 0 _ _ _ h, cell_of_row W b 1 _ _ _ h, cell_of_row W b 2 _ _ _ h, frozen_of_row W b 0 _ _ h, frozen_of_row W b 1 _ _ h, frozen_of_row W b 2 _ _ h⟩
theorem Jr.rest {W : World} {b : Nat} {s : ByteArray} {lg un : Bool} (h : Jr W b s lg un) (t : ByteArray) : Jr (W.setCell ⟨b, 0, none⟩ (.string t)) b t lg un := by
  unfold Jr at *
  have h1 := heap_setCell_same W b 0 _ _ (.string t) h
  simpa using h1
theorem Jr.long {W : World} {b : Nat} {s : ByteArray} {lg un : Bool} (h : Jr W b s lg un) (t : Bool) : Jr (W.setCell ⟨b, 1, none⟩ (.bool t)) b s t un := by
  unfold Jr at *
  have h1 := heap_setCell_same W b 1 _ _ (.bool t) h
  simpa using h1
theorem Jr.unrep {W : World} {b : Nat} {s : ByteArray} {lg un : Bool} (h : Jr W b s lg un) (t : Bool) : Jr (W.setCell ⟨b, 2, none⟩ (.bool t)) b s lg t := by
  unfold Jr at *
  have h1 := heap_setCell_same W b 2 _ _ (.bool t) h
  simpa using h1
theorem rcut_any (l : List UInt8) (P : ByteArray) (hl : l.length ≤ 140737488351232) (b : Nat) (lg un : Bool) (w : World) (h : Jr w b (str l) lg un) :
    Calls Tryz.prog 70 #[.pointer (some ⟨b, 0, none⟩), .string P] w fun e w' => e = .returned (.bool (cutp l P.data.toList).2) ∧ Jr w' b (str (cutp l P.data.toList).1) lg un ∧ But w.heap.size b w w' := by
  have HC := Lib.hid (fun W => cutp_any l P hl W)
  clear hl
  generalize cutp l P.data.toList = r at *
  obtain ⟨r1, r2⟩ := r
  obtain ⟨p0, p1, p2, f0, f1, f2⟩ := h.parts
  have hlt := h.lt
  have H := Lib.hid h
  clear h
  generalize str l = S at *
  go_enter Tryz.func70, Tryz.ntmps70
  go_wp2_with (go_at_call 114; ((with_reducible refine (HC.out _).mono ?_); rintro e w' ⟨rfl, rfl⟩))
  go_ret
  exact ⟨rfl, H.out.rest _, (But.refl _ _ _).store _ _⟩
theorem rskip_any (l : List UInt8) (b : Nat) (lg un : Bool) (w : World) (h : Jr w b (str l) lg un) :
    Calls Tryz.prog 18 #[.pointer (some ⟨b, 0, none⟩)] w fun e w' => e = .returned (.tuple #[]) ∧ Jr w' b (str (jskip l)) lg un ∧ But w.heap.size b w w' := by
  have HC := Lib.hid (fun W => trim_blanks l W)
  obtain ⟨p0, p1, p2, f0, f1, f2⟩ := h.parts
  have hlt := h.lt
  have H := Lib.hid h
  clear h
  generalize str (jskip l) = R at *
  generalize str l = S at *
  go_enter Tryz.func18, Tryz.ntmps18
  go_wp2_with (go_at_call 42; ((with_reducible refine (HC.out _).mono ?_); rintro e w1 ⟨rfl, hb⟩; have H2 := Lib.hid (H.out.keep hb); obtain ⟨q0, q1, q2, g0, g1, g2⟩ := H2.out.parts; have hB := But.of (B := b) hb; have hlt2 := H2.out.lt; clear hb))
  exact bodyPost_end (v := .tuple #[]) (by simp [results, Tryz.results18, go_sem]) rfl ⟨rfl, H2.out.rest _, hB.store _ _⟩
theorem rsign_any (l : List UInt8) (P : ByteArray) (hl : l.length ≤ 140737488351232) (b : Nat) (lg un : Bool) (w : World) (h : Jr w b (str l) lg un) :
    Calls Tryz.prog 37 #[.pointer (some ⟨b, 0, none⟩), .string P] w fun e w' => e = .returned (.bool (cutp (jskip l) P.data.toList).2) ∧ Jr w' b (str (cutp (jskip l) P.data.toList).1) lg un ∧ But w.heap.size b w w' := by
  have HS := Lib.hid (rskip_any l b lg un w h)
  have HC := Lib.hid (fun W hW => rcut_any (jskip l) P (by have := jskip_len l; omega) b lg un W hW)
  clear hl h
  generalize cutp (jskip l) P.data.toList = r at *
  obtain ⟨r1, r2⟩ := r
  go_enter Tryz.func37, Tryz.ntmps37
  go_wp2_with (first
    | (go_at_call 18; ((with_reducible refine (HS.out).mono ?_); rintro e w1 ⟨rfl, hj, hb⟩))
    | (go_at_call 70; ((with_reducible refine (HC.out _ hj).mono ?_); rintro e w2 ⟨rfl, hj2, hb2⟩)))
  go_ret
  exact ⟨rfl, hj2, hb.seq hb2⟩
end Go.Proofs.YtebfggiodhaahaaGreatDoor
end
section
namespace Go.Proofs.YtebfggiodhaahaaGreatDoor
open Go.RowKit Go.Shelf

theorem But.set {N B c : Nat} {a w : World} (h : But N B a w) (hc : N ≤ c) (i : Nat) (u : Value) : But N B a (w.setCell ⟨c, i, none⟩ u) :=
  h.trans ⟨rfl, rfl, rfl, by simp [World.setCell], fun k hk _ => Below.heap_setCell _ _ _ _ (by show k ≠ c; omega)⟩
theorem But.set10 {N B c : Nat} {a X : World} (h : But N B a X) (hc : N ≤ c) (u0 u1 u2 u3 u4 u5 u6 u7 u8 u9 : Value) :
    But N B a (((((((((((X).setCell ⟨c, 0, none⟩ u0).setCell ⟨c, 1, none⟩ u1).setCell ⟨c, 2, none⟩ u2).setCell ⟨c, 3, none⟩ u3).setCell ⟨c, 4, none⟩ u4).setCell ⟨c, 5, none⟩ u5).setCell ⟨c, 6, none⟩ u6).setCell ⟨c, 7, none⟩ u7).setCell ⟨c, 8, none⟩ u8).setCell ⟨c, 9, none⟩ u9) :=
  (((((((((h.set hc 0 u0).set hc 1 u1).set hc 2 u2).set hc 3 u3).set hc 4 u4).set hc 5 u5).set hc 6 u6).set hc 7 u7).set hc 8 u8).set hc 9 u9
theorem Jr.set {W : World} {b c : Nat} {s : ByteArray} {lg un : Bool} (h : Jr W b s lg un) (hne : b ≠ c) (i : Nat) (u : Value) : Jr (W.setCell ⟨c, i, none⟩ u) b s lg un :=
  (Below.heap_setCell W ⟨c, i, none⟩ u b hne).trans h
theorem Jr.set10 {X : World} {b c : Nat} {s : ByteArray} {lg un : Bool} (h : Jr X b s lg un) (hc : b ≠ c) (u0 u1 u2 u3 u4 u5 u6 u7 u8 u9 : Value) :
    Jr (((((((((((X).setCell ⟨c, 0, none⟩ u0).setCell ⟨c, 1, none⟩ u1).setCell ⟨c, 2, none⟩ u2).setCell ⟨c, 3, none⟩ u3).setCell ⟨c, 4, none⟩ u4).setCell ⟨c, 5, none⟩ u5).setCell ⟨c, 6, none⟩ u6).setCell ⟨c, 7, none⟩ u7).setCell ⟨c, 8, none⟩ u8).setCell ⟨c, 9, none⟩ u9) b s lg un :=
  (((((((((h.set hc 0 u0).set hc 1 u1).set hc 2 u2).set hc 3 u3).set hc 4 u4).set hc 5 u5).set hc 6 u6).set hc 7 u7).set hc 8 u8).set hc 9 u9
theorem Jr.alloc {W : World} {b : Nat} {s : ByteArray} {lg un : Bool} (h : Jr W b s lg un) (o : Obj) : Jr (W.alloc o) b s lg un := (Below.heap_alloc W o b h.lt).trans h
theorem RowV.other {W : World} {b c : Nat} {v0 v1 v2 v3 v4 v5 v6 v7 v8 v9 : Value} (h : RowV W b v0 v1 v2 v3 v4 v5 v6 v7 v8 v9) (hne : b ≠ c) (i : Nat) (u : Value) : RowV (W.setCell ⟨c, i, none⟩ u) b v0 v1 v2 v3 v4 v5 v6 v7 v8 v9 :=
  (Below.heap_setCell W ⟨c, i, none⟩ u b hne).trans h
set_option maxHeartbeats 1000000 in
theorem jnum_long (S T : ByteArray) (sz : Nat) (hsz : sz ≤ S.size) (_hS : S.size ≤ 140737488351232) (b : Nat) (lg un : Bool) (k : Int) (g : Bool) (x : Nat) (y : Int) (w : World) (h : Jr w b S lg un)
    (k1 : ∀ W, Calls Tryz.prog 77 #[.string S] W fun e w' => e = .returned (.int .i64 (sz : Int)) ∧ Below W.heap.size W w')
    (k2 : ∀ W, Below w.heap.size w W → Calls Tryz.prog 78 #[.string (S.extract 0 sz)] W fun e w' => e = .returned (.tuple #[VV k g x y, .int .i64 8]) ∧ Below W.heap.size W w')
    (hT : S.extract sz S.size = T) :
    Calls Tryz.prog 41 #[.pointer (some ⟨b, 0, none⟩)] w fun e w' => e = .returned (.tuple #[VV 1 false 0 0, .bool true]) ∧ Jr w' b T true un ∧ But w.heap.size b w w' := by
  have K1 := Lib.hid k1; have K2 := Lib.hid k2; have HT := Lib.hid hT
  have H := Lib.hid h
  have hlt := h.lt
  have p0 := fun o => (h.alloc o).parts.1
  clear k1 k2 hT h
  generalize lb 0 x = x0 at *
  generalize lb 1 x = x1 at *
  generalize lb 2 x = x2 at *
  generalize lb 3 x = x3 at *
  go_enter Tryz.func41, Tryz.ntmps41
  go_wp2_with (first
    | (go_at_call 77; ((with_reducible refine (K1.out _).mono ?_); rintro e w1 ⟨rfl, hb⟩; have hB := Lib.hid (dbtr (bal (Below.refl _ w) _) hb); have R1 := RowV.keep hb (RowV.new w _ _ _ _ _ _ _ _ _ _); have H1 := (H.out.alloc _).keep hb; have r0 := H1.parts.1; have HR1 := Lib.hid R1; have HH1 := Lib.hid H1; clear hb R1 H1 p0))
    | (go_at_call 78; ((with_reducible refine (K2.out _ hB.out).mono ?_); rintro e w2 ⟨rfl, hb⟩; have hB2 := Lib.hid (dbtr hB.out hb); have R2 := RowV.keep hb HR1.out; have H2 := HH1.out.keep hb; obtain ⟨q0, q1, q2, g0, g1, g2⟩ := H2.parts; obtain ⟨f0, f1, f2, f3, f4, f5, f6, f7, f8, f9⟩ := R2.free; obtain ⟨t0, t1, t2, t3, t4, t5, t6, t7, t8, t9⟩ := R2.parts; have l2 := H2.lt; have l3 := R2.lt; have HR2 := Lib.hid R2; have HH2 := Lib.hid H2; clear hb R2 H2 r0)))
  have hne : b ≠ w.heap.size := by omega
  have RN := fun o => ((((HR2.out.other hne.symm 0 (.string (S.extract sz S.size))).other hne.symm 1 (.bool true)).setAll (.int .i64 1) (.bool false) (.int .u64 0) (.int .u64 0) (.int .u64 0) (.int .u64 0) (.int .u64 0) (.string ⟨#[]⟩) (.slice none 0 0) (.slice none 0 0)).alloc o).parts
  have z0 := fun o => (RN o).1
  have z1 := fun o => (RN o).2.1
  have z2 := fun o => (RN o).2.2.1
  have z3 := fun o => (RN o).2.2.2.1
  have z4 := fun o => (RN o).2.2.2.2.1
  have z5 := fun o => (RN o).2.2.2.2.2.1
  have z6 := fun o => (RN o).2.2.2.2.2.2.1
  have z7 := fun o => (RN o).2.2.2.2.2.2.2.1
  have z8 := fun o => (RN o).2.2.2.2.2.2.2.2.1
  have z9 := fun o => (RN o).2.2.2.2.2.2.2.2.2
  clear RN
  have hfin := ((((But.of (B := b) hB2.out).store 0 (.string (S.extract sz S.size))).store 1 (.bool true)).set10 (Nat.le_refl w.heap.size) (.int .i64 1) (.bool false) (.int .u64 0) (.int .u64 0) (.int .u64 0) (.int .u64 0) (.int .u64 0) (.string ⟨#[]⟩) (.slice none 0 0) (.slice none 0 0))
  exact bodyPost_ret (v := .tuple #[VV 1 false 0 0, .bool true]) (by simp [results, Tryz.results41, go_sem, z0, z1, z2, z3, z4, z5, z6, z7, z8, z9, lb_zero]) rfl ⟨rfl, by rw [← HT.out]; exact (((HH2.out.rest _).long true).set10 hne _ _ _ _ _ _ _ _ _ _).alloc _, hfin.made hfin.size _⟩
set_option maxHeartbeats 1000000 in
theorem jnum_unrep (S T : ByteArray) (sz : Nat) (hsz : sz ≤ S.size) (_hS : S.size ≤ 140737488351232) (b : Nat) (lg un : Bool) (k : Int) (g : Bool) (x : Nat) (y : Int) (w : World) (h : Jr w b S lg un)
    (k1 : ∀ W, Calls Tryz.prog 77 #[.string S] W fun e w' => e = .returned (.int .i64 (sz : Int)) ∧ Below W.heap.size W w')
    (k2 : ∀ W, Below w.heap.size w W → Calls Tryz.prog 78 #[.string (S.extract 0 sz)] W fun e w' => e = .returned (.tuple #[VV k g x y, .int .i64 5]) ∧ Below W.heap.size W w')
    (hT : S.extract sz S.size = T) :
    Calls Tryz.prog 41 #[.pointer (some ⟨b, 0, none⟩)] w fun e w' => e = .returned (.tuple #[VV 1 false 0 0, .bool true]) ∧ Jr w' b T lg true ∧ But w.heap.size b w w' := by
  have K1 := Lib.hid k1; have K2 := Lib.hid k2; have HT := Lib.hid hT
  have H := Lib.hid h
  have hlt := h.lt
  have p0 := fun o => (h.alloc o).parts.1
  clear k1 k2 hT h
  generalize lb 0 x = x0 at *
  generalize lb 1 x = x1 at *
  generalize lb 2 x = x2 at *
  generalize lb 3 x = x3 at *
  go_enter Tryz.func41, Tryz.ntmps41
  go_wp2_with (first
    | (go_at_call 77; ((with_reducible refine (K1.out _).mono ?_); rintro e w1 ⟨rfl, hb⟩; have hB := Lib.hid (dbtr (bal (Below.refl _ w) _) hb); have R1 := RowV.keep hb (RowV.new w _ _ _ _ _ _ _ _ _ _); have H1 := (H.out.alloc _).keep hb; have r0 := H1.parts.1; have HR1 := Lib.hid R1; have HH1 := Lib.hid H1; clear hb R1 H1 p0))
    | (go_at_call 78; ((with_reducible refine (K2.out _ hB.out).mono ?_); rintro e w2 ⟨rfl, hb⟩; have hB2 := Lib.hid (dbtr hB.out hb); have R2 := RowV.keep hb HR1.out; have H2 := HH1.out.keep hb; obtain ⟨q0, q1, q2, g0, g1, g2⟩ := H2.parts; obtain ⟨f0, f1, f2, f3, f4, f5, f6, f7, f8, f9⟩ := R2.free; obtain ⟨t0, t1, t2, t3, t4, t5, t6, t7, t8, t9⟩ := R2.parts; have l2 := H2.lt; have l3 := R2.lt; have HR2 := Lib.hid R2; have HH2 := Lib.hid H2; clear hb R2 H2 r0)))
  have hne : b ≠ w.heap.size := by omega
  have RN := fun o => ((((HR2.out.other hne.symm 0 (.string (S.extract sz S.size))).other hne.symm 2 (.bool true)).setAll (.int .i64 1) (.bool false) (.int .u64 0) (.int .u64 0) (.int .u64 0) (.int .u64 0) (.int .u64 0) (.string ⟨#[]⟩) (.slice none 0 0) (.slice none 0 0)).alloc o).parts
  have z0 := fun o => (RN o).1
  have z1 := fun o => (RN o).2.1
  have z2 := fun o => (RN o).2.2.1
  have z3 := fun o => (RN o).2.2.2.1
  have z4 := fun o => (RN o).2.2.2.2.1
  have z5 := fun o => (RN o).2.2.2.2.2.1
  have z6 := fun o => (RN o).2.2.2.2.2.2.1
  have z7 := fun o => (RN o).2.2.2.2.2.2.2.1
  have z8 := fun o => (RN o).2.2.2.2.2.2.2.2.1
  have z9 := fun o => (RN o).2.2.2.2.2.2.2.2.2
  clear RN
  have hfin := ((((But.of (B := b) hB2.out).store 0 (.string (S.extract sz S.size))).store 2 (.bool true)).set10 (Nat.le_refl w.heap.size) (.int .i64 1) (.bool false) (.int .u64 0) (.int .u64 0) (.int .u64 0) (.int .u64 0) (.int .u64 0) (.string ⟨#[]⟩) (.slice none 0 0) (.slice none 0 0))
  exact bodyPost_ret (v := .tuple #[VV 1 false 0 0, .bool true]) (by simp [results, Tryz.results41, go_sem, z0, z1, z2, z3, z4, z5, z6, z7, z8, z9, lb_zero]) rfl ⟨rfl, by rw [← HT.out]; exact (((HH2.out.rest _).unrep true).set10 hne _ _ _ _ _ _ _ _ _ _).alloc _, hfin.made hfin.size _⟩
set_option maxHeartbeats 1000000 in
theorem jnum_bad (S T : ByteArray) (sz : Nat) (hsz : sz ≤ S.size) (_hS : S.size ≤ 140737488351232) (b : Nat) (lg un : Bool) (k : Int) (g : Bool) (x : Nat) (y : Int) (w : World) (h : Jr w b S lg un)
    (k1 : ∀ W, Calls Tryz.prog 77 #[.string S] W fun e w' => e = .returned (.int .i64 (sz : Int)) ∧ Below W.heap.size W w')
    (k2 : ∀ W, Below w.heap.size w W → Calls Tryz.prog 78 #[.string (S.extract 0 sz)] W fun e w' => e = .returned (.tuple #[VV k g x y, .int .i64 3]) ∧ Below W.heap.size W w')
    (hT : S.extract sz S.size = T) :
    Calls Tryz.prog 41 #[.pointer (some ⟨b, 0, none⟩)] w fun e w' => e = .returned (.tuple #[VV 1 false 0 0, .bool false]) ∧ Jr w' b T lg un ∧ But w.heap.size b w w' := by
  have K1 := Lib.hid k1; have K2 := Lib.hid k2; have HT := Lib.hid hT
  have H := Lib.hid h
  have hlt := h.lt
  have p0 := fun o => (h.alloc o).parts.1
  clear k1 k2 hT h
  generalize lb 0 x = x0 at *
  generalize lb 1 x = x1 at *
  generalize lb 2 x = x2 at *
  generalize lb 3 x = x3 at *
  go_enter Tryz.func41, Tryz.ntmps41
  go_wp2_with (first
    | (go_at_call 77; ((with_reducible refine (K1.out _).mono ?_); rintro e w1 ⟨rfl, hb⟩; have hB := Lib.hid (dbtr (bal (Below.refl _ w) _) hb); have R1 := RowV.keep hb (RowV.new w _ _ _ _ _ _ _ _ _ _); have H1 := (H.out.alloc _).keep hb; have r0 := H1.parts.1; have HR1 := Lib.hid R1; have HH1 := Lib.hid H1; clear hb R1 H1 p0))
    | (go_at_call 78; ((with_reducible refine (K2.out _ hB.out).mono ?_); rintro e w2 ⟨rfl, hb⟩; have hB2 := Lib.hid (dbtr hB.out hb); have R2 := RowV.keep hb HR1.out; have H2 := HH1.out.keep hb; obtain ⟨q0, q1, q2, g0, g1, g2⟩ := H2.parts; obtain ⟨f0, f1, f2, f3, f4, f5, f6, f7, f8, f9⟩ := R2.free; obtain ⟨t0, t1, t2, t3, t4, t5, t6, t7, t8, t9⟩ := R2.parts; have l2 := H2.lt; have l3 := R2.lt; have HR2 := Lib.hid R2; have HH2 := Lib.hid H2; clear hb R2 H2 r0)))
  have hne : b ≠ w.heap.size := by omega
  have RN := fun o => (((HR2.out.other hne.symm 0 (.string (S.extract sz S.size))).setAll (.int .i64 1) (.bool false) (.int .u64 0) (.int .u64 0) (.int .u64 0) (.int .u64 0) (.int .u64 0) (.string ⟨#[]⟩) (.slice none 0 0) (.slice none 0 0)).alloc o).parts
  have z0 := fun o => (RN o).1
  have z1 := fun o => (RN o).2.1
  have z2 := fun o => (RN o).2.2.1
  have z3 := fun o => (RN o).2.2.2.1
  have z4 := fun o => (RN o).2.2.2.2.1
  have z5 := fun o => (RN o).2.2.2.2.2.1
  have z6 := fun o => (RN o).2.2.2.2.2.2.1
  have z7 := fun o => (RN o).2.2.2.2.2.2.2.1
  have z8 := fun o => (RN o).2.2.2.2.2.2.2.2.1
  have z9 := fun o => (RN o).2.2.2.2.2.2.2.2.2
  clear RN
  have hfin := (((But.of (B := b) hB2.out).store 0 (.string (S.extract sz S.size))).set10 (Nat.le_refl w.heap.size) (.int .i64 1) (.bool false) (.int .u64 0) (.int .u64 0) (.int .u64 0) (.int .u64 0) (.int .u64 0) (.string ⟨#[]⟩) (.slice none 0 0) (.slice none 0 0))
  exact bodyPost_ret (v := .tuple #[VV 1 false 0 0, .bool false]) (by simp [results, Tryz.results41, go_sem, z0, z1, z2, z3, z4, z5, z6, z7, z8, z9, lb_zero]) rfl ⟨rfl, by rw [← HT.out]; exact ((HH2.out.rest _).set10 hne _ _ _ _ _ _ _ _ _ _).alloc _, hfin.made hfin.size _⟩
set_option maxHeartbeats 1000000 in
theorem jnum_ok (S T : ByteArray) (sz : Nat) (hsz : sz ≤ S.size) (_hS : S.size ≤ 140737488351232) (b : Nat) (lg un : Bool) (k : Int) (g : Bool) (x : Nat) (y : Int) (w : World) (h : Jr w b S lg un)
    (k1 : ∀ W, Calls Tryz.prog 77 #[.string S] W fun e w' => e = .returned (.int .i64 (sz : Int)) ∧ Below W.heap.size W w')
    (k2 : ∀ W, Below w.heap.size w W → Calls Tryz.prog 78 #[.string (S.extract 0 sz)] W fun e w' => e = .returned (.tuple #[VV k g x y, .int .i64 0]) ∧ Below W.heap.size W w')
    (hT : S.extract sz S.size = T) :
    Calls Tryz.prog 41 #[.pointer (some ⟨b, 0, none⟩)] w fun e w' => e = .returned (.tuple #[VV k g x y, .bool true]) ∧ Jr w' b T lg un ∧ But w.heap.size b w w' := by
  have K1 := Lib.hid k1; have K2 := Lib.hid k2; have HT := Lib.hid hT
  have H := Lib.hid h
  have hlt := h.lt
  have p0 := fun o => (h.alloc o).parts.1
  clear k1 k2 hT h
  generalize lb 0 x = x0 at *
  generalize lb 1 x = x1 at *
  generalize lb 2 x = x2 at *
  generalize lb 3 x = x3 at *
  go_enter Tryz.func41, Tryz.ntmps41
  go_wp2_with (first
    | (go_at_call 77; ((with_reducible refine (K1.out _).mono ?_); rintro e w1 ⟨rfl, hb⟩; have hB := Lib.hid (dbtr (bal (Below.refl _ w) _) hb); have R1 := RowV.keep hb (RowV.new w _ _ _ _ _ _ _ _ _ _); have H1 := (H.out.alloc _).keep hb; have r0 := H1.parts.1; have HR1 := Lib.hid R1; have HH1 := Lib.hid H1; clear hb R1 H1 p0))
    | (go_at_call 78; ((with_reducible refine (K2.out _ hB.out).mono ?_); rintro e w2 ⟨rfl, hb⟩; have hB2 := Lib.hid (dbtr hB.out hb); have R2 := RowV.keep hb HR1.out; have H2 := HH1.out.keep hb; obtain ⟨q0, q1, q2, g0, g1, g2⟩ := H2.parts; obtain ⟨f0, f1, f2, f3, f4, f5, f6, f7, f8, f9⟩ := R2.free; obtain ⟨t0, t1, t2, t3, t4, t5, t6, t7, t8, t9⟩ := R2.parts; have l2 := H2.lt; have l3 := R2.lt; have HR2 := Lib.hid R2; have HH2 := Lib.hid H2; clear hb R2 H2 r0)))
  have hne : b ≠ w.heap.size := by omega
  have RN := fun o => (((HR2.out.other hne.symm 0 (.string (S.extract sz S.size))).setAll (.int .i64 k) (.bool g) (.int .u64 (lb 0 x)) (.int .u64 (lb 1 x)) (.int .u64 (lb 2 x)) (.int .u64 (lb 3 x)) (.int .u64 y) (.string ⟨#[]⟩) (.slice none 0 0) (.slice none 0 0)).alloc o).parts
  have z0 := fun o => (RN o).1
  have z1 := fun o => (RN o).2.1
  have z2 := fun o => (RN o).2.2.1
  have z3 := fun o => (RN o).2.2.2.1
  have z4 := fun o => (RN o).2.2.2.2.1
  have z5 := fun o => (RN o).2.2.2.2.2.1
  have z6 := fun o => (RN o).2.2.2.2.2.2.1
  have z7 := fun o => (RN o).2.2.2.2.2.2.2.1
  have z8 := fun o => (RN o).2.2.2.2.2.2.2.2.1
  have z9 := fun o => (RN o).2.2.2.2.2.2.2.2.2
  clear RN
  have hfin := (((But.of (B := b) hB2.out).store 0 (.string (S.extract sz S.size))).set10 (Nat.le_refl w.heap.size) (.int .i64 k) (.bool g) (.int .u64 (lb 0 x)) (.int .u64 (lb 1 x)) (.int .u64 (lb 2 x)) (.int .u64 (lb 3 x)) (.int .u64 y) (.string ⟨#[]⟩) (.slice none 0 0) (.slice none 0 0))
  exact bodyPost_ret (v := .tuple #[VV k g x y, .bool true]) (by simp [results, Tryz.results41, go_sem, z0, z1, z2, z3, z4, z5, z6, z7, z8, z9]) rfl ⟨rfl, by rw [← HT.out]; exact ((HH2.out.rest _).set10 hne _ _ _ _ _ _ _ _ _ _).alloc _, hfin.made hfin.size _⟩
end Go.Proofs.YtebfggiodhaahaaGreatDoor
end
section
namespace Go.Proofs.YtebfggiodhaahaaGreatDoor
open Go.RowKit Go.Shelf

theorem issur_any (c f : Nat) (w : World) :
    Calls Tryz.prog 160 #[.int .i64 (c : Int), .int .i64 (f : Int)] w fun e w' => e = .returned (.bool (decide (c / 1024 = f / 1024))) ∧ w' = w := by
  have e1 : (c : Int) / 1024 = ((c / 1024 : Nat) : Int) := by omega
  have e2 : (f : Int) / 1024 = ((f / 1024 : Nat) : Int) := by omega
  have e3 : (((c / 1024 : Nat) : Int) == ((f / 1024 : Nat) : Int)) = decide (c / 1024 = f / 1024) := by
    by_cases h : c / 1024 = f / 1024
    · rw [decide_eq_true h, beq_iff_eq, h]
    · rw [decide_eq_false h, beq_eq_false_iff_ne]; omega
  have H1 := Lib.hid e1; have H2 := Lib.hid e2; have H3 := Lib.hid e3
  clear e1 e2 e3
  go_enter Tryz.func160, Tryz.ntmps160
  go_wp2
  go_ret
  refine ⟨?_, rfl⟩
  show Ending.returned (.bool ((c : Int) / 1024 == (f : Int) / 1024)) = _
  rw [H1.out, H2.out, H3.out]
theorem booltext_no (w : World) : Calls Tryz.prog 32 #[.int .u64 0] w fun e w' => e = .returned (.string ⟨#[102, 97, 108, 115, 101]⟩) ∧ w' = w := by
  go_enter Tryz.func32, Tryz.ntmps32
  go_wp2
  go_ret
  exact ⟨rfl, rfl⟩
theorem booltext_yes (w : World) : Calls Tryz.prog 32 #[.int .u64 1] w fun e w' => e = .returned (.string ⟨#[116, 114, 117, 101]⟩) ∧ w' = w := by
  go_enter Tryz.func32, Tryz.ntmps32
  go_wp2
  go_ret
  exact ⟨rfl, rfl⟩
end Go.Proofs.YtebfggiodhaahaaGreatDoor
end
