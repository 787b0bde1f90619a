/-
  value.outlineOf, value.bare: the contracts.
-/
import Derived.Test.YtfaaagmjmljhiaaGreatDoorValOver
namespace Go.Proofs.YtfaaagmjmljhiaaGreatDoor
open Go.RowKit Go.Shelf

/-- An outline's value. -/
abbrev O10 (k : Int) (g : Bool) (x0 x1 x2 x3 b : Int) (s : ByteArray) (m n : Nat) : Value :=
  .agg #[.int .i64 k, .bool g, .int .u64 x0, .int .u64 x1, .int .u64 x2, .int .u64 x3, .int .u64 b, .string s, .int .i64 (m : Int), .int .i64 (n : Int)]

theorem outline_any (kd : Int) (g : Bool) (x0 x1 x2 x3 b : Int) (s : ByteArray) (la : Option Addr) (n lc : Nat) (ka : Option Addr) (m kc : Nat) (w : World) :
    Calls Tryz.prog 46 #[V10 kd g x0 x1 x2 x3 b s la n lc ka m kc] w fun e w' => e = .returned (O10 kd g x0 x1 x2 x3 b s m n) ∧ Below w.heap.size w w' := by
  go_enter Tryz.func46, Tryz.ntmps46
  go_wp2
  exact bodyPost_ret (v := O10 kd g x0 x1 x2 x3 b s m n) (by simp [results, Tryz.results46, go_sem]) rfl ⟨rfl, bal (bal (Below.refl _ _) _) _⟩
theorem bare_none (kd : Int) (h2 : (kd == 2) = false) (h3 : (kd == 3) = false) (h4 : (kd == 4) = false) (h5 : (kd == 5) = false) (h6 : (kd == 6) = false) (h7 : (kd == 7) = false) (h8 : (kd == 8) = false) (g : Bool) (x0 x1 x2 x3 b : Int) (s : ByteArray) (la : Option Addr) (n lc : Nat) (ka : Option Addr) (m kc : Nat) (w : World) :
    Calls Tryz.prog 47 #[V10 kd g x0 x1 x2 x3 b s la n lc ka m kc] w fun e w' => e = .returned (V10 kd false 0 0 0 0 0 ⟨#[]⟩ none 0 0 none 0 0) ∧ Below w.heap.size w w' := by
  go_enter Tryz.func47, Tryz.ntmps47
  go_wp2
  exact bodyPost_ret (v := V10 kd false 0 0 0 0 0 ⟨#[]⟩ none 0 0 none 0 0) (by simp [results, Tryz.results47, go_sem]) rfl ⟨rfl, by repeat (first | (with_reducible exact Below.refl _ _) | (with_reducible refine bal ?_ _) | (with_reducible refine Below.drew ?_) | (with_reducible refine bdn ?_ _))⟩
theorem bare_k1 (g : Bool) (x0 x1 x2 x3 b : Int) (s : ByteArray) (la : Option Addr) (n lc : Nat) (ka : Option Addr) (m kc : Nat) (w : World) :
    Calls Tryz.prog 47 #[V10 1 g x0 x1 x2 x3 b s la n lc ka m kc] w fun e w' => e = .returned (V10 1 false 0 0 0 0 0 ⟨#[]⟩ none 0 0 none 0 0) ∧ Below w.heap.size w w' := by
  go_enter Tryz.func47, Tryz.ntmps47
  go_wp2
  exact bodyPost_ret (v := V10 1 false 0 0 0 0 0 ⟨#[]⟩ none 0 0 none 0 0) (by simp [results, Tryz.results47, go_sem]) rfl ⟨rfl, by repeat (first | (with_reducible exact Below.refl _ _) | (with_reducible refine bal ?_ _) | (with_reducible refine Below.drew ?_) | (with_reducible refine bdn ?_ _))⟩
theorem bare_k2 (g : Bool) (x0 x1 x2 x3 b : Int) (s : ByteArray) (la : Option Addr) (n lc : Nat) (ka : Option Addr) (m kc : Nat) (w : World) :
    Calls Tryz.prog 47 #[V10 2 g x0 x1 x2 x3 b s la n lc ka m kc] w fun e w' => e = .returned (V10 2 false 0 0 0 0 b ⟨#[]⟩ none 0 0 none 0 0) ∧ Below w.heap.size w w' := by
  go_enter Tryz.func47, Tryz.ntmps47
  go_wp2
  exact bodyPost_ret (v := V10 2 false 0 0 0 0 b ⟨#[]⟩ none 0 0 none 0 0) (by simp [results, Tryz.results47, go_sem]) rfl ⟨rfl, by repeat (first | (with_reducible exact Below.refl _ _) | (with_reducible refine bal ?_ _) | (with_reducible refine Below.drew ?_) | (with_reducible refine bdn ?_ _))⟩
theorem bare_k4 (g : Bool) (x0 x1 x2 x3 b : Int) (s : ByteArray) (la : Option Addr) (n lc : Nat) (ka : Option Addr) (m kc : Nat) (w : World) :
    Calls Tryz.prog 47 #[V10 4 g x0 x1 x2 x3 b s la n lc ka m kc] w fun e w' => e = .returned (V10 4 false 0 0 0 0 b ⟨#[]⟩ none 0 0 none 0 0) ∧ Below w.heap.size w w' := by
  go_enter Tryz.func47, Tryz.ntmps47
  go_wp2
  exact bodyPost_ret (v := V10 4 false 0 0 0 0 b ⟨#[]⟩ none 0 0 none 0 0) (by simp [results, Tryz.results47, go_sem]) rfl ⟨rfl, by repeat (first | (with_reducible exact Below.refl _ _) | (with_reducible refine bal ?_ _) | (with_reducible refine Below.drew ?_) | (with_reducible refine bdn ?_ _))⟩
theorem bare_k3 (g : Bool) (x0 x1 x2 x3 b : Int) (s : ByteArray) (la : Option Addr) (n lc : Nat) (ka : Option Addr) (m kc : Nat) (w : World) :
    Calls Tryz.prog 47 #[V10 3 g x0 x1 x2 x3 b s la n lc ka m kc] w fun e w' => e = .returned (V10 3 g x0 x1 x2 x3 0 ⟨#[]⟩ none 0 0 none 0 0) ∧ Below w.heap.size w w' := by
  go_enter Tryz.func47, Tryz.ntmps47
  go_wp2
  exact bodyPost_ret (v := V10 3 g x0 x1 x2 x3 0 ⟨#[]⟩ none 0 0 none 0 0) (by simp [results, Tryz.results47, go_sem]) rfl ⟨rfl, by repeat (first | (with_reducible exact Below.refl _ _) | (with_reducible refine bal ?_ _) | (with_reducible refine Below.drew ?_) | (with_reducible refine bdn ?_ _))⟩
theorem bare_k5 (g : Bool) (x0 x1 x2 x3 b : Int) (s : ByteArray) (la : Option Addr) (n lc : Nat) (ka : Option Addr) (m kc : Nat) (w : World) :
    Calls Tryz.prog 47 #[V10 5 g x0 x1 x2 x3 b s la n lc ka m kc] w fun e w' => e = .returned (V10 5 false 0 0 0 0 0 s none 0 0 none 0 0) ∧ Below w.heap.size w w' := by
  go_enter Tryz.func47, Tryz.ntmps47
  go_wp2
  exact bodyPost_ret (v := V10 5 false 0 0 0 0 0 s none 0 0 none 0 0) (by simp [results, Tryz.results47, go_sem]) rfl ⟨rfl, by repeat (first | (with_reducible exact Below.refl _ _) | (with_reducible refine bal ?_ _) | (with_reducible refine Below.drew ?_) | (with_reducible refine bdn ?_ _))⟩
theorem bare_k6 (g : Bool) (x0 x1 x2 x3 b : Int) (s : ByteArray) (la : Option Addr) (n lc : Nat) (ka : Option Addr) (m kc : Nat) (w : World) :
    Calls Tryz.prog 47 #[V10 6 g x0 x1 x2 x3 b s la n lc ka m kc] w fun e w' => e = .returned (V10 6 false 0 0 0 0 0 s none 0 0 none 0 0) ∧ Below w.heap.size w w' := by
  go_enter Tryz.func47, Tryz.ntmps47
  go_wp2
  exact bodyPost_ret (v := V10 6 false 0 0 0 0 0 s none 0 0 none 0 0) (by simp [results, Tryz.results47, go_sem]) rfl ⟨rfl, by repeat (first | (with_reducible exact Below.refl _ _) | (with_reducible refine bal ?_ _) | (with_reducible refine Below.drew ?_) | (with_reducible refine bdn ?_ _))⟩
theorem bare_k7 (g : Bool) (x0 x1 x2 x3 b : Int) (s : ByteArray) (la : Option Addr) (n lc : Nat) (ka : Option Addr) (m kc : Nat) (w : World) :
    Calls Tryz.prog 47 #[V10 7 g x0 x1 x2 x3 b s la n lc ka m kc] w fun e w' => e = .returned (V10 7 false 0 0 0 0 0 ⟨#[]⟩ la n lc none 0 0) ∧ Below w.heap.size w w' := by
  go_enter Tryz.func47, Tryz.ntmps47
  go_wp2
  exact bodyPost_ret (v := V10 7 false 0 0 0 0 0 ⟨#[]⟩ la n lc none 0 0) (by simp [results, Tryz.results47, go_sem]) rfl ⟨rfl, by repeat (first | (with_reducible exact Below.refl _ _) | (with_reducible refine bal ?_ _) | (with_reducible refine Below.drew ?_) | (with_reducible refine bdn ?_ _))⟩
theorem bare_k8 (g : Bool) (x0 x1 x2 x3 b : Int) (s : ByteArray) (la : Option Addr) (n lc : Nat) (ka : Option Addr) (m kc : Nat) (w : World) :
    Calls Tryz.prog 47 #[V10 8 g x0 x1 x2 x3 b s la n lc ka m kc] w fun e w' => e = .returned (V10 8 false 0 0 0 0 0 ⟨#[]⟩ la n lc ka m kc) ∧ Below w.heap.size w w' := by
  go_enter Tryz.func47, Tryz.ntmps47
  go_wp2
  go_region
  all_goals
    go_wp2
    exact bodyPost_ret (v := V10 8 false 0 0 0 0 0 ⟨#[]⟩ la n lc ka m kc) (by simp [results, Tryz.results47, go_sem]) rfl ⟨rfl, by repeat (first | (with_reducible exact Below.refl _ _) | (with_reducible refine bal ?_ _) | (with_reducible refine Below.drew ?_) | (with_reducible refine bdn ?_ _))⟩
end Go.Proofs.YtfaaagmjmljhiaaGreatDoor
