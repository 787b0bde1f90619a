/-
  JsLim JsApp, one behind the other: a claim holds at most 60 files.
-/
import Derived.Test.YtebfggiodhaahaaGreatDoorCbOwn
import Derived.Test.YtebfggiodhaahaaGreatDoorGM
import Derived.Lib.AppendStr
import Derived.Deep.AppendLies
import Derived.Laws.Rows
section
namespace Go.Proofs.YtebfggiodhaahaaGreatDoor
open Go.RowKit Go.Shelf
set_option linter.unusedVariables false

theorem cell_same {w w' : World} {a : Addr} {v : Value} (h : w'.heap[a.block]? = w.heap[a.block]?) (hc : w.cell? a = some v) : w'.cell? a = some v := by
  unfold World.cell? at hc ⊢
  rw [h]
  exact hc
/-- Such as may be, with numbers in bounds. -/
def Good (T : VT) : Prop := hasT wrongT T = false ∧ T.Every fun o => o.x < 2 ^ 256
theorem Good.kid {o : Own} {l : List VT} (h : Good (.mk o l)) {t : VT} (ht : t ∈ l) : Good t := ⟨(hasT_false h.1).2 t ht, h.2.mem ht⟩
theorem Good.own {o : Own} {l : List VT} (h : Good (.mk o l)) : ownB o l.length = true := by
  have := (hasT_false h.1).1
  unfold wrongT at this
  simpa using this
theorem eqO_parts {k : Int} {g : Bool} {a0 a1 a2 a3 b : Int} {s : ByteArray} {m n k' : Int} {h : Bool} {b0 b1 b2 b3 b' : Int} {s' : ByteArray} {m' n' : Int} :
    eqO k g a0 a1 a2 a3 b s m n k' h b0 b1 b2 b3 b' s' m' n' = true ↔ k = k' ∧ eq5 g a0 a1 a2 a3 h b0 b1 b2 b3 = true ∧ b = b' ∧ s.toList = s'.toList ∧ m = m' ∧ n = n' := by
  simp [eqO]
theorem eq5_zero {g : Bool} {x : Nat} (hx : x < 2 ^ 256) (h : eq5 g (lb 0 x) (lb 1 x) (lb 2 x) (lb 3 x) false 0 0 0 0 = true) : g = false ∧ x = 0 := by
  have := eq5_int g false x 0 hx (by decide)
  simp only [lb_zero] at this
  rw [this] at h
  exact of_decide_eq_true h
theorem own_kind {o : Own} {n : Nat} (h : ownB o n = true) : o.kind = 1 ∨ o.kind = 2 ∨ o.kind = 3 ∨ o.kind = 4 ∨ o.kind = 5 ∨ o.kind = 6 ∨ o.kind = 7 ∨ o.kind = 8 := by
  have h2 : restB o n = true := by unfold ownB at h; rw [Bool.and_eq_true] at h; exact h.2
  unfold restB at h2
  split at h2; · omega
  split at h2; · omega
  split at h2; · omega
  split at h2; · omega
  split at h2; · omega
  split at h2; · omega
  cases h2
theorem own_okI {o : Own} {n : Nat} (h : ownB o n = true) (hx : o.x < 2 ^ 256) (h3 : o.kind = 3) : ¬ (o.g = true ∧ o.x = 0) := by
  have h2 : restB o n = true := by unfold ownB at h; rw [Bool.and_eq_true] at h; exact h.2
  unfold restB at h2
  rw [if_neg (by omega), if_neg (by omega), if_pos h3] at h2
  unfold okI at h2
  have := eq5_int o.g true o.x 0 hx (by decide)
  simp only [lb_zero] at this
  rw [this] at h2
  intro h0
  rw [decide_eq_true h0] at h2
  cases h2
theorem und_str : Tryz.prog.underlying 9 = some .string := by kernel_rfl
/-- The law of the library, and where the new value lies. -/
theorem run_append_text (w : World) (base : Nat) (ty : TypeId) (v : Value) (l : List UInt8) (h : Bo w base v l) (s : ByteArray) (hsz : l.length + s.size ≤ 140737488355328) (hbase : base ≤ w.heap.size) :
    ∃ v' w', (Builtin.append_ #[22, 9] ty #[v, .string s]).run Tryz.prog w = .ok v' w' ∧ Bo w' base v' (l ++ s.data.toList) ∧ Onto w w' v v' := by
  obtain ⟨i0, hi, hz0, hz1, hz2⟩ := info_at info_u8
  have hm : l.length + s.size ≤ maxLen := by unfold maxLen; omega
  obtain ⟨v', w', hr, h2, h3, h4⟩ := Lib.run_append_own_string (P := Tryz.prog) w base 22 9 ty 5 i0 und_u8s und_str hi hz0 hz1 hz2 v l.length (U8s l) h s hm hsz hbase
  have hsl : s.size = s.data.toList.length := by rw [Array.length_toList]; rfl
  refine ⟨v', w', hr, ?_, h3, ?_⟩
  · unfold Bo
    rw [U8s_app, List.length_append, ← hsl]
    exact h2
  · rcases h.2 with ⟨rfl, h0⟩ | ⟨g, cap, cur, rfl, hbg, hg, hnc, hcm, hcs, htake⟩
    · by_cases hs : s.size = 0
      · rw [h4.2 ⟨rfl, hs⟩]; exact Or.inl rfl
      · have hr2 := run_append_nil_string (P := Tryz.prog) w 22 9 ty 5 i0 (.int .u8 0) und_u8s und_str hi hz0 s (by omega) (by omega) (by rw [hz2]; omega)
        rw [hr2] at hr
        simp only [Result.ok.injEq] at hr
        rw [← hr.1]
        exact Or.inr ⟨_, rfl, Nat.le_refl _⟩
    · by_cases hroom : l.length + s.size ≤ cap
      · have hr2 := Lib.run_append_room_string (P := Tryz.prog) w 22 9 ty 5 i0 und_u8s und_str hi hz1 g l.length cap cur hg s hroom (by omega)
        rw [hr2] at hr
        simp only [Result.ok.injEq] at hr
        rw [← hr.1]
        exact Or.inl rfl
      · have hr2 := Lib.run_append_grow_string (P := Tryz.prog) w 22 9 ty 5 i0 (.int .u8 0) und_u8s und_str hi hz0 ⟨g, 0, none⟩ l.length cap (U8s l) (by rw [hz1]; simp) (World.ownsRow.cells h (g := g) rfl) s (by omega) (by unfold maxLen at hm; omega) (by rw [hz2]; exact growslice_fits (by omega) (by omega))
        rw [hr2] at hr
        simp only [Result.ok.injEq] at hr
        rw [← hr.1]
        exact Or.inr ⟨_, rfl, Nat.le_refl _⟩
/-- At the operation. -/
theorem wpList_append_text {ops : Array Oper} {rest : List Oper} {o : Oper} {a : Act} {Q : Exit → Act → World → Prop} (w : World) (hgd : o.guard = none) (sl x : Operand)
    (ho : o.op = .call { callee := .builtin .append, args := #[sl, x], argTypes := #[22, 9] }) (base : Nat) (v : Value) (l : List UInt8) (hs : a.eval sl = v) (hb : Bo w base v l) (s : ByteArray) (hx : a.eval x = .string s)
    (hsz : l.length + s.size ≤ 140737488355328) (hbase : base ≤ w.heap.size)
    (h : ∀ v' w', Bo w' base v' (l ++ s.data.toList) → Onto w w' v v' → wpList Tryz.prog ops Q rest (a.put o.dst v') w') : wpList Tryz.prog ops Q (o :: rest) a w := by
  refine wpList_plain hgd fun K hK => ?_
  obtain ⟨v', w', hr, h2, h3⟩ := run_append_text w base o.type v l hb s hsz hbase
  unfold Oper.wp execOp
  simp only [ho, resolve, invoke, builtin, Sem.run_bind, Sem.run_pure, Result.andThen_ok, List.map_toArray, List.map_cons, List.map_nil, hs, hx, hr]
  exact hK _ _ (h v' w' h2 h3)
/-- What is r behind l, of f, where what is above 65536 bytes may be broken off. -/
def Lim (l f r : List UInt8) (M : Nat) : Prop := (l.length + f.length ≤ 65536 → r = l ++ f) ∧ (65536 < l.length + f.length → 65536 < r.length) ∧ r.length ≤ max l.length 65536 + M
theorem Lim.leaf {l f : List UInt8} {M : Nat} (h : f.length ≤ M) : Lim l f (l ++ f) M := ⟨fun _ => rfl, fun h2 => by rw [List.length_append]; exact h2, by rw [List.length_append]; omega⟩
theorem Lim.next {l f r g s : List UInt8} {M N : Nat} (h : Lim l f r M) (hr : r.length ≤ 65536) (k : Lim r g s N) (hN : N ≤ M) : Lim l (f ++ g) s M := by
  have h1 : l.length + f.length ≤ 65536 := by
    rcases Nat.lt_or_ge 65536 (l.length + f.length) with h2 | h2
    · have := h.2.1 h2; omega
    · exact h2
  obtain rfl := h.1 h1
  rw [List.length_append] at hr
  have k1 := k.1; have k2 := k.2.1; have k3 := k.2.2
  rw [List.length_append] at k1 k2 k3
  refine ⟨fun h2 => ?_, fun h2 => ?_, by omega⟩
  · rw [List.length_append] at h2
    rw [k1 (by omega), List.append_assoc]
  · rw [List.length_append] at h2
    exact k2 (by omega)
theorem Lim.stop {l f r : List UInt8} {M : Nat} (h : Lim l f r M) (hr : 65536 < r.length) (g : List UInt8) : Lim l (f ++ g) r M := by
  refine ⟨fun h2 => ?_, fun _ => hr, h.2.2⟩
  rw [List.length_append] at h2
  have := congrArg List.length (h.1 (by omega))
  rw [List.length_append] at this
  omega
theorem Lim.ahead {r k g s : List UInt8} {M N : Nat} (h : Lim (r ++ k) g s N) (hr : r.length ≤ 65536) (hk : k.length + N ≤ M) : Lim r (k ++ g) s M := by
  have h1 := h.1; have h2 := h.2.1; have h3 := h.2.2
  rw [List.length_append] at h1 h2 h3
  refine ⟨fun h4 => ?_, fun h4 => ?_, by omega⟩
  · rw [List.length_append] at h4
    rw [h1 (by omega), List.append_assoc]
  · rw [List.length_append] at h4
    exact h2 (by omega)
theorem Lim.mono {l f r : List UInt8} {M N : Nat} (h : Lim l f r M) (hM : M ≤ N) : Lim l f r N := ⟨h.1, h.2.1, by have := h.2.2; omega⟩
/-- From an empty row on. -/
theorem Lim.told {f r : List UInt8} {M : Nat} (h : Lim [] f r M) : (f.length ≤ 65536 → r = f) ∧ (65536 < f.length → 65536 < r.length) ∧ r.length ≤ 65536 + M := by
  have h1 := h.1; have h2 := h.2.1; have h3 := h.2.2
  simp only [List.length_nil, Nat.zero_add, List.nil_append] at h1 h2 h3
  exact ⟨h1, h2, by omega⟩
theorem flat_next {α : Type} {E : List (List α)} {k : Nat} {e : List α} (h : E[k]? = some e) : (E.take (k + 1)).flatten = (E.take k).flatten ++ e := by
  rw [take_next h, List.flatten_append]; simp
theorem flat_rest {α : Type} (E : List (List α)) (k : Nat) : E.flatten = (E.take k).flatten ++ (E.drop k).flatten := by
  conv => lhs; rw [← List.take_append_drop k E]
  rw [List.flatten_append]
/-- Such as may be: not too great, not wrong, anywhere. -/
def Gd (T : VT) : Prop := hasT overT T = false ∧ Good T
theorem Gd.kid {o : Own} {l : List VT} (h : Gd (.mk o l)) {t : VT} (ht : t ∈ l) : Gd t := ⟨(hasT_false h.1).2 t ht, h.2.kid ht⟩
theorem Gd.over {o : Own} {l : List VT} (h : Gd (.mk o l)) : overB o l.length = false := (hasT_false h.1).1
theorem every_x {W : World} : ∀ {T : VT}, T.In W → T.Every fun o => o.x < 2 ^ 256 := by
  intro T
  induction T using VT.ind with
  | h o kids ih =>
    intro h
    exact .mk o kids h.wf.2.1 fun t ht => ih t ht (h.mem ht)
theorem gd_of {T : VT} {W : World} (hI : T.In W) (hm : mayN T = 0) : Gd T ∧ T.depth ≤ 16 := by
  unfold mayN at hm
  split at hm
  · cases hm
  · split at hm
    · cases hm
    · split at hm
      · cases hm
      · rename_i h1 h2 h3
        exact ⟨⟨by simpa using h2, by simpa using h3, every_x hI⟩, by omega⟩
theorem Lim.pos {r f s : List UInt8} {M : Nat} (h : Lim r f s M) (hr : 0 < r.length) : 0 < s.length := by
  rcases Nat.lt_or_ge 65536 (r.length + f.length) with h1 | h1
  · have := h.2.1 h1; omega
  · rw [h.1 h1, List.length_append]; omega
theorem below_le {M N : Nat} {w w' : World} (h : Below N w w') (hM : M ≤ N) : Below M w w' := ⟨h.os, h.tape, h.output, h.size, fun k hk => h.block k (Nat.lt_of_lt_of_le hk hM)⟩
theorem below_seq {N : Nat} {a b c : World} (h : Below N a b) (k : Below N b c) : Below N a c := ⟨k.os.trans h.os, k.tape.trans h.tape, k.output.trans h.output, Nat.le_trans h.size k.size, fun j hj => (k.block j hj).trans (h.block j hj)⟩
theorem Onto.cell {w w' : World} {v v' : Value} (h : Onto w w' v v') {a : Addr} {x : Value} (hc : w.cell? a = some x) (hne : some a.block ≠ v.ownBlock) : w'.cell? a = some x := cell_same (h.grown.block a.block (cell_lt hc) hne) hc
theorem bytes_len (s : ByteArray) : s.data.toList.length = s.size := by rw [Array.length_toList]; rfl
section
variable {o : Own} {n : Nat}
theorem over_5 (h : o.kind = 5 ∨ o.kind = 6) (ho : overB o n = false) : o.text.size ≤ 4096 := by
  unfold overB at ho
  rw [if_pos h] at ho
  have := of_decide_eq_false ho
  omega
theorem over_7 (h : o.kind = 7) (ho : overB o n = false) : n ≤ 1000 := by
  unfold overB at ho
  rw [if_neg (by omega), if_pos h] at ho
  have := of_decide_eq_false ho
  omega
theorem over_8 (h : o.kind = 8) (ho : overB o n = false) : o.keys.length ≤ 1000 ∧ n ≤ 1000 ∧ ∀ s ∈ o.keys, s.size ≤ 4096 := by
  unfold overB at ho
  rw [if_neg (by omega), if_neg (by omega), if_pos h, Bool.or_eq_false_iff, List.any_eq_false] at ho
  have h1 := of_decide_eq_false ho.1
  refine ⟨by omega, by omega, fun s hs => ?_⟩
  have := ho.2 s hs
  simp at this
  exact this
theorem rest_2 (h : o.kind = 2) (hr : restB o n = true) : o.bits ≤ 1 := by
  unfold restB at hr
  rw [if_neg (by omega), if_pos h] at hr
  simp at hr
  exact hr
theorem rest_8 (h : o.kind = 8) (hr : restB o n = true) : o.keys.length = n ∧ namesB o.keys = true := by
  unfold restB at hr
  rw [if_neg (by omega), if_neg (by omega), if_neg (by omega), if_neg (by omega), if_neg (by omega), if_pos h, Bool.and_eq_true] at hr
  exact ⟨of_decide_eq_true hr.1, hr.2⟩
end
theorem Bo.some {W : World} {base : Nat} {v : Value} {l : List UInt8} (h : Bo W base v l) (hl : 0 < l.length) : ∃ g cap, v = .slice (some ⟨g, 0, none⟩) l.length cap ∧ base ≤ g ∧ g < W.heap.size ∧ l.length ≤ cap ∧ cap ≤ maxLen ∧ ∀ i b, l[i]? = some b → W.cell? ⟨g, i, none⟩ = some (.int .u8 (b.toNat : Int)) := by
  rcases h.form with ⟨rfl, _⟩ | h
  · simp at hl
  · exact h
/-- A slice of bytes lies in memory. -/
def BytesAt (W : World) (gg off : Nat) (l : List UInt8) : Prop := ∀ i b, l[i]? = some b → W.cell? ⟨gg, off + i, none⟩ = some (.int .u8 (b.toNat : Int))
theorem BytesAt.keep {W W' : World} {gg off : Nat} {l : List UInt8} (h : BytesAt W gg off l) (hb : Below W.heap.size W W') : BytesAt W' gg off l := fun i b hi => cell_keep hb (h i b hi)
theorem conv_bytes (W : World) (gg off cap : Nat) (l : List UInt8) (h : BytesAt W gg off l) (N : Nat) (hN : l.length = N) :
    (convert 22 9 (.slice (some ⟨gg, off, none⟩) N cap)).run Tryz.prog W = .ok (.string (str l)) W := by
  have h1 := run_convert_bytes_arg (P := Tryz.prog) W 22 5 (by kernel_rfl) (by kernel_rfl) gg off N cap (l.map fun b => (b.toNat : Int)) (by rw [List.length_map]; exact hN) (fun i hi => by
    have hi2 : i < l.length := by omega
    rw [h i l[i] (List.getElem?_eq_getElem hi2)]
    simp [List.getD, List.getElem?_eq_getElem hi2]) 9 (by kernel_rfl)
  have e : strOfNums (l.map fun b => (b.toNat : Int)) = str l := by
    apply str_ext
    rw [strOfNums_data, str_data, List.map_map]
    conv => rhs; rw [← List.map_id l]
    apply List.map_congr_left
    intro b _
    simp
  rw [h1, e]
end Go.Proofs.YtebfggiodhaahaaGreatDoor
end
section
namespace Go.Proofs.YtebfggiodhaahaaGreatDoor
open Go.RowKit Go.Shelf
set_option linter.unusedVariables false

/-- A slice of bytes as cells of a block. -/
def LitB (W : World) (g : Nat) (m : List UInt8) : Prop := ∀ (j : Nat) (b : UInt8), m[j]? = some b → W.cell? ⟨g, j, none⟩ = some (.int .u8 (b.toNat : Int))
theorem LitB.of {W : World} {g : Nat} {t : TypeId} {cs : Array Value} (h : W.heap[g]? = some (.cells cs t (0, 0))) {m : List UInt8} (e : cs.toList = U8s m) : LitB W g m := by
  intro j b hj
  have h1 := World.news_of_block h j (.int .u8 (b.toNat : Int)) (by rw [e]; unfold U8s; rw [List.getElem?_map, hj]; rfl)
  rwa [addr_add, Nat.zero_add] at h1
theorem LitB.keep {W W' : World} {g : Nat} {m : List UInt8} (h : LitB W g m) (hb : Below W.heap.size W W') : LitB W' g m := fun j b hj => cell_keep hb (h j b hj)
theorem run_append_bytes (w : World) (base : Nat) (ty : TypeId) (v : Value) (l : List UInt8) (h : Bo w base v l) (g c n : Nat) (m : List UInt8) (hn : m.length = n) (hn0 : 0 < n) (hc : LitB w g m) (N : Nat) (hN : l.length + n = N) (hsz : N ≤ 1000000) (hbase : base ≤ w.heap.size) :
    ∃ q cap w', (Builtin.append_ #[22, 22] ty #[v, .slice (some ⟨g, 0, none⟩) n c]).run Tryz.prog w = .ok (.slice (some ⟨q, 0, none⟩) N cap) w' ∧ Bo w' base (.slice (some ⟨q, 0, none⟩) N cap) (l ++ m) ∧ Onto w w' v (.slice (some ⟨q, 0, none⟩) N cap) := by
  subst hn hN
  obtain ⟨i0, hi, hz0, hz1, hz2⟩ := info_at info_u8
  obtain ⟨q, cap, w', hr, hown, hg, hat, _⟩ := run_append_lies (P := Tryz.prog) w 22 ty base 5 i0 (.int .u8 0) 1 1 und_u8s hi hz0 hz1 hz2 rfl (by decide) v l.length (U8s l) h ⟨g, 0, none⟩ m.length c (U8s m) (by simp) (fun j u hj => by
      unfold U8s at hj
      rw [List.getElem?_map] at hj
      cases hm : m[j]? with
      | none => rw [hm] at hj; cases hj
      | some b =>
        rw [hm] at hj
        simp at hj
        subst hj
        rw [addr_add, Nat.zero_add]
        exact hc j b hm) (U8s_one m) hn0 (by unfold maxLen; omega) (by omega) hbase w.heap.size rfl
  refine ⟨q, cap, w', hr, ?_, (Onto.refl w v).app _ _ hg hat (Nat.le_refl _)⟩
  unfold Bo
  rw [U8s_app, List.length_append]
  exact hown
theorem wpList_append_bytes {ops : Array Oper} {rest : List Oper} {o : Oper} {a : Act} {Q : Exit → Act → World → Prop} (w : World) (hgd : o.guard = none) (sl x : Operand)
    (ho : o.op = .call { callee := .builtin .append, args := #[sl, x], argTypes := #[22, 22] }) (base : Nat) (v : Value) (l : List UInt8) (hs : a.eval sl = v) (hb : Bo w base v l) (g c n : Nat) (m : List UInt8) (hx : a.eval x = .slice (some ⟨g, 0, none⟩) n c)
    (hn : m.length = n) (hn0 : 0 < n) (hc : LitB w g m) (N : Nat) (hN : l.length + n = N) (hsz : N ≤ 1000000) (hbase : base ≤ w.heap.size)
    (h : ∀ q cap w', Bo w' base (.slice (some ⟨q, 0, none⟩) N cap) (l ++ m) → Onto w w' v (.slice (some ⟨q, 0, none⟩) N cap) → wpList Tryz.prog ops Q rest (a.put o.dst (.slice (some ⟨q, 0, none⟩) N cap)) w') : wpList Tryz.prog ops Q (o :: rest) a w := by
  refine wpList_plain hgd fun K hK => ?_
  obtain ⟨q, cap, w', hr, h2, h3⟩ := run_append_bytes w base o.type v l hb g c n m hn hn0 hc N hN hsz hbase
  unfold Oper.wp execOp
  simp only [ho, resolve, invoke, builtin, Sem.run_bind, Sem.run_pure, Result.andThen_ok, List.map_toArray, List.map_cons, List.map_nil, hs, hx, hr]
  exact hK _ _ (h q cap w' h2 h3)
theorem step_append_bytes {w : World} {ops : Array Oper} {o : Oper} {a : Act} {K : Act → World → Prop} {Q : Exit → Act → World → Prop} {E : Prop} (hgd : o.guard = none) (s x : Operand)
    (ho : o.op = .call { callee := .builtin .append, args := #[s, x], argTypes := #[22, 22] })
    (base : Nat) (v : Value) (l : List UInt8) (hs : a.eval s = v) (hown : Bo w base v l) (g c n : Nat) (m : List UInt8) (hx : a.eval x = .slice (some ⟨g, 0, none⟩) n c)
    (hn : m.length = n) (hn0 : 0 < n) (hc : LitB w g m) (N : Nat) (hN : l.length + n = N) (hsz : N ≤ 1000000) (hbase : base ≤ w.heap.size)
    (h : ∀ q cap w', Bo w' base (.slice (some ⟨q, 0, none⟩) N cap) (l ++ m) → Onto w w' v (.slice (some ⟨q, 0, none⟩) N cap) → K (a.put o.dst (.slice (some ⟨q, 0, none⟩) N cap)) w') :
    if Region.wanted o (yielded ops a.tmps) = true then Oper.wp Tryz.prog o a w K Q else E := by
  have hw : Region.wanted o (yielded ops a.tmps) = true := by simp [Region.wanted, hgd]
  rw [if_pos hw]
  obtain ⟨q, cap, w', hr, h2, h3⟩ := run_append_bytes w base o.type v l hown g c n m hn hn0 hc N hN hsz hbase
  unfold Oper.wp execOp
  simp only [ho, resolve, invoke, builtin, Sem.run_bind, Sem.run_pure, Result.andThen_ok, List.map_toArray, List.map_cons, List.map_nil, hs, hx, hr]
  exact h q cap w' h2 h3
theorem Bo.drew {W : World} {base : Nat} {v : Value} {l : List UInt8} (h : Bo W base v l) : Bo W.drew base v l := h
theorem Bo.mono {W : World} {base base' : Nat} {v : Value} {l : List UInt8} (h : Bo W base v l) (hb : base' ≤ base) : Bo W base' v l := by
  refine ⟨h.1, ?_⟩
  rcases h.2 with h2 | ⟨g, cap, cur, h3, h4, h5, h6⟩
  · exact Or.inl h2
  · exact Or.inr ⟨g, cap, cur, h3, Nat.le_trans hb h4, h5, h6⟩
theorem Onto.drew {w w' : World} {v v' : Value} (h : Onto w w' v v') : Onto w w'.drew v v' := ⟨⟨h.grown.os, h.grown.tape, h.grown.output, h.grown.size, h.grown.block⟩, h.lies⟩
theorem hnewB {W : World} {o : Obj} {B : Nat} (h : W.heap.size = B) : (W.alloc o).heap[B]? = some o := by subst h; exact heap_alloc_new W o
theorem holdB {W : World} {o o' : Obj} {B : Nat} (h : W.heap[B]? = some o) : (W.alloc o').heap[B]? = some o := (Below.heap_alloc W o' B (Array.getElem?_eq_some_iff.1 h).1).trans h
theorem hdrwB {W : World} {o : Obj} {B : Nat} (h : W.heap[B]? = some o) : W.drew.heap[B]? = some o := h
theorem hontB {W W' : World} {v v' : Value} {o : Obj} {B : Nat} (hO : Onto W W' v v') (h : W.heap[B]? = some o) (hne : some B ≠ v.ownBlock) : W'.heap[B]? = some o := (hO.grown.block B (Array.getElem?_eq_some_iff.1 h).1 hne).trans h
/-- The row's block is none that was made behind it, nor one that lay below the base. -/
theorem Bo.away {W : World} {base : Nat} {v : Value} {l : List UInt8} (h : Bo W base v l) {c : Nat} (hc : W.heap.size ≤ c ∨ c < base) : Option.some c ≠ v.ownBlock := by
  intro e
  have := World.ownsRow.lt h c e.symm
  omega
/-- A block that the row's block is not, and that was there: it is none of the rows that follow. -/
theorem Onto.apart {w w' : World} {v v' : Value} (h : Onto w w' v v') {c : Nat} (hc : c < w.heap.size) (hne : some c ≠ v.ownBlock) : some c ≠ v'.ownBlock := by
  rcases h.lies with e | ⟨g, e, hg⟩
  · rw [e]; exact hne
  · rw [e]; intro he; have := Option.some.inj he; omega
theorem own_below {W : World} {base : Nat} {v : Value} {l : List UInt8} (h : Bo W base v l) {c : Nat} (hc : c < base) : some c ≠ v.ownBlock := h.away (Or.inr hc)
/-- What is put ahead of, and behind, what is broken off where it is too long. -/
theorem Lim.close {l a f b r : List UInt8} {M N : Nat} (h : Lim (l ++ a) f r N) (hM : a.length + b.length + N ≤ M) : Lim l (a ++ f ++ b) (r ++ b) M := by
  have h1 := h.1; have h2 := h.2.1; have h3 := h.2.2
  simp only [List.length_append] at h1 h2 h3
  refine ⟨fun h4 => ?_, fun h4 => ?_, ?_⟩
  · simp only [List.length_append] at h4
    rw [h1 (by omega)]
    simp
  · simp only [List.length_append] at h4 ⊢
    rcases Nat.lt_or_ge 65536 (l.length + a.length + f.length) with h5 | h5
    · have := h2 h5; omega
    · rw [h1 h5]; simp only [List.length_append]; omega
  · rw [List.length_append]; omega
end Go.Proofs.YtebfggiodhaahaaGreatDoor
end
