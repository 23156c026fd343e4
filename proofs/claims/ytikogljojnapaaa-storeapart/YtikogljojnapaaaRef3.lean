/- Rows are cut and put together. -/
import Derived.Test.YtikogljojnapaaaRef2
namespace Go.Proofs.Ytikogljojnapaaa
open Go.RowKit

/-! ### order of texts -/
theorem bb_asym : ∀ a b : List UInt8, bytesBefore a b = true → bytesBefore b a = false
  | [], [], h => by simp [bytesBefore] at h
  | [], _ :: _, _ => rfl
  | _ :: _, [], h => by simp [bytesBefore] at h
  | a :: r, b :: s, h => by
    simp only [bytesBefore, Bool.or_eq_true, Bool.and_eq_true, decide_eq_true_eq, beq_iff_eq, Bool.or_eq_false_iff, Bool.and_eq_false_iff, decide_eq_false_iff_not, beq_eq_false_iff_ne, ne_eq] at h ⊢
    rcases h with h | ⟨rfl, h⟩
    · have h1 := UInt8.lt_iff_toNat_lt.1 h
      refine ⟨fun h2 => ?_, .inl (fun e => ?_)⟩
      · have := UInt8.lt_iff_toNat_lt.1 h2
        omega
      · subst e
        omega
    · exact ⟨fun h2 => by have := UInt8.lt_iff_toNat_lt.1 h2; omega, .inr (bb_asym r s h)⟩
theorem bb_tri : ∀ a b : List UInt8, bytesBefore a b = false → a ≠ b → bytesBefore b a = true
  | [], [], _, h => absurd rfl h
  | [], _ :: _, h, _ => by simp [bytesBefore] at h
  | _ :: _, [], _, _ => rfl
  | a :: r, b :: s, h, hne => by
    simp only [bytesBefore, Bool.or_eq_false_iff, Bool.and_eq_false_iff, decide_eq_false_iff_not, beq_eq_false_iff_ne, ne_eq, Bool.or_eq_true, Bool.and_eq_true, decide_eq_true_eq, beq_iff_eq] at h ⊢
    obtain ⟨h1, h2⟩ := h
    by_cases hab : a = b
    · subst hab
      right
      refine ⟨rfl, bb_tri r s ?_ (fun e => hne (by rw [e]))⟩
      rcases h2 with h2 | h2
      · exact absurd rfl h2
      · exact h2
    · left
      rw [UInt8.lt_iff_toNat_lt] at h1 ⊢
      have : a.toNat ≠ b.toNat := fun e => hab (UInt8.toNat_inj.1 e)
      omega
theorem bl_eq : ∀ a b : List UInt8, Op.bytesLess a b = bytesBefore a b
  | [], [] => rfl
  | [], _ :: _ => rfl
  | _ :: _, [] => rfl
  | a :: r, b :: s => by simp only [Op.bytesLess, bytesBefore, bl_eq r s]
theorem insM_split {α : Type} (x : Txt × α) : ∀ (P : List (Txt × α)) (i : Nat), i ≤ P.length → (∀ j q, j < i → P[j]? = some q → bytesBefore q.1 x.1 = true) → (∀ q, P[i]? = some q → bytesBefore q.1 x.1 = false ∧ q.1 ≠ x.1) → insM x P = P.take i ++ x :: P.drop i
  | [], 0, _, _, _ => rfl
  | [], i + 1, h, _, _ => by simp at h
  | y :: P, 0, _, _, h2 => by
    obtain ⟨h3, h4⟩ := h2 y rfl
    unfold insM
    rw [if_pos (bb_tri _ _ h3 h4)]
    rfl
  | y :: P, i + 1, h, h1, h2 => by
    have h3 := h1 0 y (by omega) rfl
    unfold insM
    rw [if_neg (by rw [bb_asym _ _ h3]; simp), insM_split x P i (by simpa using h) (fun j q hj hq => h1 (j + 1) q (by omega) (by simpa using hq)) (fun q hq => h2 q (by simpa using hq))]
    rfl

/-! ### a source of an append -/
def SrcAt (W : World) (xv : Value) (L : Vrs) : Prop := (xv = .slice none 0 0 ∧ L = []) ∨ ∃ ad c, xv = .slice (some ad) L.length c ∧ ∀ j u, (prCs L)[j]? = some u → W.cell? (ad.add j) = some u
variable {W : World} {P : Vrs}
theorem row_cases {B : Nat} {vv : Value} (h : W.ownsRow B 34 2 vv P.length (prCs P)) : (vv = .slice none 0 0 ∧ P = []) ∨ ∃ g cap, vv = .slice (some ⟨g, 0, none⟩) P.length cap ∧ P.length ≤ cap ∧ ∀ j u, (prCs P)[j]? = some u → W.cell? ⟨g, j, none⟩ = some u := by
  rcases h.2 with ⟨hv, h0⟩ | ⟨g, cap, cur, hv, hb, hc, h1, h1', h2, h3⟩
  · exact .inl ⟨hv, List.eq_nil_of_length_eq_zero h0⟩
  · refine .inr ⟨g, cap, hv, h1, fun j u hu => ?_⟩
    have hlt := (List.getElem?_eq_some_iff.1 hu).1
    rw [prCs_length] at hlt
    have e1 : W.cell? ⟨g, j, none⟩ = cur[j]? := by simp [World.cell?, hc]
    rw [e1, ← Array.getElem?_toList, ← List.getElem?_take_of_lt hlt, h3]
    exact hu
theorem cut_ahead {B : Nat} {vv : Value} (h : W.ownsRow B 34 2 vv P.length (prCs P)) (i : Nat) (hi : i ≤ P.length) (hP : P.length < 65536) :
    ∃ xv, (∀ W', (Instr.slice 22 vv none (some (.int .i64 (i : Int))) none).run Try.prog W' = .ok xv W') ∧ ∀ W', W'.ownsRow B 34 2 vv P.length (prCs P) → SrcAt W' xv (P.take i) := by
  rcases row_cases h with ⟨rfl, rfl⟩ | ⟨g, cap, rfl, hc, _⟩
  · obtain rfl : i = 0 := by simpa using hi
    exact ⟨.slice none 0 0, fun W' => by go_simp, fun W' _ => .inl ⟨rfl, rfl⟩⟩
  · refine ⟨.slice (some ⟨g, 0, none⟩) i cap, fun W' => ?_, fun W' ho => .inr ⟨⟨g, 0, none⟩, cap, by rw [List.length_take, Nat.min_eq_left hi], fun j u hu => ?_⟩⟩
    · go_simp
      intro h9
      omega
    · rcases row_cases ho with ⟨hv, _⟩ | ⟨g', cap', hv, _, hce⟩
      · cases hv
      · cases hv
        rw [Addr.add_lit, Nat.zero_add]
        refine hce j u ?_
        rw [← List.take_append_drop i P, prCs_append, List.getElem?_append_left (List.getElem?_eq_some_iff.1 hu).1]
        exact hu
theorem cut_behind {B : Nat} {vv : Value} (h : W.ownsRow B 34 2 vv P.length (prCs P)) (i : Nat) (hi : i ≤ P.length) (hP : P.length < 65536) :
    ∃ xv, (∀ W', (Instr.slice 22 vv (some (.int .i64 (i : Int))) none none).run Try.prog W' = .ok xv W') ∧ ∀ W', W'.ownsRow B 34 2 vv P.length (prCs P) → SrcAt W' xv (P.drop i) := by
  rcases row_cases h with ⟨rfl, rfl⟩ | ⟨g, cap, rfl, hc, _⟩
  · obtain rfl : i = 0 := by simpa using hi
    exact ⟨.slice none 0 0, fun W' => by go_simp, fun W' _ => .inl ⟨rfl, rfl⟩⟩
  · refine ⟨.slice (some (if cap = i then ⟨g, 0, none⟩ else ⟨g, i * 2, none⟩)) (P.length - i) (cap - i), fun W' => ?_, fun W' ho => .inr ⟨(if cap = i then ⟨g, 0, none⟩ else ⟨g, i * 2, none⟩), cap - i, by rw [List.length_drop], fun j u hu => ?_⟩⟩
    · by_cases hci : cap = i
      · subst hci
        go_simp
      · rw [if_neg hci]
        go_simp
    · have hj := (List.getElem?_eq_some_iff.1 hu).1
      rw [prCs_length, List.length_drop] at hj
      rw [if_neg (by omega), Addr.add_lit]
      rcases row_cases ho with ⟨hv, _⟩ | ⟨g', cap', hv, _, hce⟩
      · cases hv
      · cases hv
        refine hce (i * 2 + j) u ?_
        have hl : (prCs (P.take i)).length = i * 2 := by rw [prCs_length, List.length_take, Nat.min_eq_left hi]
        rw [← List.take_append_drop i P, prCs_append, List.getElem?_append_right (by rw [hl]; omega), hl, Nat.add_sub_cancel_left]
        exact hu
theorem prC_one {W : World} {L : Vrs} (h : ∀ p ∈ L, Tx W p.2.1 p.2.2) : ∀ u ∈ prCs L, u.oneCell' = true := by
  intro u hu
  obtain ⟨p, hp, hx⟩ := List.mem_flatMap.1 hu
  simp at hx
  rcases hx with rfl | rfl
  · rfl
  · obtain ⟨ad, cap, hv⟩ := (h p hp).form
    rw [hv]
    rfl
/-- What an append of such a source leaves. -/
theorem run_src {w : World} {base ty : Nat} {v xv : Value} {O L : Vrs} (hown : w.ownsRow base 34 2 v O.length (prCs O)) (hs : SrcAt w xv L) (ht : ∀ p ∈ L, Tx w p.2.1 p.2.2) (hn : O.length + L.length < 4294967296) (hbase : base ≤ w.heap.size) :
    ∃ v' w', (Builtin.append_ #[22, 22] ty #[v, xv]).run Try.prog w = .ok v' w' ∧ w'.ownsRow base 34 2 v' (O ++ L).length (prCs (O ++ L)) ∧ w.grownBy w' v.ownBlock ∧ (v'.ownBlock = v.ownBlock ∨ v'.ownBlock = some w.heap.size) := by
  obtain ⟨i0, hi0, hz0, hz1, hz2⟩ := info_parts info34
  rcases hs with ⟨rfl, rfl⟩ | ⟨ad, c, rfl, hc⟩
  · refine ⟨v, w, run_append_owned_none w base 22 ty 34 i0 2 Try.underlying22 hi0 v _ _ hown, ?_, ⟨rfl, rfl, rfl, Nat.le_refl _, fun _ _ _ => rfl⟩, .inl rfl⟩
    rw [List.append_nil]
    exact hown
  · obtain ⟨v', w', hr, h2, h3, _, h5⟩ := run_append_own_at (P := Try.prog) w base 22 ty 34 i0 _ 2 40 Try.underlying22 hi0 hz0 hz1 hz2 rfl (by decide) v O.length (prCs O) hown ad L.length c (prCs L) (prCs_length L) hc (prC_one ht) (by have := maxLen_big; omega) (by omega) hbase
    refine ⟨v', w', hr, ?_, h3, h5⟩
    rw [prCs_append, List.length_append]
    exact h2
/-- .. at its operation. -/
theorem step_src {o : Oper} {a : Act} {w : World} {K : Act → World → Prop} {Q : Exit → Act → World → Prop} (s x : Operand) (ho : o.op = .call { callee := .builtin .append, args := #[s, x], argTypes := #[22, 22] })
    {base : Nat} {v xv : Value} {O L : Vrs} (hv : a.eval s = v) (hx : a.eval x = xv) (hown : w.ownsRow base 34 2 v O.length (prCs O)) (hs : SrcAt w xv L) (ht : ∀ p ∈ L, Tx w p.2.1 p.2.2) (hn : O.length + L.length < 4294967296) (hbase : base ≤ w.heap.size)
    (h : ∀ v' w', w'.ownsRow base 34 2 v' (O ++ L).length (prCs (O ++ L)) → w.grownBy w' v.ownBlock → K (a.put o.dst v') w') : Oper.wp Try.prog o a w K Q := by
  obtain ⟨v', w', hr, h2, h3, _⟩ := run_src (ty := o.type) hown hs ht hn hbase
  unfold Oper.wp execOp
  simp only [ho, resolve, invoke, builtin, Sem.run_bind, Sem.run_pure, Result.andThen_ok, List.map_toArray, List.map_cons, List.map_nil, hv, hx, hr]
  exact h v' w' h2 h3
theorem wpList_src {ops : Array Oper} {rest : List Oper} {o : Oper} {a : Act} {w : World} {Q : Exit → Act → World → Prop} (hgd : o.guard = none) (s x : Operand) (ho : o.op = .call { callee := .builtin .append, args := #[s, x], argTypes := #[22, 22] })
    {base : Nat} {v xv : Value} {O L : Vrs} (hv : a.eval s = v) (hx : a.eval x = xv) (hown : w.ownsRow base 34 2 v O.length (prCs O)) (hs : SrcAt w xv L) (ht : ∀ p ∈ L, Tx w p.2.1 p.2.2) (hn : O.length + L.length < 4294967296) (hbase : base ≤ w.heap.size)
    (h : ∀ v' w', w'.ownsRow base 34 2 v' (O ++ L).length (prCs (O ++ L)) → w.grownBy w' v.ownBlock → wpList Try.prog ops Q rest (a.put o.dst v') w') : wpList Try.prog ops Q (o :: rest) a w := by
  refine wpList_plain hgd fun K hK => ?_
  exact step_src s x ho hv hx hown hs ht hn hbase fun v' w' h2 h3 => hK _ _ (h v' w' h2 h3)
end Go.Proofs.Ytikogljojnapaaa
