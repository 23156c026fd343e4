/- Events are picked. -/
import Derived.Test.YthhghkjgffcpeaaDoorMark
namespace Go.Proofs.YthhghkjgffcpeaaDoor
open Go.RowKit

/-- Structs lie in a row. -/
def RowAt (W : World) (v : Value) (k : Nat) (css : List (List Value)) : Prop :=
  (css = [] ∧ ∃ ad cap, v = .slice ad 0 cap) ∨
  ∃ g o cap, v = .slice (some ⟨g, o, none⟩) css.length cap ∧ css.length ≤ cap ∧ g < W.heap.size ∧ ∀ j cs, css[j]? = some cs → ∀ i u, cs[i]? = some u → W.cell? ⟨g, o + j * k + i, none⟩ = some u
theorem RowAt.form {W : World} {v : Value} {k : Nat} {css : List (List Value)} (h : RowAt W v k css) : ∃ ad cap, v = .slice ad css.length cap := by
  rcases h with ⟨rfl, ad, cap, rfl⟩ | ⟨g, o, cap, rfl, _⟩
  · exact ⟨ad, cap, rfl⟩
  · exact ⟨_, cap, rfl⟩
theorem RowAt.below {W W' : World} {v : Value} {k : Nat} {css : List (List Value)} {B : Nat} (h : RowAt W v k css) (hb : Below B W W') (hB : W.heap.size ≤ B) : RowAt W' v k css := by
  rcases h with h | ⟨g, o, cap, h1, h2, h3, h4⟩
  · exact .inl h
  · exact .inr ⟨g, o, cap, h1, h2, Nat.lt_of_lt_of_le h3 hb.size, fun j cs hj i u hu => (hb.cell (p := ⟨g, o + j * k + i, none⟩) (by show g < B; omega)).trans (h4 j cs hj i u hu)⟩
theorem RowAt.turn {W W' : World} {v : Value} {k : Nat} {css : List (List Value)} {S : Nat → Prop} (h : RowAt W v k css) (hT : Turn S W W') (hs : ∀ b, v.ownBlock = some b → ¬ S b) : RowAt W' v k css := by
  rcases h with h | ⟨g, o, cap, rfl, h2, h3, h4⟩
  · exact .inl h
  · exact .inr ⟨g, o, cap, rfl, h2, Nat.lt_of_lt_of_le h3 hT.size, fun j cs hj i u hu => (World.cell?_of_block (w := W) (a := ⟨g, o + j * k + i, none⟩) (hT.block g h3 (hs g rfl))).trans (h4 j cs hj i u hu)⟩
theorem flat_at (k : Nat) : ∀ (css : List (List Value)), (∀ cs ∈ css, cs.length = k) → ∀ j cs, css[j]? = some cs → ∀ i u, cs[i]? = some u → (css.flatMap id)[j * k + i]? = some u
  | [], _, j, cs, h => by simp at h
  | c :: css, hk, 0, cs, h => by
    simp at h
    subst h
    intro i u hu
    rw [Nat.zero_mul, Nat.zero_add, List.flatMap_cons]
    show (c ++ _)[i]? = _
    rw [List.getElem?_append_left (List.getElem?_eq_some_iff.1 hu).1]
    exact hu
  | c :: css, hk, j + 1, cs, h => by
    intro i u hu
    have hc := hk c (by simp)
    have := flat_at k css (fun x hx => hk x (by simp [hx])) j cs (by simpa using h) i u hu
    rw [List.flatMap_cons, List.getElem?_append_right (by simp only [id, hc]; rw [Nat.succ_mul]; omega)]
    have e : (j + 1) * k + i - (id c).length = j * k + i := by simp only [id, hc]; rw [Nat.succ_mul]; omega
    rw [e]
    exact this
theorem RowAt.owned {W : World} {B e k : Nat} {v : Value} {css : List (List Value)} (h : W.ownsRow B e k v css.length (css.flatMap id)) (hk : ∀ cs ∈ css, cs.length = k) : RowAt W v k css := by
  rcases h.2 with ⟨hv, h0⟩ | ⟨g, cap, cur, hv, hb, hc, h1, _, h2, h3⟩
  · exact .inl ⟨List.eq_nil_of_length_eq_zero h0, none, 0, hv⟩
  · refine .inr ⟨g, 0, cap, hv, h1, (Array.getElem?_eq_some_iff.1 hc).1, fun j cs hj i u hu => ?_⟩
    have hf := flat_at k css hk j cs hj i u hu
    have hlt := (List.getElem?_eq_some_iff.1 hf).1
    rw [h.1] at hlt
    have e1 : W.cell? ⟨g, 0 + j * k + i, none⟩ = cur[j * k + i]? := by simp [World.cell?, hc]
    rw [e1, ← Array.getElem?_toList, ← List.getElem?_take_of_lt hlt, h3]
    exact hf
abbrev evL (X : List (Ev × Value)) : List (List Value) := X.map fun p => evC p.1 p.2
theorem evL_flat (X : List (Ev × Value)) : (evL X).flatMap id = evCs X := by simp [evL, evCs, List.flatMap_map]
theorem evL_len (X : List (Ev × Value)) : ∀ cs ∈ evL X, cs.length = 5 := by
  intro cs hcs
  obtain ⟨p, _, rfl⟩ := List.mem_map.1 hcs
  rfl
/-- Events in memory, to be read. -/
def EvAt (W : World) (v : Value) (X : List (Ev × Value)) : Prop := RowAt W v 5 (evL X) ∧ ∀ p ∈ X, Tx W p.2 p.1.l
theorem EvAt.below {W W' : World} {v : Value} {X : List (Ev × Value)} {B : Nat} (h : EvAt W v X) (hb : Below B W W') (hB : W.heap.size ≤ B) : EvAt W' v X := ⟨h.1.below hb hB, fun p hp => (h.2 p hp).below hb hB⟩
theorem EvAt.form {W : World} {v : Value} {X : List (Ev × Value)} (h : EvAt W v X) : ∃ ad cap, v = .slice ad X.length cap := by
  obtain ⟨ad, cap, hv⟩ := h.1.form
  exact ⟨ad, cap, by rw [hv]; simp⟩
theorem EvAt.owned {W : World} {B : Nat} {v : Value} {X : List (Ev × Value)} (h : W.ownsRow B 70 5 v X.length (evCs X)) (ht : ∀ p ∈ X, Tx W p.2 p.1.l) : EvAt W v X :=
  ⟨RowAt.owned (e := 70) (B := B) (by rw [evL_flat, List.length_map]; exact h) (evL_len X), ht⟩
/-- The cells of one of them. -/
theorem EvAt.at {W : World} {v : Value} {X : List (Ev × Value)} (h : EvAt W v X) {j : Nat} {p : Ev × Value} (hj : X[j]? = some p) : ∃ g o cap, v = .slice (some ⟨g, o, none⟩) X.length cap ∧ g < W.heap.size ∧
    W.cell? ⟨g, o + j * 5, none⟩ = some (.int .i64 p.1.kind) ∧ W.cell? ⟨g, o + j * 5 + 1, none⟩ = some (.int .i64 p.1.n) ∧ W.cell? ⟨g, o + j * 5 + 2, none⟩ = some (str p.1.a) ∧ W.cell? ⟨g, o + j * 5 + 3, none⟩ = some (str p.1.b) ∧ W.cell? ⟨g, o + j * 5 + 4, none⟩ = some p.2 := by
  have hjl := (List.getElem?_eq_some_iff.1 hj).1
  rcases h.1 with ⟨h0, _⟩ | ⟨g, o, cap, h1, h2, h3, h4⟩
  · have : X = [] := by simpa using h0
    rw [this] at hj
    simp at hj
  · have hc := h4 j (evC p.1 p.2) (by rw [List.getElem?_map, hj]; rfl)
    exact ⟨g, o, cap, by simpa using h1, h3, hc 0 _ rfl, hc 1 _ rfl, hc 2 _ rfl, hc 3 _ rfl, hc 4 _ rfl⟩

/-- Events of one's own, each with its own list. -/
def EvOwn (W : World) (B : Nat) (v : Value) (X : List (Ev × Value)) : Prop := W.ownsRow B 70 5 v X.length (evCs X) ∧ ∀ p ∈ X, Ot W (fun i => B ≤ i) p.2 p.1.l
theorem EvOwn.at {W : World} {B : Nat} {v : Value} {X : List (Ev × Value)} (h : EvOwn W B v X) : EvAt W v X := EvAt.owned h.1 fun p hp => (h.2 p hp).tx
theorem EvOwn.below {W W' : World} {B : Nat} {v : Value} {X : List (Ev × Value)} (h : EvOwn W B v X) (hb : Below W.heap.size W W') : EvOwn W' B v X :=
  ⟨owns_turn h.1 (Turn.ofBelow (S := fun _ => False) hb) (fun _ _ h => h), fun p hp => (h.2 p hp).turn (Turn.ofBelow (S := fun _ => False) hb) (fun _ _ h => h)⟩
theorem EvOwn.snoc {W w2 w4 : World} {B : Nat} {v v' lv : Value} {X : List (Ev × Value)} {e : Ev} {o : Obj} (h : EvOwn W B v X) (hb2 : Below W.heap.size W w2) (hB : B ≤ W.heap.size) (ho : w2.ownsRow W.heap.size 9 1 lv e.l.length (txV e.l))
    (hown : w4.ownsRow B 70 5 v' (X.length + 1) (evCs X ++ evC e lv)) (hg : (w2.alloc o).grownBy w4 v.ownBlock) : EvOwn w4 B v' (X ++ [(e, lv)]) ∧ Below B W w4 := by
  have h3 : EvOwn (w2.alloc o) B v X := h.below (hb2.alloc hb2.size o)
  have ho3 := owns_turn ho (Turn.ofBelow (S := fun _ => False) (below_new w2 o)) (fun _ _ h => h)
  have hT := Turn.ofGrown hg
  refine ⟨⟨by rw [evCs_snoc, List.length_append]; exact hown, fun p hp => ?_⟩, ?_⟩
  · rcases List.mem_append.1 hp with hp | hp
    · exact (h3.2 p hp).turn hT (fun b hb e' => owns_apart2 h3.1 (h3.2 p hp).1 (by decide) b e' hb)
    · simp only [List.mem_singleton] at hp
      subst hp
      exact ⟨owns_turn (owns_lower ho3 (Nat.zero_le _)) hT (fun b hb e' => owns_apart2 h3.1 ho3 (by decide) b e' hb), fun b hb => Nat.le_trans hB (ho3.lt b hb).1⟩
  · exact ((hb2.alloc hb2.size o).mono hB).grown hg (Nat.le_trans hB (Nat.le_trans hb2.size (below_new w2 o).size)) (fun b hb => (h3.1.lt b hb).1)

/-- A function that asks for the kind. -/
def Asks (f : Nat) (p : Int → Bool) : Prop := (∀ args w, (callFunc f args).run Tryd.prog w = .ok (.enter f args) w) ∧ ∀ k W, Calls Tryd.prog f #[.int .i64 k] W fun e w' => e = .returned (.bool (p k)) ∧ w' = W

def kept (p : Int → Bool) (E : List Ev) (k : Nat) : List Ev := (E.take k).filter fun e => p e.kind
theorem kept_succ (p : Int → Bool) (E : List Ev) (k : Nat) (e : Ev) (h : E[k]? = some e) : kept p E (k + 1) = kept p E k ++ (if p e.kind then [e] else []) := by
  unfold kept
  rw [List.take_add_one, h, List.filter_append]
  cases hp : p e.kind <;> simp [hp]
theorem kept_length (p : Int → Bool) (E : List Ev) (k : Nat) : (kept p E k).length ≤ E.length := by
  unfold kept
  exact Nat.le_trans (List.length_filter_le _ _) (by simp; omega)

set_option maxRecDepth 100000 in
set_option maxHeartbeats 4000000 in
theorem pick_any (f : Nat) (p : Int → Bool) (hf : Asks f p) (v : Value) (X : List (Ev × Value)) (W : World) (h : EvAt W v X) (hX : X.length < 4294967296) (hl : ∀ q ∈ X, q.1.l.length < 4294967296) :
    Calls Tryd.prog 55 #[v, .func (.func f) #[] #[]] W fun e w' => ∃ v' X', e = .returned v' ∧ EvOwn w' W.heap.size v' X' ∧ X'.map Prod.fst = (X.map Prod.fst).filter (fun e => p e.kind) ∧ Below W.heap.size W w' := by
  obtain ⟨i0, hi, hz0, hz1, hz2⟩ := info_parts info70
  have HH : Hid (∀ W', Below W.heap.size W W' → EvAt W' v X) := fun W' hb => h.below hb (Nat.le_refl _)
  obtain ⟨ad, cap, rfl⟩ := h.form
  have hen := hf.1
  have HF : Hid (Asks f p) := hf
  have HL : Hid (∀ q ∈ X, q.1.l.length < 4294967296) := hl
  clear h hf hl
  go_enter Tryd.func55, Tryd.ntmps55
  go_wp2_with fail
  go_loopw [5, 10] (fun v5 v10 wr => ∃ (k : Nat) (X' : List (Ev × Value)), v10 = .int .i64 k ∧ k ≤ X.length ∧ Hid (EvOwn wr W.heap.size v5 X' ∧ X'.map Prod.fst = kept p (X.map Prod.fst) k) ∧ Below W.heap.size W wr) (fun _ v10 _ => X.length - (intOf v10).toNat)
  case atStart => exact ⟨0, [], rfl, by omega, ⟨⟨World.ownsRow_nil _ _ _ _, fun q hq => by simp at hq⟩, rfl⟩, Below.refl _ _⟩
  case round =>
    obtain ⟨k, X', rfl, hk, HK, hbr⟩ := hrel
    obtain ⟨adp, capp, rfl⟩ := owns_slice HK.out.1.1
    by_cases hkl : k < X.length
    · obtain ⟨q, hq⟩ : ∃ q, X[k]? = some q := ⟨_, List.getElem?_eq_getElem hkl⟩
      obtain ⟨g, o, cap', hv, hg, c0, c1, c2, c3, c4⟩ := (HH.out _ hbr).at hq
      cases hv
      have hqm := List.mem_of_getElem? hq
      have HQ : Hid (X[k]? = some q) := hq
      have HT : Hid (∀ W', Below W.heap.size W W' → Tx W' q.2 q.1.l) := fun W' hb => (HH.out W' hb).2 q hqm
      have hql := HL.out q hqm
      obtain ⟨⟨kd, nn, a, b, l⟩, lv⟩ := q
      obtain ⟨adl, capl, hlv⟩ := (HT.out _ hbr).form
      obtain rfl : lv = .slice adl l.length capl := hlv
      have HS := kept_succ p (X.map Prod.fst) k ⟨kd, nn, a, b, l⟩ (by rw [List.getElem?_map, hq]; rfl)
      have HLE := kept_length p (X.map Prod.fst) k
      rw [← HK.out.2, List.length_map, List.length_map] at HLE
      clear hq hqm
      have hba : Below W.heap.size W (wr.alloc (.cells #[.int .i64 kd, .int .i64 nn, str a, str b, .slice adl l.length capl] 70)) := hbr.alloc hbr.size _
      go_wp2_with fail
      refine (HF.out.2 kd _).mono ?_
      rintro e w1 ⟨rfl, hw1⟩
      subst hw1
      cases hp : p kd with
      | true =>
        rw [if_pos hp] at HS
        have HS' : Hid _ := HS
        clear hp HS c0 c1 c2 c3 c4
        go_wp2_with fail
        refine (own_any ⟨kd, nn, a, b, l⟩ _ _ (HT.out _ hba) hql).mono ?_
        rintro e w2 ⟨v2, rfl, ho2, hb2'⟩
        obtain ⟨ad2, cap2, rfl⟩ := owns_slice ho2
        have hwr : wr.heap.size ≤ (wr.alloc (.cells #[.int .i64 kd, .int .i64 nn, str a, str b, .slice adl l.length capl] 70)).heap.size := (below_new _ _).size
        have hb2 : Below wr.heap.size wr w2 := (below_new _ _).trans (hb2'.mono hwr)
        have hB : W.heap.size ≤ wr.heap.size := hbr.size
        have HO2 : Hid (w2.ownsRow wr.heap.size 9 1 (.slice ad2 l.length cap2) l.length (txV l)) := owns_lower ho2 hwr
        have HE3 : Hid (∀ o, (w2.alloc o).ownsRow W.heap.size 70 5 (.slice adp X'.length capp) X'.length (evCs X')) := fun o => (HK.out.1.below (hb2.alloc hb2.size o)).1
        have hB3 : W.heap.size ≤ (w2.alloc (.cells #[.int .i64 kd, .int .i64 nn, str a, str b, .slice ad2 l.length cap2] 70)).heap.size := Nat.le_trans hB (Nat.le_trans hb2.size (below_new _ _).size)
        clear ho2 hb2' hwr
        go_wp2_with (at_builtin; refine wpList_append_own _ rfl _ _ 52 rfl W.heap.size 70 i0 _ 5 72 Tryd.underlying52 hi hz0 hz1 hz2 rfl (by decide) _ _ _ rfl (HE3.out _) ⟨w2.heap.size, 0, none⟩ 1 1 (evC ⟨kd, nn, a, b, l⟩ (.slice ad2 l.length cap2)) rfl rfl (cells_new w2 _ 70) (evC_one _ _ _) (by have := maxLen_big; omega) (by omega) hB3 ?_; intro v4 w4 hown4 hgrow4 _)
        have hfin := EvOwn.snoc HK.out.1 hb2 hB HO2.out hown4 hgrow4
        refine ⟨⟨k + 1, X' ++ [(⟨kd, nn, a, b, l⟩, .slice ad2 l.length cap2)], by simp, by omega, ⟨hfin.1, ?_⟩, hbr.trans hfin.2⟩, by simp [intOf]; omega⟩
        rw [HS'.out, List.map_append, HK.out.2]
        rfl
      | false =>
        rw [if_neg (by rw [hp]; exact Bool.false_ne_true), List.append_nil] at HS
        have HS' : Hid _ := HS
        clear hp HS c0 c1 c2 c3 c4
        go_wp2_with fail
        exact ⟨⟨k + 1, X', by simp, by omega, ⟨HK.out.1.below (below_new _ _), by rw [HS'.out]; exact HK.out.2⟩, hba⟩, by simp [intOf]; omega⟩
    · have hkz : k = X.length := by omega
      subst hkz
      go_wp2_with fail
      go_ret
      refine ⟨_, X', rfl, HK.out.1, ?_, hbr⟩
      rw [HK.out.2]
      unfold kept
      rw [List.take_of_length_le (by simp)]
end Go.Proofs.YthhghkjgffcpeaaDoor
