/- Rows that are built one by one. -/
import Derived.Test.YthhghkjgffcpeaaDoorOwn4
namespace Go.Proofs.YthhghkjgffcpeaaDoor
open Go.RowKit Go.Shelf

def bt (any : Int) (j : Nat) : Bool := bits BinOp.and IntKind.i64 (any / 2 ^ j) 1 == 1
def other6 : List Txt := [[111, 116, 104, 101, 114], [97, 114, 103, 115], [116, 104, 97, 116], [110, 111, 98, 111, 100, 121], [104, 97, 110, 100, 115], [105, 110]]
def rowI (any : Int) (outs args : List Txt) (i : Nat) : Rw := ⟨[99], if bt any (i + 8) then args else other6, bt any i, (i : Int) % 2 == 0, (i : Int) % 3 == 0, (outs[i]?).getD [], i⟩
def hit (any : Int) (i : Nat) : Bool := bt any i || bt any (i + 8)
def rowsK (any : Int) (outs args : List Txt) (k : Nat) : List Rw := (List.range k).map (rowI any outs args)
def atI (any : Int) (k : Nat) : Int := match (List.range k).find? (hit any) with | some i => (i : Int) | none => -1
theorem rowsK_succ (any : Int) (outs args : List Txt) (k : Nat) : rowsK any outs args (k + 1) = rowsK any outs args k ++ [rowI any outs args k] := by
  unfold rowsK
  rw [List.range_succ, List.map_append]
  rfl
theorem atI_hit (any : Int) (k : Nat) (h : atI any k < 0) (hh : hit any k = true) : atI any (k + 1) = k := by
  unfold atI at h ⊢
  rw [List.range_succ, List.find?_append]
  cases hf : (List.range k).find? (hit any) with
  | some i => rw [hf] at h; simp at h; omega
  | none => simp [hh]
theorem atI_keep (any : Int) (k : Nat) (h : ¬ (atI any k < 0 ∧ hit any k = true)) : atI any (k + 1) = atI any k := by
  unfold atI at h ⊢
  rw [List.range_succ, List.find?_append]
  cases hf : (List.range k).find? (hit any) with
  | some i => simp
  | none =>
    rw [hf] at h
    have : hit any k = false := by
      cases hk : hit any k
      · rfl
      · exact absurd ⟨by simp, hk⟩ h
    simp [this]
theorem fits_rowI (any : Int) (outs args : List Txt) (i : Nat) (h : args.length ≤ 5) : fits [99] args (rowI any outs args i) = hit any i := by
  have hne : (decide (other6 = args)) = false := decide_eq_false (fun e => by rw [← e] at h; exact absurd h (by decide))
  unfold fits rowI hit
  cases h8 : bt any (i + 8)
  · simp [hne]
  · simp
theorem rowOf_rowsK (any : Int) (outs args : List Txt) (k : Nat) (h : args.length ≤ 5) : rowOf (rowsK any outs args k) [99] args = ((List.range k).find? (hit any)).map (rowI any outs args) := by
  unfold rowOf rowsK
  rw [List.find?_map]
  congr 1
  congr 1
  funext i
  exact fits_rowI any outs args i h
theorem rowsK_mem (any : Int) (outs args : List Txt) (k : Nat) {r : Rw} (h : r ∈ rowsK any outs args k) : ∃ i, i < k ∧ r = rowI any outs args i := by
  obtain ⟨i, hi, rfl⟩ := List.mem_map.1 h
  exact ⟨i, List.mem_range.1 hi, rfl⟩
theorem rowI_small (any : Int) (outs args : List Txt) (i : Nat) (ha : args.length ≤ 5) (ho : ∀ s ∈ outs, s.length ≤ 300) : (rowI any outs args i).args.length ≤ 6 ∧ (rowI any outs args i).out.length ≤ 300 := by
  constructor
  · unfold rowI
    cases bt any (i + 8)
    · exact Nat.le_refl 6
    · show args.length ≤ 6
      omega
  · show ((outs[i]?).getD []).length ≤ 300
    cases h : outs[i]? with
    | none => exact Nat.zero_le _
    | some s => exact ho s (List.mem_of_getElem? h)
theorem rowsK_may (any : Int) (outs args : List Txt) (k : Nat) (hk : k ≤ 8) (ha : args.length ≤ 5) (hz : ∀ s ∈ args, s.length ≤ 100) (ho : ∀ s ∈ outs, s.length ≤ 300) : mayR [] (rowsK any outs args k) = none := by
  have hlen : (rowsK any outs args k).length = k := by simp [rowsK]
  have e1 : manyW [] (rowsK any outs args k) = false := by
    unfold manyW
    rw [hlen]
    have h2 : (rowsK any outs args k).any manyB = false := by
      rw [List.any_eq_false]
      intro r hr
      obtain ⟨i, _, rfl⟩ := rowsK_mem any outs args k hr
      have := (rowI_small any outs args i ha ho).1
      simp [manyB]
      omega
    rw [h2]
    simp
    omega
  have e2 : firstOf (rowAt (rowsK any outs args k)) 0 (rowsK any outs args k).length = none := by
    apply firstOf_none
    intro j hj
    unfold rowAt
    rw [List.getElem?_eq_getElem hj]
    obtain ⟨i, hi, hr⟩ := rowsK_mem any outs args k (List.getElem_mem hj)
    simp only [hr]
    have a1 : longT (rowI any outs args i).out = false := by
      have := (rowI_small any outs args i ha ho).2
      unfold longT
      exact decide_eq_false (by omega)
    have a2 : (rowI any outs args i).args.any longT = false := by
      rw [List.any_eq_false]
      intro s hs
      have h3 : s.length ≤ 100 := by
        unfold rowI at hs
        cases h8 : bt any (i + 8)
        · rw [h8] at hs
          have : ∀ s ∈ other6, s.length ≤ 100 := by decide
          exact this s hs
        · rw [h8] at hs
          exact hz s hs
      simp [longT]
      omega
    unfold rowR
    rw [show noNm (rowI any outs args i).name = false from rfl, a1, a2]
    have h4 : ¬ ((rowI any outs args i).status < 0 ∨ 255 < (rowI any outs args i).status) := by
      show ¬ ((i : Int) < 0 ∨ 255 < (i : Int))
      omega
    simp only [Bool.or_self, Bool.false_eq_true, if_false, if_neg h4]
  unfold mayR
  rw [e1, if_neg Bool.false_ne_true, e2]
  rfl

/-- A world's rows, being built. -/
def RB (base : Nat) (va : Value) (args : List Txt) (w : World) (wb : Nat) (rv : Value) (Y : List (Rw × Value)) : Prop :=
  Cel w wb 25 #[.slice none 0 0, rv] ∧ w.ownsRow base 77 7 rv Y.length (rwCs Y) ∧ ∀ p ∈ Y, Ot w (fun i => base ≤ i) p.2 p.1.args ∨ (p.2 = va ∧ p.1.args = args)
theorem RB.app {base : Nat} {va : Value} {args : List Txt} {wr w4 w5 : World} {wb : Nat} {rv v5 lv : Value} {Y : List (Rw × Value)} {r : Rw} {o : Obj} (h : RB base va args wr wb rv Y) (hb4 : Below wr.heap.size wr w4) (hwb : base ≤ wb) (hB : base ≤ wr.heap.size)
    (hl : Ot w4 (fun i => base ≤ i) lv r.args ∨ (lv = va ∧ r.args = args)) (ho : w5.ownsRow base 77 7 v5 (Y.length + 1) (rwCs Y ++ rwC r lv)) (hg : (w4.alloc o).grownBy w5 rv.ownBlock) :
    w5.cell? ⟨wb, 1, none⟩ = some rv ∧ w5.frozen? ⟨wb, 1, none⟩ = false ∧ RB base va args (w5.setCell ⟨wb, 1, none⟩ v5) wb v5 (Y ++ [(r, lv)]) ∧ Below base wr (w5.setCell ⟨wb, 1, none⟩ v5) := by
  have b4 : Below wr.heap.size wr (w4.alloc o) := hb4.alloc hb4.size o
  have hF := Turn.ofBelow (S := fun _ => False) b4
  have hT := Turn.ofGrown hg
  have c4 := h.1.turn hF (fun h => h)
  have r4 := owns_turn h.2.1 hF (fun _ _ h => h)
  have c5 : Cel w5 wb 25 #[.slice none 0 0, rv] := c4.turn hT (fun e => owns_apart c4 r4 (by decide) e)
  have hT2 := Turn.one w5 wb 1 v5
  have texts : ∀ {v : Value} {l : List Txt}, Ot (w4.alloc o) (fun i => base ≤ i) v l → Ot (w5.setCell ⟨wb, 1, none⟩ v5) (fun i => base ≤ i) v l := fun ho => by
    have o5 := ho.turn hT (fun b hb e' => owns_apart2 r4 ho.1 (by decide) b e' hb)
    exact o5.turn hT2 (fun b hb e' => owns_apart c5 o5.1 (by decide) (by rw [hb, e']))
  refine ⟨c5.cell 1, c5.frozen 1, ⟨c5.set v5, ?_, fun p hp => ?_⟩, ?_⟩
  · rw [rwCs_snoc, List.length_append]
    exact owns_turn ho hT2 (fun b hb e' => owns_apart c5 ho (by decide) (by rw [hb, e']))
  · rcases List.mem_append.1 hp with hp | hp
    · rcases h.2.2 p hp with h1 | h1
      · exact .inl (texts (h1.turn hF (fun _ _ h => h)))
      · exact .inr h1
    · simp only [List.mem_singleton] at hp
      subst hp
      rcases hl with h1 | h1
      · exact .inl (texts (h1.turn (Turn.ofBelow (S := fun _ => False) (below_new w4 o)) (fun _ _ h => h)))
      · exact .inr h1
  · exact (grown_own (Nat.le_trans hB b4.size) (b4.mono hB) r4 hg).setCell (p := ⟨wb, 1, none⟩) hwb v5
theorem RB.rwAt {base : Nat} {va : Value} {args : List Txt} {w : World} {wb : Nat} {rv : Value} {Y : List (Rw × Value)} (h : RB base va args w wb rv Y) (ha : Tx w va args) : RwAt w rv Y :=
  RwAt.owned h.2.1 fun p hp => by
    rcases h.2.2 p hp with h1 | ⟨h1, h2⟩
    · exact h1.tx
    · rw [h1, h2]; exact ha
theorem six_own (w : World) (base : Nat) (hb : base ≤ w.heap.size) : Ot (w.alloc (.cells #[.string ⟨#[111, 116, 104, 101, 114]⟩, .string ⟨#[97, 114, 103, 115]⟩, .string ⟨#[116, 104, 97, 116]⟩, .string ⟨#[110, 111, 98, 111, 100, 121]⟩, .string ⟨#[104, 97, 110, 100, 115]⟩, .string ⟨#[105, 110]⟩] 9)) (fun i => base ≤ i) (.slice (some ⟨w.heap.size, 0, none⟩) 6 6) other6 :=
  ⟨⟨rfl, .inr ⟨w.heap.size, 6, _, rfl, Nat.zero_le _, World.alloc_heap_new w _, Nat.le_refl _, by decide, rfl, rfl⟩⟩, fun b hb' => by simp [Value.ownBlock] at hb'; omega⟩
end Go.Proofs.YthhghkjgffcpeaaDoor
