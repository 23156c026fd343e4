/- A node and all below it, read: the tree. -/
import Derived.Test.YtaildeglikhkaaaGreatDoorRead
import Derived.OrdersHeld
import Derived.Deep.RegionHeld
import Derived.Deep.Cut
/-! A node and all below it, read. -/
namespace Go.Proofs.YtaildeglikhkaaaGreatDoor
open Go.RowKit

/-- A reader: its text, its place, its nodes; all that it turns lies at B or above. -/
def Rd (B : Nat) (W : World) (b : Nat) (s : ByteArray) (k : Nat) (X : List Nd) : Prop := KnAt W ∧ 0 < B ∧ B ≤ b ∧ B ≤ W.heap.size ∧ ∃ nv, PlC W b 105 s k [nv] ∧ W.ownsRow B 50 5 nv X.length (ndCs X)
theorem Rd.gone {B b k j : Nat} {W w' : World} {s : ByteArray} {X : List Nd} {nv : Value} (hk : KnAt W) (h0 : 0 < B) (hb : B ≤ b) (hB : B ≤ W.heap.size) (ho : W.ownsRow B 50 5 nv X.length (ndCs X)) (hp : PlC W b 105 s k [nv]) (hg : Gone W b 105 s j [nv] w') : Rd B w' b s j X ∧ Below B W w' := by
  refine ⟨⟨hk.turn hg.turn (fun e => by omega), h0, hb, Nat.le_trans hB hg.turn.size, nv, hg.at_, owns_turn ho hg.turn (fun c hc e => ?_)⟩, hg.turn.below (fun i e => by rw [e]; exact hb) hB⟩
  subst e
  exact owns_apart (show Cel W c 105 _ from hp) ho (by decide) hc
theorem Rd.drew {B b k : Nat} {W : World} {s : ByteArray} {X : List Nd} (h : Rd B W b s k X) : Rd B W.drew b s k X := h
theorem place_set {W : World} {b k j : Nat} {s : ByteArray} {r : List Value} (h : PlC W b 105 s k r) : Gone W b 105 s j r (W.setCell ⟨b, 1, none⟩ (.int .i64 (j : Nat))) := (Gone.refl h).set j
theorem info50 : (Tryz.prog.info? 50).map (fun i => (i.zero, i.size, i.bytes)) = some (some (.agg #[.int .i64 0, .int .i64 0, .int .i64 0, .int .i64 0, .string ⟨#[]⟩]), 5, 48) := by kernel_rfl
/-- The reader's tree, with so much fuel. -/
def TreeC (s : ByteArray) (f : Nat) : Prop := ∀ (B b d k : Nat) (X : List Nd) (W : World), Rd B W b s k X → s.size - k < f → k ≤ s.size → d ≤ 121 → X.length ≤ 3001 →
  Calls Tryz.prog 69 #[.pointer (some ⟨b, 0, none⟩), .int .i64 (d : Nat)] W fun e w' => e = .returned (.bool (treeG s f d k X).1) ∧ Rd B w' b s (treeG s f d k X).2.1 (treeG s f d k X).2.2 ∧ Below B W w'
def kidsV : Option Nat → Array Value
  | none => #[.int .i64 0, .bool false]
  | some c => #[.int .i64 (c : Nat), .bool true]
def KidsC (s : ByteArray) (f : Nat) : Prop := ∀ (B b d k : Nat) (X : List Nd) (W : World), Rd B W b s k X → s.size - k < f → k ≤ s.size → d ≤ 121 → X.length ≤ 3001 →
  Calls Tryz.prog 84 #[.pointer (some ⟨b, 0, none⟩), .int .i64 (d : Nat)] W fun e w' => e = .returned (.tuple (kidsV (kidsG s f d k X 0).1)) ∧ Rd B w' b s (kidsG s f d k X 0).2.1 (kidsG s f d k X 0).2.2 ∧ Below B W w'
theorem len_fix (X : List Nd) (i c : Nat) : (fixN X i c).length = X.length := by simp [fixN]
/-- No more nodes than may be kept. -/
theorem read_len (s : ByteArray) : ∀ f : Nat, (∀ d k X, X.length ≤ 3001 → (treeG s f d k X).2.2.length ≤ 3001 ∧ X.length ≤ (treeG s f d k X).2.2.length) ∧ (∀ d k X c, X.length ≤ 3001 → (kidsG s f d k X c).2.2.length ≤ 3001 ∧ X.length ≤ (kidsG s f d k X c).2.2.length) := by
  intro f
  induction f with
  | zero => exact ⟨fun _ _ _ h => by rw [treeG]; exact ⟨h, Nat.le_refl _⟩, fun _ _ _ _ h => by rw [kidsG]; exact ⟨h, Nat.le_refl _⟩⟩
  | succ f ih =>
    refine ⟨fun d k X h => ?_, fun d k X c h => ?_⟩
    · rw [treeG]
      split
      · exact ⟨h, Nat.le_refl _⟩
      · split
        · cases (noR s (k + 1)).1 with
          | none => exact ⟨h, Nat.le_refl _⟩
          | some n =>
            have hX : (if X.length ≤ 3000 then X ++ [n] else X).length ≤ 3001 ∧ X.length ≤ (if X.length ≤ 3000 then X ++ [n] else X).length := by
              split
              · rw [List.length_append]; simp; omega
              · exact ⟨h, Nat.le_refl _⟩
            have := ih.2 (d + 1) (noR s (k + 1)).2 (if X.length ≤ 3000 then X ++ [n] else X) 0 hX.1
            revert this
            simp only
            rcases kidsG s f (d + 1) (noR s (k + 1)).2 (if X.length ≤ 3000 then X ++ [n] else X) 0 with ⟨_ | c, j, Y⟩
            · exact fun h => ⟨h.1, Nat.le_trans hX.2 h.2⟩
            · intro h
              simp only at h ⊢
              split
              · rw [len_fix]; exact ⟨h.1, Nat.le_trans hX.2 h.2⟩
              · exact ⟨h.1, Nat.le_trans hX.2 h.2⟩
        · exact ⟨h, Nat.le_refl _⟩
    · rw [kidsG]
      split
      · exact ⟨h, Nat.le_refl _⟩
      · split
        · have := ih.1 d (k + 1) X h
          revert this
          rcases treeG s f d (k + 1) X with ⟨_ | _, j, Y⟩
          · exact fun h => h
          · intro h
            have h2 := ih.2 d j Y (c + 1) h.1
            exact ⟨h2.1, Nat.le_trans h.2 h2.2⟩
        · exact ⟨h, Nat.le_refl _⟩
theorem Rd.opn {B b k : Nat} {W : World} {s : ByteArray} {X : List Nd} (h : Rd B W b s k X) : ∃ nv, PlC W b 105 s k [nv] ∧ W.ownsRow B 50 5 nv X.length (ndCs X) := h.2.2.2.2
/-- The place goes on. -/
theorem Rd.at' {B b k j : Nat} {W : World} {s : ByteArray} {X : List Nd} (h : Rd B W b s k X) : Rd B (W.setCell ⟨b, 1, none⟩ (.int .i64 (j : Nat))) b s j X ∧ Below B W (W.setCell ⟨b, 1, none⟩ (.int .i64 (j : Nat))) := by
  obtain ⟨h1, h2, h3, h4, nv, h5, h6⟩ := h
  exact Rd.gone h1 h2 h3 h4 h6 h5 (place_set h5)
theorem Rd.take_yes {B b k : Nat} {W : World} {s : ByteArray} {X : List Nd} (h : Rd B W b s k X) (c : UInt8) (hs : s.size < 8796093022208) (hc : s.data.toList[k]? = some c) :
    Calls Tryz.prog 52 #[.pointer (some ⟨b, 0, none⟩), .int .u8 (c.toNat : Nat)] W fun e w' => e = .returned (.bool true) ∧ Rd B w' b s (k + 1) X ∧ Below B W w' := by
  obtain ⟨nv, hp, _⟩ := h.opn
  refine (Go.Proofs.YtaildeglikhkaaaGreatDoor.take_yes hp.at c (by omega) hc).mono ?_
  rintro e w' ⟨rfl, rfl⟩
  exact ⟨rfl, h.at'⟩
theorem Rd.take_no {B b k : Nat} {W : World} {s : ByteArray} {X : List Nd} (h : Rd B W b s k X) (c : UInt8) (hs : s.size < 8796093022208) (hk : k ≤ s.size) (hc : s.data.toList[k]? ≠ some c) :
    Calls Tryz.prog 52 #[.pointer (some ⟨b, 0, none⟩), .int .u8 (c.toNat : Nat)] W fun e w' => e = .returned (.bool false) ∧ w' = W := by
  obtain ⟨nv, hp, _⟩ := h.opn
  exact Go.Proofs.YtaildeglikhkaaaGreatDoor.take_no hp.at c (by omega) hk hc
theorem Rd.pos {B b k : Nat} {W : World} {s : ByteArray} {X : List Nd} (h : Rd B W b s k X) : posOf W b = k := by
  obtain ⟨nv, hp, _⟩ := h.opn
  exact posOf_at hp.at
set_option maxRecDepth 100000 in
set_option maxHeartbeats 4000000 in
theorem kids_of (s : ByteArray) (hs : s.size < 8796093022208) (f : Nat) (hT : ∀ f', f' < f → TreeC s f') : KidsC s f := by
  intro B b d k X W hR hf hk hd hX
  have HT : Hid (∀ f', f' < f → TreeC s f') := hT
  have HR : Hid (Rd B W b s k X) := hR
  obtain ⟨R, HG⟩ : ∃ R, Hid (kidsG s f d k X 0 = R) := ⟨_, rfl⟩
  rw [HG.out]
  clear hT hR
  go_enter Tryz.func84, Tryz.ntmps84
  go_wp2_with fail
  go_loopw [4, 5, 6] (fun v4 v5 v6 wr => ∃ (c k' f' : Nat) (X' : List Nd), v4 = .int .i64 0 ∧ v5 = .bool false ∧ v6 = .int .i64 c ∧ c ≤ k' ∧ k' ≤ s.size ∧ s.size - k' < f' ∧ f' ≤ f ∧ X'.length ≤ 3001 ∧ Hid (kidsG s f' d k' X' c = R) ∧ Hid (Rd B wr b s k' X' ∧ Below B W wr)) (fun _ _ _ wr => s.size - posOf wr b)
  case atStart => exact ⟨0, k, f, X, rfl, rfl, rfl, Nat.zero_le _, hk, hf, Nat.le_refl _, hX, HG.out, HR.out, Below.refl _ _⟩
  case round =>
    obtain ⟨c, k', f', X', rfl, rfl, rfl, hc, hk', hf', hff, hX', HE, HI⟩ := hrel
    obtain ⟨g, rfl⟩ : ∃ g, f' = g + 1 := ⟨f' - 1, by omega⟩
    have HP : Hid (posOf wr b = k') := HI.out.1.pos
    by_cases h41 : s.data.toList[k']? = some 41
    · have HEQ : Hid (R = (some c, k' + 1, X')) := by
        have := HE.out
        rw [kidsG, if_pos h41] at this
        exact this.symm
      have HTK : Hid _ := HI.out.1.take_yes 41 hs h41
      clear h41
      go_wp2_with fail
      refine Calls.mono HTK.out ?_
      rintro e w1 ⟨rfl, hR1, hb1⟩
      have HF1 : Hid (Rd B w1 b s (k' + 1) X' ∧ Below B W w1) := ⟨hR1, HI.out.2.trans hb1⟩
      clear hR1 hb1
      go_wp2_with fail
      go_ret2
      rw [HEQ.out]
      exact ⟨rfl, HF1.out.1, HF1.out.2⟩
    · have HTK : Hid _ := HI.out.1.take_no 41 hs hk' h41
      have HE2 : Hid ((if s.data.toList[k']? = some 32 then match treeG s g d (k' + 1) X' with | (false, j, Y) => (none, j, Y) | (true, j, Y) => kidsG s g d j Y (c + 1) else (none, k', X')) = R) := by
        have := HE.out
        rw [kidsG, if_neg h41] at this
        exact this
      clear h41 HE
      by_cases h32 : s.data.toList[k']? = some 32
      · have hkl := text_lt s k' 32 h32
        rw [if_pos h32] at HE2
        have HTS : Hid _ := HI.out.1.take_yes 32 hs h32
        clear h32
        go_wp2_with fail
        refine Calls.mono HTK.out ?_
        rintro e w1 ⟨rfl, hw1⟩
        obtain rfl := hw1.symm
        clear hw1
        go_wp2_with fail
        refine Calls.mono HTS.out ?_
        rintro e w2 ⟨rfl, hR2, hb2⟩
        have HTR : Hid _ := HT.out g (by omega) B b d (k' + 1) X' w2 hR2 (by omega) hkl hd hX'
        have hlen := (read_len s g).1 d (k' + 1) X' hX'
        have hle := (read_le s g).1 d (k' + 1) X' hkl
        have hge := (read_ge s g).1 d (k' + 1) X'
        have HB2 : Hid (Below B W w2) := HI.out.2.trans hb2
        clear hR2 hb2
        revert HE2 HTR hlen hle hge
        rcases treeG s g d (k' + 1) X' with ⟨tb, j, Y⟩
        intro HE2 HTR hlen hle hge
        simp only at hlen hle hge
        cases tb with
        | false =>
          have HEQ : Hid (R = (none, j, Y)) := HE2.out.symm
          go_wp2_with fail
          refine Calls.mono HTR.out ?_
          rintro e w3 ⟨rfl, hR3, hb3⟩
          have HF3 : Hid (Rd B w3 b s j Y ∧ Below B W w3) := ⟨hR3, HB2.out.trans hb3⟩
          clear hR3 hb3
          go_wp2_with fail
          go_ret2
          rw [HEQ.out]
          exact ⟨rfl, HF3.out.1, HF3.out.2⟩
        | true =>
          have HEQ : Hid (kidsG s g d j Y (c + 1) = R) := HE2.out
          go_wp2_with fail
          refine Calls.mono HTR.out ?_
          rintro e w3 ⟨rfl, hR3, hb3⟩
          have HF3 : Hid (Rd B w3 b s j Y ∧ Below B W w3) := ⟨hR3, HB2.out.trans hb3⟩
          clear hR3 hb3
          go_wp2_with fail
          refine ⟨⟨c + 1, j, g, Y, rfl, rfl, by simp, by omega, hle, by omega, by omega, hlen.1, HEQ.out, HF3.out⟩, ?_⟩
          rw [HF3.out.1.pos, HP.out]
          omega
      · rw [if_neg h32] at HE2
        have HTS : Hid _ := HI.out.1.take_no 32 hs hk' h32
        clear h32
        go_wp2_with fail
        refine Calls.mono HTK.out ?_
        rintro e w1 ⟨rfl, hw1⟩
        obtain rfl := hw1.symm
        clear hw1
        go_wp2_with fail
        refine Calls.mono HTS.out ?_
        rintro e w2 ⟨rfl, hw2⟩
        obtain rfl := hw2.symm
        clear hw2
        go_wp2_with fail
        go_ret2
        rw [← HE2.out]
        exact ⟨rfl, HI.out.1, HI.out.2⟩
end Go.Proofs.YtaildeglikhkaaaGreatDoor
namespace Go.Proofs.YtaildeglikhkaaaGreatDoor
open Go.RowKit
theorem five_cells {cs : Array Value} (h : cs.size = 5) : ∃ c0 c1 c2 c3 c4, cs = #[c0, c1, c2, c3, c4] := by
  match cs, h with
  | ⟨[c0, c1, c2, c3, c4]⟩, _ => exact ⟨c0, c1, c2, c3, c4, rfl⟩
/-- The reader's nodes: where they lie. -/
theorem Rd.cells {B b k : Nat} {W : World} {s : ByteArray} {X : List Nd} (h : Rd B W b s k X) : ∃ ad cap, W.cell? ⟨b, 2, none⟩ = some (.slice ad X.length cap) ∧ W.frozen? ⟨b, 2, none⟩ = false ∧ PlC W b 105 s k [.slice ad X.length cap] ∧ W.ownsRow B 50 5 (.slice ad X.length cap) X.length (ndCs X) := by
  obtain ⟨nv, hp, ho⟩ := h.opn
  obtain ⟨ad, cap, rfl⟩ := owns_slice ho
  exact ⟨ad, cap, Cel.cell hp 2, Cel.frozen hp 2, hp, ho⟩
/-- Nodes beside a write elsewhere. -/
theorem Rd.below {B b k : Nat} {W w' : World} {s : ByteArray} {X : List Nd} (h : Rd B W b s k X) (hb : Below W.heap.size W w') : Rd B w' b s k X := by
  obtain ⟨h1, h2, h3, h4, nv, h5, h6⟩ := h
  exact ⟨h1.turn (Turn.ofBelow (S := fun _ => False) hb) (fun h => h), h2, h3, Nat.le_trans h4 hb.size, nv, Cel.turn h5 (Turn.ofBelow (S := fun _ => False) hb) (fun h => h), owns_turn h6 (Turn.ofBelow (S := fun _ => False) hb) (fun _ _ h => h)⟩
/-- The nodes are put anew. -/
theorem Rd.put {B b k : Nat} {W w1 : World} {s : ByteArray} {X Y : List Nd} {nv nv' : Value} (hk : KnAt W) (h0 : 0 < B) (hb : B ≤ b) (hB : B ≤ W.heap.size) (hp : PlC W b 105 s k [nv]) (ho : W.ownsRow B 50 5 nv X.length (ndCs X)) (hg : W.grownBy w1 nv.ownBlock) (ho1 : w1.ownsRow B 50 5 nv' Y.length (ndCs Y)) :
    PlC w1 b 105 s k [nv] ∧ Rd B (w1.setCell ⟨b, 2, none⟩ nv') b s k Y ∧ Below B W (w1.setCell ⟨b, 2, none⟩ nv') := by
  have hT := Turn.ofGrown hg
  have hp1 : PlC w1 b 105 s k [nv] := Cel.turn hp hT (fun e => owns_apart (show Cel W b 105 _ from hp) ho (by decide) e)
  have hb1 : Below B W w1 := hT.below (fun i e => (ho.lt i e).1) hB
  have hset := Cel.set hp1 (j := 2) nv'
  have hT2 : Turn (fun i => i = b) w1 (w1.setCell ⟨b, 2, none⟩ nv') := (Turn.refl (fun i => i = b) w1).setCell (p := ⟨b, 2, none⟩) (fun _ => rfl) nv'
  refine ⟨hp1, ⟨?_, h0, hb, ?_, nv', hset, owns_turn ho1 hT2 (fun c hc e => ?_)⟩, hb1.trans ((Below.refl B w1).setCell (p := ⟨b, 2, none⟩) hb _)⟩
  · refine (hk.turn hT (fun e => ?_)).turn hT2 (fun e => by omega)
    have := (ho.lt 0 e).1
    omega
  · have : (w1.setCell ⟨b, 2, none⟩ nv').heap.size = w1.heap.size := by simp [World.setCell]
    rw [this]
    exact Nat.le_trans hB hT.size
  · subst e
    exact owns_apart (show Cel w1 c 105 _ from hp1) ho1 (by decide) hc
theorem owns_write {W : World} {B e size n g cap j : Nat} {xs : List Value} (h : W.ownsRow B e size (.slice (some ⟨g, 0, none⟩) n cap) n xs) (u : Value) : (W.setCell ⟨g, j, none⟩ u).ownsRow B e size (.slice (some ⟨g, 0, none⟩) n cap) n (xs.set j u) := by
  refine ⟨by rw [List.length_set]; exact h.1, ?_⟩
  rcases h.2 with ⟨hv, _⟩ | ⟨g', cap', cur, hv, hb, hc, h1, h1', h2, h3⟩
  · cases hv
  · cases hv
    refine .inr ⟨g, cap, cur.setIfInBounds j u, rfl, hb, Cel.set (show Cel W g e cur from hc) u, h1, h1', by simpa using h2, ?_⟩
    rw [Array.toList_setIfInBounds, List.take_set, h3]
theorem ndCs_fix : ∀ (Y : List Nd) (i : Nat) (a b : Int), ((ndCs Y).set (i * 5 + 2) (.int .i64 a)).set (i * 5 + 3) (.int .i64 b) = ndCs (Y.modify i fun n => { n with k := a, size := b })
  | [], _, _, _ => by simp [ndCs]
  | y :: Y, 0, a, b => by simp [ndCs]
  | y :: Y, i + 1, a, b => by
    have e1 : ndCs (y :: Y) = ndC y ++ ndCs Y := by simp [ndCs]
    have e2 : ∀ j, (i + 1) * 5 + j = (ndC y).length + (i * 5 + j) := fun j => by
      show _ = 5 + _
      omega
    have e3 : (y :: Y).modify (i + 1) (fun n => { n with k := a, size := b }) = y :: Y.modify i (fun n => { n with k := a, size := b }) := by simp
    have e4 : ndCs (y :: Y.modify i (fun n => { n with k := a, size := b })) = ndC y ++ ndCs (Y.modify i (fun n => { n with k := a, size := b })) := by simp [ndCs]
    rw [e1, e2 2, e2 3, List.set_append_right _ _ (by omega), List.set_append_right _ _ (by omega), Nat.add_sub_cancel_left, Nat.add_sub_cancel_left, ndCs_fix Y i a b, e3, e4]
def ToldC (g : Nat) (n : Nd) (W : World) : Prop := Hid (Cel W g 50 #[.int .i64 n.kind, .int .i64 n.n, .int .i64 n.k, .int .i64 n.size, str n.s])
/-- A node's five cells lie here, the nodes there. -/
def ToldN (b g : Nat) (nv : Value) (n : Nd) (W : World) : Prop := W.cell? ⟨b, 2, none⟩ = some nv ∧ W.cell? ⟨g, 0, none⟩ = some (.int .i64 n.kind) ∧ W.cell? ⟨g, 1, none⟩ = some (.int .i64 n.n) ∧ W.cell? ⟨g, 2, none⟩ = some (.int .i64 n.k) ∧ W.cell? ⟨g, 3, none⟩ = some (.int .i64 n.size) ∧ W.cell? ⟨g, 4, none⟩ = some (str n.s)
theorem KnAt.other {W : World} {b j : Nat} (h : KnAt W) (hne : 0 ≠ b) (v : Value) : KnAt (W.setCell ⟨b, j, none⟩ v) := by
  obtain ⟨t, fr, h⟩ := h
  exact ⟨t, fr, (Below.heap_setCell _ _ _ _ hne).trans h⟩
theorem ndC_oneR (x : Nd) : ∀ u ∈ ndC x, u.oneCell' = true := by
  intro u hu
  simp [ndC] at hu
  rcases hu with rfl | rfl | rfl | rfl | rfl <;> rfl
theorem ndC_arr (m : Nd) : (ndC m).toArray = #[.int .i64 m.kind, .int .i64 m.n, .int .i64 m.k, .int .i64 m.size, str m.s] := rfl
/-- An append at its operation. -/
theorem step_append6 {o : Oper} {a : Act} {w : World} {K : Act → World → Prop} {Q : Exit → Act → World → Prop} (s x : Operand) (ho : o.op = .call { callee := .builtin .append, args := #[s, x], argTypes := #[22, 22] })
    {base : Nat} {v : Value} {X : List Nd} {n : Nd} {g : Nat} (hv : a.eval s = v) (hx : a.eval x = .slice (some ⟨g, 0, none⟩) 1 1) (hown : w.ownsRow base 50 5 v X.length (ndCs X)) (hc : ∀ j u, (ndC n)[j]? = some u → w.cell? ((⟨g, 0, none⟩ : Addr).add j) = some u) (hX : X.length ≤ 3000) (hbase : base ≤ w.heap.size)
    (h : ∀ v' w', w'.ownsRow base 50 5 v' (X ++ [n]).length (ndCs (X ++ [n])) → w.grownBy w' v.ownBlock → K (a.put o.dst v') w') : Oper.wp Tryz.prog o a w K Q := by
  obtain ⟨i0, hi0, hz0, hz1, hz2⟩ := info_parts info50
  obtain ⟨v', w', hr, h2, h3, _, _⟩ := run_append_own_at (P := Tryz.prog) w base 22 o.type 50 i0 _ 5 48 Tryz.underlying22 hi0 hz0 hz1 hz2 rfl (by decide) v X.length (ndCs X) hown ⟨g, 0, none⟩ 1 1 (ndC n) rfl hc (ndC_oneR n) (by have := maxLen_big; omega) (by omega) hbase
  unfold Oper.wp execOp
  simp only [ho, resolve, invoke, builtin, Sem.run_bind, Sem.run_pure, Result.andThen_ok, List.map_toArray, List.map_cons, List.map_nil, hv, hx, hr]
  refine h v' w' ?_ h3
  rw [ndCs_append, List.length_append]
  simpa [ndCs] using h2
set_option maxRecDepth 100000 in
set_option maxHeartbeats 8000000 in
theorem tree_of (s : ByteArray) (hs : s.size < 8796093022208) (f : Nat) (hK : KidsC s f) : TreeC s (f + 1) := by
  intro B b d k X W hR hf hk hd hX
  have HK : Hid (KidsC s f) := hK
  have HR : Hid (Rd B W b s k X) := hR
  clear hK hR
  by_cases hd120 : 120 < d
  · have e1 : treeG s (f + 1) d k X = (false, k, X) := by rw [treeG, if_pos hd120]
    rw [e1]
    have hdi : (d : Int) > 120 := by omega
    go_enter Tryz.func69, Tryz.ntmps69
    go_wp2_with fail
    go_ret
    exact ⟨rfl, HR.out, Below.refl _ _⟩
  have hdi : ¬ (d : Int) > 120 := by omega
  by_cases h40 : s.data.toList[k]? = some 40
  rotate_left
  · have e1 : treeG s (f + 1) d k X = (false, k, X) := by rw [treeG, if_neg hd120, if_neg h40]
    rw [e1]
    have HTK : Hid _ := HR.out.take_no 40 hs hk h40
    clear h40 e1
    go_enter Tryz.func69, Tryz.ntmps69
    go_wp2_with fail
    refine Calls.mono HTK.out ?_
    rintro e w1 ⟨rfl, hw1⟩
    obtain rfl := hw1.symm
    go_wp2_with fail
    go_ret
    exact ⟨rfl, HR.out, Below.refl _ _⟩
  have hkl := text_lt s k 40 h40
  have HTK : Hid _ := HR.out.take_yes 40 hs h40
  have hjl := noR_le s (k + 1) hkl
  have hjg := noR_ge s (k + 1)
  cases hno : (noR s (k + 1)).1 with
  | none =>
    have e1 : treeG s (f + 1) d k X = (false, (noR s (k + 1)).2, X) := by rw [treeG, if_neg hd120, if_pos h40, hno]
    rw [e1]
    have HNO : Hid ((noR s (k + 1)).1.isSome = false) := by unfold Hid; rw [hno]; rfl
    clear h40 e1 hno
    generalize hjj : (noR s (k + 1)).2 = j at *
    go_enter Tryz.func69, Tryz.ntmps69
    go_wp2_with fail
    refine Calls.mono HTK.out ?_
    rintro e w1 ⟨rfl, hR1, hb1⟩
    obtain ⟨nv, hp1, ho1⟩ := hR1.opn
    have HND : Hid _ := node_any hp1 hR1.1 hs hkl
    have HGN : Hid (∀ w', Gone w1 b 105 s j [nv] w' → Rd B w' b s j X ∧ Below B W w') := fun w' hg => ⟨(Rd.gone hR1.1 hR1.2.1 hR1.2.2.1 hR1.2.2.2.1 ho1 hp1 hg).1, hb1.trans (Rd.gone hR1.1 hR1.2.1 hR1.2.2.1 hR1.2.2.2.1 ho1 hp1 hg).2⟩
    clear hR1 hb1 hp1 ho1
    go_wp2_with fail
    refine Calls.mono HND.out ?_
    rintro e w2 ⟨cs, rfl, ⟨⟨m, rfl⟩, _⟩, hg2⟩
    rw [HNO.out, ndC_arr]
    rw [hjj] at hg2
    have HF2 : Hid (∀ o, Rd B (w2.alloc o) b s j X ∧ Below B W (w2.alloc o)) := fun o => ⟨(HGN.out w2 hg2).1.below (below_new w2 o), (HGN.out w2 hg2).2.alloc (HGN.out w2 hg2).1.2.2.2.1 o⟩
    clear hg2
    go_wp2_with fail
    go_ret
    exact ⟨rfl, HF2.out _⟩
  | some n =>
    have HNO : Hid ((noR s (k + 1)).1.isSome = true) := by unfold Hid; rw [hno]; rfl
    have HNS : Hid ((noR s (k + 1)).1 = some n) := hno
    have HTG : Hid (treeG s (f + 1) d k X = match kidsG s f (d + 1) (noR s (k + 1)).2 (if X.length ≤ 3000 then X ++ [n] else X) 0 with | (none, j, Y) => (false, j, Y) | (some c, j, Y) => (true, j, if X.length ≤ 3000 then fixN Y X.length c else Y)) := by
      unfold Hid
      rw [treeG, if_neg hd120, if_pos h40, hno]
      rfl
    rw [HTG.out]
    clear h40 hno HTG
    obtain ⟨j, hjj⟩ : ∃ j, (noR s (k + 1)).2 = j := ⟨_, rfl⟩
    rw [hjj] at hjl hjg ⊢
    have HJ : Hid ((noR s (k + 1)).2 = j) := hjj
    clear hjj
    by_cases hkp : X.length ≤ 3000
    · rw [if_pos hkp]
      have hkpi : (X.length : Int) ≤ 3000 := by omega
      obtain ⟨R, HRR⟩ : ∃ R, Hid (kidsG s f (d + 1) j (X ++ [n]) 0 = R) := ⟨_, rfl⟩
      rw [HRR.out]
      go_enter Tryz.func69, Tryz.ntmps69
      go_wp2_with fail
      refine Calls.mono HTK.out ?_
      rintro e w1 ⟨rfl, hR1, hb1⟩
      obtain ⟨nv, hp1, ho1⟩ := hR1.opn
      have HND : Hid _ := node_any hp1 hR1.1 hs hkl
      have HGN : Hid (∀ w', Gone w1 b 105 s j [nv] w' → Rd B w' b s j X ∧ Below B W w') := fun w' hg => ⟨(Rd.gone hR1.1 hR1.2.1 hR1.2.2.1 hR1.2.2.2.1 ho1 hp1 hg).1, hb1.trans (Rd.gone hR1.1 hR1.2.1 hR1.2.2.1 hR1.2.2.2.1 ho1 hp1 hg).2⟩
      clear hR1 hb1 hp1 ho1
      go_wp2_with fail
      refine Calls.mono HND.out ?_
      rintro e w2 ⟨cs, rfl, ⟨_, hcs⟩, hg2⟩
      obtain rfl := hcs n HNS.out
      rw [HNO.out, ndC_arr]
      rw [HJ.out] at hg2
      obtain ⟨hR2, hb2⟩ := HGN.out w2 hg2
      have HC3 : Hid (Cel (w2.alloc (.cells #[.int .i64 n.kind, .int .i64 n.n, .int .i64 n.k, .int .i64 n.size, str n.s] 50)) w2.heap.size 50 #[.int .i64 n.kind, .int .i64 n.n, .int .i64 n.k, .int .i64 n.size, str n.s]) := Cel.new w2 50 _
      have HR3 : Hid (Rd B (w2.alloc (.cells #[.int .i64 n.kind, .int .i64 n.n, .int .i64 n.k, .int .i64 n.size, str n.s] 50)) b s j X ∧ Below B W (w2.alloc (.cells #[.int .i64 n.kind, .int .i64 n.n, .int .i64 n.k, .int .i64 n.size, str n.s] 50))) := ⟨hR2.below (below_new w2 _), hb2.alloc hR2.2.2.2.1 _⟩
      obtain ⟨ad, cap, _, _, hp2, ho2⟩ := hR2.cells
      have HPL : Hid (PlC (w2.alloc (.cells #[.int .i64 n.kind, .int .i64 n.n, .int .i64 n.k, .int .i64 n.size, str n.s] 50)) b 105 s j [.slice ad X.length cap] ∧ (w2.alloc (.cells #[.int .i64 n.kind, .int .i64 n.n, .int .i64 n.k, .int .i64 n.size, str n.s] 50)).ownsRow B 50 5 (.slice ad X.length cap) X.length (ndCs X) ∧ ¬ (Value.slice ad X.length cap).ownBlock = some w2.heap.size) := ⟨Cel.turn (show Cel w2 b 105 _ from hp2) (Turn.ofBelow (S := fun _ => False) (below_new w2 _)) (fun h => h), ho2.alloc _, fun e => Nat.lt_irrefl _ (ho2.lt _ e).2⟩
      clear hg2 hcs hR2 hb2 HND HGN hp2 ho2
      have c3 := Cel.cell HPL.out.1 2
      go_upto_region 9 with fail
      generalize hw3 : w2.alloc (.cells #[.int .i64 n.kind, .int .i64 n.n, .int .i64 n.k, .int .i64 n.size, str n.s] 50) = w3 at *
      generalize hg5 : w2.heap.size = g5 at *
      clear hw3 hg5
      have hS0 : ToldC g5 n w3.drew := HC3.out
      refine wp_region_held (S := ToldC g5 n) (by kernel_rfl) ?_
      change wpAnyH _ _ _ _ _ _ _ _ (World.drew _)
      refine wpAnyH_take (i := 0) (v := .pointer (some ⟨b, 0, none⟩)) rfl (by kernel_rfl) (by kernel_rfl) (by kernel_rfl) (fun _ _ _ h => h) (Yields.yieldsIf (Or.inl ⟨by rfl, by intro wz; go_simp⟩)) hS0 ?_
      try simp only [Act.put, List.getElem_toArray, List.getElem_cons_zero, List.setIfInBounds_toArray, List.set_cons_zero, List.set_cons_succ]
      refine wpAnyH_take (i := 1) (v := .pointer (some ⟨b, 0, none⟩)) rfl (by kernel_rfl) (by kernel_rfl) (by kernel_rfl) (fun _ _ _ h => h) (Yields.yieldsIf (Or.inl ⟨by rfl, by intro wz; go_simp⟩)) hS0 ?_
      try simp only [Act.put, List.getElem_toArray, List.getElem_cons_succ, List.getElem_cons_zero, List.setIfInBounds_toArray, List.set_cons_zero, List.set_cons_succ]
      refine wpAnyH_take (i := 2) (v := .pointer (some ⟨b, 0, none⟩)) rfl (by kernel_rfl) (by kernel_rfl) (by kernel_rfl) (fun _ _ _ h => h) (Yields.yieldsIf (Or.inl ⟨by rfl, by intro wz; go_simp⟩)) hS0 ?_
      try simp only [Act.put, List.getElem_toArray, List.getElem_cons_succ, List.getElem_cons_zero, List.setIfInBounds_toArray, List.set_cons_zero, List.set_cons_succ]
      refine wpAnyH_take (i := 3) (v := .pointer (some ⟨b, 2, none⟩)) rfl (by kernel_rfl) (by kernel_rfl) (by kernel_rfl) (fun _ _ _ h => h) (Yields.yieldsIf (Or.inl ⟨by rfl, by intro wz; go_simp⟩)) hS0 ?_
      try simp only [Act.put, List.getElem_toArray, List.getElem_cons_succ, List.getElem_cons_zero, List.setIfInBounds_toArray, List.set_cons_zero, List.set_cons_succ]
      refine wpAnyH_take (i := 5) (v := .agg #[.int .i64 n.kind, .int .i64 n.n, .int .i64 n.k, .int .i64 n.size, str n.s]) rfl (by kernel_rfl) (by kernel_rfl) (by kernel_rfl) (fun _ _ _ h => h) (Or.inl ⟨by rfl, fun wz hS => by have s0 := Cel.cell (Hid.out hS) 0; have s1 := Cel.cell (Hid.out hS) 1; have s2 := Cel.cell (Hid.out hS) 2; have s3 := Cel.cell (Hid.out hS) 3; have s4 := Cel.cell (Hid.out hS) 4; go_simp⟩) hS0 ?_
      try simp only [Act.put, List.getElem_toArray, List.getElem_cons_succ, List.getElem_cons_zero, List.setIfInBounds_toArray, List.set_cons_zero, List.set_cons_succ]
      refine wpAnyH_ready (rs := [4, 6]) (by kernel_rfl) (by simp) ?_
      refine AllReadyH.cons rfl (fun K' hK => ?_) ?_
      · go_simp
        refine hK.out _ _ hS0 (fun _ => ?_)
        clear hK K'
        try simp only [Act.put, List.getElem_toArray, List.getElem_cons_succ, List.getElem_cons_zero, List.setIfInBounds_toArray, List.set_cons_zero, List.set_cons_succ]
        refine wpAnyH_ready (rs := [6]) (by kernel_rfl) (by simp) ?_
        refine AllReadyH.cons rfl (fun K' hK => ?_) AllReadyH.nil
        go_simp
        have hS4 : ToldC g5 n (w3.drew.alloc (.cells #[.int .i64 n.kind, .int .i64 n.n, .int .i64 n.k, .int .i64 n.size, str n.s] 50)) := Cel.turn (Hid.out hS0) (Turn.ofBelow (S := fun _ => False) (below_new w3.drew _)) (fun h => h)
        refine hK.out _ _ hS4 (fun _ => ?_)
        clear hK K'
        try simp only [Act.put, List.getElem_toArray, List.getElem_cons_succ, List.getElem_cons_zero, List.setIfInBounds_toArray, List.set_cons_zero, List.set_cons_succ]
        refine wpAnyH_ready (rs := [7]) (by kernel_rfl) (by simp) ?_
        refine AllReadyH.cons rfl (fun K' hK => ?_) AllReadyH.nil
        have hR4 : Rd B (w3.drew.alloc (.cells #[.int .i64 n.kind, .int .i64 n.n, .int .i64 n.k, .int .i64 n.size, str n.s] 50)) b s j X := HR3.out.1.drew.below (below_new w3.drew _)
        have hb4 : Below B W (w3.drew.alloc (.cells #[.int .i64 n.kind, .int .i64 n.n, .int .i64 n.k, .int .i64 n.size, str n.s] 50)) := HR3.out.2.drew.alloc HR3.out.1.2.2.2.1 _
        have hp4 : PlC (w3.drew.alloc (.cells #[.int .i64 n.kind, .int .i64 n.n, .int .i64 n.k, .int .i64 n.size, str n.s] 50)) b 105 s j [.slice ad X.length cap] := Cel.turn (show Cel w3.drew b 105 _ from HPL.out.1) (Turn.ofBelow (S := fun _ => False) (below_new w3.drew _)) (fun h => h)
        have ho4 : (w3.drew.alloc (.cells #[.int .i64 n.kind, .int .i64 n.n, .int .i64 n.k, .int .i64 n.size, str n.s] 50)).ownsRow B 50 5 (.slice ad X.length cap) X.length (ndCs X) := (show w3.drew.ownsRow B 50 5 (.slice ad X.length cap) X.length (ndCs X) from HPL.out.2.1).alloc _
        refine step_append6 (X := X) (n := n) (g := w3.heap.size) _ _ rfl rfl rfl ho4 (cells_new w3.drew (ndC n) 50) hkp hR4.2.2.2.1 ?_
        intro v5 w5 ho5 hg5
        obtain ⟨hp5, hR5, hb5⟩ := Rd.put hR4.1 hR4.2.1 hR4.2.2.1 hR4.2.2.2.1 hp4 ho4 hg5 ho5
        have hS5 : ToldC g5 n w5 := Cel.turn (Hid.out hS4) (Turn.ofGrown hg5) (fun e => HPL.out.2.2 e)
        obtain ⟨ad5, n5, cap5, rfl⟩ : ∃ ad m cap, v5 = .slice ad m cap := by
          obtain ⟨ad, cap, h⟩ := owns_slice ho5
          exact ⟨ad, _, cap, h⟩
        refine hK.out _ _ hS5 (fun _ => ?_)
        clear hK K'
        try simp only [Act.put, List.getElem_toArray, List.getElem_cons_succ, List.getElem_cons_zero, List.setIfInBounds_toArray, List.set_cons_zero, List.set_cons_succ]
        have c5 := Cel.cell hp5 2
        have f5 := Cel.frozen hp5 2
        have HR6 : Hid (Rd B (w5.setCell ⟨b, 2, none⟩ (.slice ad5 n5 cap5)) b s j (X ++ [n]) ∧ Below B W (w5.setCell ⟨b, 2, none⟩ (.slice ad5 n5 cap5))) := ⟨hR5, hb4.trans hb5⟩
        have hS6 : ToldC g5 n (w5.setCell ⟨b, 2, none⟩ (.slice ad5 n5 cap5)) := Cel.other (Hid.out hS5) (fun e => by
          subst e
          have := (show w5.heap[g5]? = _ from hp5).symm.trans (show w5.heap[g5]? = _ from hS5)
          simp at this) _
        clear hR4 hb4 hp4 ho4 ho5 hg5 hR5 hb5 hp5
        clear hS0
        have hS0 := hS5
        refine wpAnyH_take (i := 8) (v := .pointer (some ⟨b, 0, none⟩)) rfl (by kernel_rfl) (by kernel_rfl) (by kernel_rfl) (fun _ _ _ h => h) (Yields.yieldsIf (Or.inl ⟨by rfl, by intro wz; go_simp⟩)) hS0 ?_
        try simp only [Act.put, List.getElem_toArray, List.getElem_cons_succ, List.getElem_cons_zero, List.setIfInBounds_toArray, List.set_cons_zero, List.set_cons_succ]
        refine wpAnyH_take (i := 9) (v := .pointer (some ⟨b, 2, none⟩)) rfl (by kernel_rfl) (by kernel_rfl) (by kernel_rfl) (fun _ _ _ h => h) (Yields.yieldsIf (Or.inl ⟨by rfl, by intro wz; go_simp⟩)) hS0 ?_
        try simp only [Act.put, List.getElem_toArray, List.getElem_cons_succ, List.getElem_cons_zero, List.setIfInBounds_toArray, List.set_cons_zero, List.set_cons_succ]
        refine wpAnyH_ready (rs := [10]) (by kernel_rfl) (by simp) ?_
        refine AllReadyH.cons rfl (fun K' hK => ?_) AllReadyH.nil
        go_simp
        refine hK.out _ _ hS6 (fun _ => ?_)
        clear hK K'
        try simp only [Act.put, List.getElem_toArray, List.getElem_cons_succ, List.getElem_cons_zero, List.setIfInBounds_toArray, List.set_cons_zero, List.set_cons_succ]
        refine wpAnyH_done (by kernel_rfl) ?_ _
        clear hS0 hS4 hS5 hS6 c5 f5
        generalize hw6 : w5.setCell ⟨b, 2, none⟩ (.slice ad5 n5 cap5) = w6 at *
        clear hw6
        have HKD : Hid _ := HK.out B b (d + 1) j (X ++ [n]) w6 HR6.out.1 (by omega) hjl (by omega) (by rw [List.length_append]; simp; omega)
        have hln := (read_len s f).2 (d + 1) j (X ++ [n]) 0 (by rw [List.length_append]; simp; omega)
        rw [HRR.out] at HKD hln
        obtain ⟨ro, rj, rY⟩ := R
        simp only at hln
        rw [List.length_append, List.length_singleton] at hln
        cases ro with
        | none =>
          go_wp2_with fail
          refine Calls.mono HKD.out ?_
          rintro e w7 ⟨rfl, hR7, hb7⟩
          have HF7 : Hid (Rd B w7 b s rj rY ∧ Below B W w7) := ⟨hR7, HR6.out.2.trans hb7⟩
          clear hR7 hb7
          rw [show kidsV none = #[.int .i64 0, .bool false] from rfl]
          go_wp2_with fail
          go_ret
          exact ⟨rfl, HF7.out⟩
        | some c =>
          go_wp2_with fail
          refine Calls.mono HKD.out ?_
          rintro e w7 ⟨rfl, hR7, hb7⟩
          have HF7 : Hid (Rd B w7 b s rj rY ∧ Below B W w7) := ⟨hR7, HR6.out.2.trans hb7⟩
          clear hR7 hb7
          rw [show kidsV (some c) = #[.int .i64 (c : Nat), .bool true] from rfl]
          obtain ⟨gN, capN, hcN, hpN, hoN⟩ : ∃ g cap, w7.cell? ⟨b, 2, none⟩ = some (.slice (some ⟨g, 0, none⟩) rY.length cap) ∧ PlC w7 b 105 s rj [.slice (some ⟨g, 0, none⟩) rY.length cap] ∧ w7.ownsRow B 50 5 (.slice (some ⟨g, 0, none⟩) rY.length cap) rY.length (ndCs rY) := by
            obtain ⟨ad, cap, h1, _, h3, h4⟩ := HF7.out.1.cells
            rcases h4.2 with ⟨hv, h0⟩ | ⟨g, cap', cur, hv, _⟩
            · omega
            · cases hv
              exact ⟨g, cap, h1, h3, h4⟩
          have hlt : X.length < rY.length := by omega
          have CN : ∃ cs, Cel w7 gN 50 cs ∧ rY.length * 5 ≤ cs.size := by
            rcases hoN.2 with ⟨hv, _⟩ | ⟨g, cap', cur, hv, _, hc, h1, _, h2, _⟩
            · cases hv
            · cases hv
              exact ⟨cur, hc, by omega⟩
          obtain ⟨csN, hcsN, hszN⟩ := CN
          have s1 : w7.cell? ⟨gN, X.length * 5 + 2, none⟩ = some (csN[X.length * 5 + 2]'(by omega)) := (hcsN.cell _).trans (Array.getElem?_eq_getElem _)
          have s2 := hcsN.frozen (X.length * 5 + 2)
          have hbn : b ≠ gN := fun e => by
            subst e
            have := (show w7.heap[b]? = _ from hpN).symm.trans (show w7.heap[b]? = _ from hcsN)
            simp at this
          have hc8 := hcsN.set (j := X.length * 5 + 2) (.int .i64 (c : Nat))
          have hp8 : PlC (w7.setCell ⟨gN, X.length * 5 + 2, none⟩ (.int .i64 (c : Nat))) b 105 s rj [.slice (some ⟨gN, 0, none⟩) rY.length capN] := Cel.other (show Cel w7 b 105 _ from hpN) hbn _
          have t0 := Cel.cell hp8 2
          have t1 : (w7.setCell ⟨gN, X.length * 5 + 2, none⟩ (.int .i64 (c : Nat))).cell? ⟨gN, X.length * 5 + 3, none⟩ = some ((csN.setIfInBounds (X.length * 5 + 2) (.int .i64 (c : Nat)))[X.length * 5 + 3]'(by simp; omega)) := (hc8.cell _).trans (Array.getElem?_eq_getElem _)
          have t2 := hc8.frozen (X.length * 5 + 3)
          have HFIN : Hid (Rd B ((w7.setCell ⟨gN, X.length * 5 + 2, none⟩ (.int .i64 (c : Nat))).setCell ⟨gN, X.length * 5 + 3, none⟩ (.int .i64 ((rY.length : Int) - X.length))) b s rj (fixN rY X.length c) ∧ Below B W ((w7.setCell ⟨gN, X.length * 5 + 2, none⟩ (.int .i64 (c : Nat))).setCell ⟨gN, X.length * 5 + 3, none⟩ (.int .i64 ((rY.length : Int) - X.length)))) := by
            have hgB : B ≤ gN := (hoN.lt gN rfl).1
            have ho9 := owns_write (j := X.length * 5 + 3) (owns_write (j := X.length * 5 + 2) hoN (.int .i64 (c : Nat))) (.int .i64 ((rY.length : Int) - X.length))
            rw [ndCs_fix] at ho9
            have e1 : rY.length = (fixN rY X.length c).length := (len_fix _ _ _).symm
            refine ⟨⟨?_, HF7.out.1.2.1, HF7.out.1.2.2.1, ?_, .slice (some ⟨gN, 0, none⟩) rY.length capN, Cel.other (show Cel _ b 105 _ from hp8) hbn _, ?_⟩, (HF7.out.2.setCell (p := ⟨gN, X.length * 5 + 2, none⟩) hgB _).setCell (p := ⟨gN, X.length * 5 + 3, none⟩) hgB _⟩
            · have h0 : (0 : Nat) ≠ gN := by
                have := HF7.out.1.2.1
                omega
              exact KnAt.other (KnAt.other HF7.out.1.1 h0 _) h0 _
            · have := HF7.out.1.2.2.2.1
              simpa [World.setCell] using this
            · rw [← e1]
              exact ho9
          clear hcsN hc8 hp8 hoN hpN
          go_wp2_with fail
          go_region
          all_goals
            go_wp2_with fail
            go_ret
            exact ⟨rfl, HFIN.out.1.drew, HFIN.out.2.drew⟩
      refine AllReadyH.cons rfl (fun K' hK => ?_) AllReadyH.nil
      go_simp
      have hS4 : ToldC g5 n (w3.drew.alloc (.cells #[.int .i64 n.kind, .int .i64 n.n, .int .i64 n.k, .int .i64 n.size, str n.s] 50)) := Cel.turn (Hid.out hS0) (Turn.ofBelow (S := fun _ => False) (below_new w3.drew _)) (fun h => h)
      refine hK.out _ _ hS4 (fun _ => ?_)
      clear hK K'
      try simp only [Act.put, List.getElem_toArray, List.getElem_cons_succ, List.getElem_cons_zero, List.setIfInBounds_toArray, List.set_cons_zero, List.set_cons_succ]
      have c4 : (w3.alloc (.cells #[.int .i64 n.kind, .int .i64 n.n, .int .i64 n.k, .int .i64 n.size, str n.s] 50)).drew.cell? ⟨b, 2, none⟩ = some (.slice ad X.length cap) := Cel.cell (Cel.turn (show Cel w3.drew b 105 _ from HPL.out.1) (Turn.ofBelow (S := fun _ => False) (below_new w3.drew _)) (fun h => h)) 2
      refine wpAnyH_ready (rs := [4]) (by kernel_rfl) (by simp) ?_
      refine AllReadyH.cons rfl (fun K' hK => ?_) AllReadyH.nil
      go_simp
      refine hK.out _ _ hS4 (fun _ => ?_)
      clear hK K' c4
      try simp only [Act.put, List.getElem_toArray, List.getElem_cons_succ, List.getElem_cons_zero, List.setIfInBounds_toArray, List.set_cons_zero, List.set_cons_succ]
      refine wpAnyH_ready (rs := [7]) (by kernel_rfl) (by simp) ?_
      refine AllReadyH.cons rfl (fun K' hK => ?_) AllReadyH.nil
      have hR4 : Rd B (w3.drew.alloc (.cells #[.int .i64 n.kind, .int .i64 n.n, .int .i64 n.k, .int .i64 n.size, str n.s] 50)) b s j X := HR3.out.1.drew.below (below_new w3.drew _)
      have hb4 : Below B W (w3.drew.alloc (.cells #[.int .i64 n.kind, .int .i64 n.n, .int .i64 n.k, .int .i64 n.size, str n.s] 50)) := HR3.out.2.drew.alloc HR3.out.1.2.2.2.1 _
      have hp4 : PlC (w3.drew.alloc (.cells #[.int .i64 n.kind, .int .i64 n.n, .int .i64 n.k, .int .i64 n.size, str n.s] 50)) b 105 s j [.slice ad X.length cap] := Cel.turn (show Cel w3.drew b 105 _ from HPL.out.1) (Turn.ofBelow (S := fun _ => False) (below_new w3.drew _)) (fun h => h)
      have ho4 : (w3.drew.alloc (.cells #[.int .i64 n.kind, .int .i64 n.n, .int .i64 n.k, .int .i64 n.size, str n.s] 50)).ownsRow B 50 5 (.slice ad X.length cap) X.length (ndCs X) := (show w3.drew.ownsRow B 50 5 (.slice ad X.length cap) X.length (ndCs X) from HPL.out.2.1).alloc _
      refine step_append6 (X := X) (n := n) (g := w3.heap.size) _ _ rfl rfl rfl ho4 (cells_new w3.drew (ndC n) 50) hkp hR4.2.2.2.1 ?_
      intro v5 w5 ho5 hg5
      obtain ⟨hp5, hR5, hb5⟩ := Rd.put hR4.1 hR4.2.1 hR4.2.2.1 hR4.2.2.2.1 hp4 ho4 hg5 ho5
      have hS5 : ToldC g5 n w5 := Cel.turn (Hid.out hS4) (Turn.ofGrown hg5) (fun e => HPL.out.2.2 e)
      obtain ⟨ad5, n5, cap5, rfl⟩ : ∃ ad m cap, v5 = .slice ad m cap := by
        obtain ⟨ad, cap, h⟩ := owns_slice ho5
        exact ⟨ad, _, cap, h⟩
      refine hK.out _ _ hS5 (fun _ => ?_)
      clear hK K'
      try simp only [Act.put, List.getElem_toArray, List.getElem_cons_succ, List.getElem_cons_zero, List.setIfInBounds_toArray, List.set_cons_zero, List.set_cons_succ]
      have c5 := Cel.cell hp5 2
      have f5 := Cel.frozen hp5 2
      have HR6 : Hid (Rd B (w5.setCell ⟨b, 2, none⟩ (.slice ad5 n5 cap5)) b s j (X ++ [n]) ∧ Below B W (w5.setCell ⟨b, 2, none⟩ (.slice ad5 n5 cap5))) := ⟨hR5, hb4.trans hb5⟩
      have hS6 : ToldC g5 n (w5.setCell ⟨b, 2, none⟩ (.slice ad5 n5 cap5)) := Cel.other (Hid.out hS5) (fun e => by
        subst e
        have := (show w5.heap[g5]? = _ from hp5).symm.trans (show w5.heap[g5]? = _ from hS5)
        simp at this) _
      clear hR4 hb4 hp4 ho4 ho5 hg5 hR5 hb5 hp5
      clear hS0
      have hS0 := hS5
      refine wpAnyH_take (i := 8) (v := .pointer (some ⟨b, 0, none⟩)) rfl (by kernel_rfl) (by kernel_rfl) (by kernel_rfl) (fun _ _ _ h => h) (Yields.yieldsIf (Or.inl ⟨by rfl, by intro wz; go_simp⟩)) hS0 ?_
      try simp only [Act.put, List.getElem_toArray, List.getElem_cons_succ, List.getElem_cons_zero, List.setIfInBounds_toArray, List.set_cons_zero, List.set_cons_succ]
      refine wpAnyH_take (i := 9) (v := .pointer (some ⟨b, 2, none⟩)) rfl (by kernel_rfl) (by kernel_rfl) (by kernel_rfl) (fun _ _ _ h => h) (Yields.yieldsIf (Or.inl ⟨by rfl, by intro wz; go_simp⟩)) hS0 ?_
      try simp only [Act.put, List.getElem_toArray, List.getElem_cons_succ, List.getElem_cons_zero, List.setIfInBounds_toArray, List.set_cons_zero, List.set_cons_succ]
      refine wpAnyH_ready (rs := [10]) (by kernel_rfl) (by simp) ?_
      refine AllReadyH.cons rfl (fun K' hK => ?_) AllReadyH.nil
      go_simp
      refine hK.out _ _ hS6 (fun _ => ?_)
      clear hK K'
      try simp only [Act.put, List.getElem_toArray, List.getElem_cons_succ, List.getElem_cons_zero, List.setIfInBounds_toArray, List.set_cons_zero, List.set_cons_succ]
      refine wpAnyH_done (by kernel_rfl) ?_ _
      clear hS0 hS4 hS5 hS6 c5 f5
      generalize hw6 : w5.setCell ⟨b, 2, none⟩ (.slice ad5 n5 cap5) = w6 at *
      clear hw6
      have HKD : Hid _ := HK.out B b (d + 1) j (X ++ [n]) w6 HR6.out.1 (by omega) hjl (by omega) (by rw [List.length_append]; simp; omega)
      have hln := (read_len s f).2 (d + 1) j (X ++ [n]) 0 (by rw [List.length_append]; simp; omega)
      rw [HRR.out] at HKD hln
      obtain ⟨ro, rj, rY⟩ := R
      simp only at hln
      rw [List.length_append, List.length_singleton] at hln
      cases ro with
      | none =>
        go_wp2_with fail
        refine Calls.mono HKD.out ?_
        rintro e w7 ⟨rfl, hR7, hb7⟩
        have HF7 : Hid (Rd B w7 b s rj rY ∧ Below B W w7) := ⟨hR7, HR6.out.2.trans hb7⟩
        clear hR7 hb7
        rw [show kidsV none = #[.int .i64 0, .bool false] from rfl]
        go_wp2_with fail
        go_ret
        exact ⟨rfl, HF7.out⟩
      | some c =>
        go_wp2_with fail
        refine Calls.mono HKD.out ?_
        rintro e w7 ⟨rfl, hR7, hb7⟩
        have HF7 : Hid (Rd B w7 b s rj rY ∧ Below B W w7) := ⟨hR7, HR6.out.2.trans hb7⟩
        clear hR7 hb7
        rw [show kidsV (some c) = #[.int .i64 (c : Nat), .bool true] from rfl]
        obtain ⟨gN, capN, hcN, hpN, hoN⟩ : ∃ g cap, w7.cell? ⟨b, 2, none⟩ = some (.slice (some ⟨g, 0, none⟩) rY.length cap) ∧ PlC w7 b 105 s rj [.slice (some ⟨g, 0, none⟩) rY.length cap] ∧ w7.ownsRow B 50 5 (.slice (some ⟨g, 0, none⟩) rY.length cap) rY.length (ndCs rY) := by
          obtain ⟨ad, cap, h1, _, h3, h4⟩ := HF7.out.1.cells
          rcases h4.2 with ⟨hv, h0⟩ | ⟨g, cap', cur, hv, _⟩
          · omega
          · cases hv
            exact ⟨g, cap, h1, h3, h4⟩
        have hlt : X.length < rY.length := by omega
        have CN : ∃ cs, Cel w7 gN 50 cs ∧ rY.length * 5 ≤ cs.size := by
          rcases hoN.2 with ⟨hv, _⟩ | ⟨g, cap', cur, hv, _, hc, h1, _, h2, _⟩
          · cases hv
          · cases hv
            exact ⟨cur, hc, by omega⟩
        obtain ⟨csN, hcsN, hszN⟩ := CN
        have s1 : w7.cell? ⟨gN, X.length * 5 + 2, none⟩ = some (csN[X.length * 5 + 2]'(by omega)) := (hcsN.cell _).trans (Array.getElem?_eq_getElem _)
        have s2 := hcsN.frozen (X.length * 5 + 2)
        have hbn : b ≠ gN := fun e => by
          subst e
          have := (show w7.heap[b]? = _ from hpN).symm.trans (show w7.heap[b]? = _ from hcsN)
          simp at this
        have hc8 := hcsN.set (j := X.length * 5 + 2) (.int .i64 (c : Nat))
        have hp8 : PlC (w7.setCell ⟨gN, X.length * 5 + 2, none⟩ (.int .i64 (c : Nat))) b 105 s rj [.slice (some ⟨gN, 0, none⟩) rY.length capN] := Cel.other (show Cel w7 b 105 _ from hpN) hbn _
        have t0 := Cel.cell hp8 2
        have t1 : (w7.setCell ⟨gN, X.length * 5 + 2, none⟩ (.int .i64 (c : Nat))).cell? ⟨gN, X.length * 5 + 3, none⟩ = some ((csN.setIfInBounds (X.length * 5 + 2) (.int .i64 (c : Nat)))[X.length * 5 + 3]'(by simp; omega)) := (hc8.cell _).trans (Array.getElem?_eq_getElem _)
        have t2 := hc8.frozen (X.length * 5 + 3)
        have HFIN : Hid (Rd B ((w7.setCell ⟨gN, X.length * 5 + 2, none⟩ (.int .i64 (c : Nat))).setCell ⟨gN, X.length * 5 + 3, none⟩ (.int .i64 ((rY.length : Int) - X.length))) b s rj (fixN rY X.length c) ∧ Below B W ((w7.setCell ⟨gN, X.length * 5 + 2, none⟩ (.int .i64 (c : Nat))).setCell ⟨gN, X.length * 5 + 3, none⟩ (.int .i64 ((rY.length : Int) - X.length)))) := by
          have hgB : B ≤ gN := (hoN.lt gN rfl).1
          have ho9 := owns_write (j := X.length * 5 + 3) (owns_write (j := X.length * 5 + 2) hoN (.int .i64 (c : Nat))) (.int .i64 ((rY.length : Int) - X.length))
          rw [ndCs_fix] at ho9
          have e1 : rY.length = (fixN rY X.length c).length := (len_fix _ _ _).symm
          refine ⟨⟨?_, HF7.out.1.2.1, HF7.out.1.2.2.1, ?_, .slice (some ⟨gN, 0, none⟩) rY.length capN, Cel.other (show Cel _ b 105 _ from hp8) hbn _, ?_⟩, (HF7.out.2.setCell (p := ⟨gN, X.length * 5 + 2, none⟩) hgB _).setCell (p := ⟨gN, X.length * 5 + 3, none⟩) hgB _⟩
          · have h0 : (0 : Nat) ≠ gN := by
              have := HF7.out.1.2.1
              omega
            exact KnAt.other (KnAt.other HF7.out.1.1 h0 _) h0 _
          · have := HF7.out.1.2.2.2.1
            simpa [World.setCell] using this
          · rw [← e1]
            exact ho9
        clear hcsN hc8 hp8 hoN hpN
        go_wp2_with fail
        go_region
        all_goals
          go_wp2_with fail
          go_ret
          exact ⟨rfl, HFIN.out.1.drew, HFIN.out.2.drew⟩
    · rw [if_neg hkp]
      have hkpi : ¬ (X.length : Int) ≤ 3000 := by omega
      obtain ⟨R, HRR⟩ : ∃ R, Hid (kidsG s f (d + 1) j X 0 = R) := ⟨_, rfl⟩
      rw [HRR.out]
      go_enter Tryz.func69, Tryz.ntmps69
      go_wp2_with fail
      refine Calls.mono HTK.out ?_
      rintro e w1 ⟨rfl, hR1, hb1⟩
      obtain ⟨nv, hp1, ho1⟩ := hR1.opn
      have HND : Hid _ := node_any hp1 hR1.1 hs hkl
      have HGN : Hid (∀ w', Gone w1 b 105 s j [nv] w' → Rd B w' b s j X ∧ Below B W w') := fun w' hg => ⟨(Rd.gone hR1.1 hR1.2.1 hR1.2.2.1 hR1.2.2.2.1 ho1 hp1 hg).1, hb1.trans (Rd.gone hR1.1 hR1.2.1 hR1.2.2.1 hR1.2.2.2.1 ho1 hp1 hg).2⟩
      clear hR1 hb1 hp1 ho1
      go_wp2_with fail
      refine Calls.mono HND.out ?_
      rintro e w2 ⟨cs, rfl, ⟨_, hcs⟩, hg2⟩
      obtain rfl := hcs n HNS.out
      rw [HNO.out, ndC_arr]
      rw [HJ.out] at hg2
      obtain ⟨hR2, hb2⟩ := HGN.out w2 hg2
      have HR3 : Hid (Rd B (w2.alloc (.cells #[.int .i64 n.kind, .int .i64 n.n, .int .i64 n.k, .int .i64 n.size, str n.s] 50)) b s j X ∧ Below B W (w2.alloc (.cells #[.int .i64 n.kind, .int .i64 n.n, .int .i64 n.k, .int .i64 n.size, str n.s] 50))) := ⟨hR2.below (below_new w2 _), hb2.alloc hR2.2.2.2.1 _⟩
      obtain ⟨ad, cap, c3, f3, _, _⟩ := HR3.out.1.cells
      have HKD : Hid _ := HK.out B b (d + 1) j X _ HR3.out.1 (by omega) hjl (by omega) hX
      rw [HRR.out] at HKD
      clear hg2 hcs hR2 hb2 HND HGN
      obtain ⟨ro, rj, rY⟩ := R
      cases ro with
      | none =>
        go_wp2_with fail
        refine Calls.mono HKD.out ?_
        rintro e w7 ⟨rfl, hR7, hb7⟩
        have HF7 : Hid (Rd B w7 b s rj rY ∧ Below B W w7) := ⟨hR7, HR3.out.2.trans hb7⟩
        clear hR7 hb7
        rw [show kidsV none = #[.int .i64 0, .bool false] from rfl]
        go_wp2_with fail
        go_ret
        exact ⟨rfl, HF7.out⟩
      | some c =>
        go_wp2_with fail
        refine Calls.mono HKD.out ?_
        rintro e w7 ⟨rfl, hR7, hb7⟩
        have HF7 : Hid (Rd B w7 b s rj rY ∧ Below B W w7) := ⟨hR7, HR3.out.2.trans hb7⟩
        clear hR7 hb7
        rw [show kidsV (some c) = #[.int .i64 (c : Nat), .bool true] from rfl]
        go_wp2_with fail
        go_ret
        exact ⟨rfl, HF7.out⟩
/-- The reader's tree and kids, whatever the text. -/
theorem read_all (s : ByteArray) (hs : s.size < 8796093022208) : ∀ f : Nat, TreeC s f ∧ KidsC s f := by
  intro f
  induction f using Nat.strongRecOn with
  | _ f ih =>
    have hk : KidsC s f := kids_of s hs f (fun f' hf' => (ih f' hf').1)
    refine ⟨?_, hk⟩
    cases f with
    | zero => intro B b d k X W hR hf; omega
    | succ f => exact tree_of s hs f (ih f (Nat.lt_succ_self f)).2
end Go.Proofs.YtaildeglikhkaaaGreatDoor
