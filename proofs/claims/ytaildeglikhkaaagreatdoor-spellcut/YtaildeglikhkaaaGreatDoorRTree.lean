/- A node and all below it, read. -/
import Derived.Test.YtaildeglikhkaaaGreatDoorRead
import Derived.OrdersHeld
import Derived.Deep.RegionHeld
import Derived.Deep.Cut
namespace Go.Proofs.YtaildeglikhkaaaGreatDoor
open Go.RowKit

/-- A reader: its text, its place, its nodes; all that it turns lies at B or above. -/
def Rd (B : Nat) (W : World) (b : Nat) (s : ByteArray) (k : Nat) (X : List Nd) : Prop := KnAt W ∧ 0 < B ∧ B ≤ b ∧ B ≤ W.heap.size ∧ ∃ nv, PlC W b 105 s k [nv] ∧ W.ownsRow B 50 5 nv X.length (ndCs X)
theorem Rd.gone {B b k j : Nat} {W w' : World} {s : ByteArray} {X : List Nd} {nv : Value} (hk : KnAt W) (h0 : 0 < B) (hb : B ≤ b) (hB : B ≤ W.heap.size) (ho : W.ownsRow B 50 5 nv X.length (ndCs X)) (hp : PlC W b 105 s k [nv]) (hg : Gone W b 105 s j [nv] w') : Rd B w' b s j X ∧ Below B W w' := by
  refine ⟨⟨hk.turn hg.turn (fun e => by omega), h0, hb, Nat.le_trans hB hg.turn.size, nv, hg.at_, owns_turn ho hg.turn (fun c hc e => ?_)⟩, hg.turn.below (fun i e => by rw [e]; exact hb) hB⟩
  subst e
  exact owns_apart (show Cel W c 105 _ from hp) ho (by decide) hc
theorem Rd.drew {B b k : Nat} {W : World} {s : ByteArray} {X : List Nd} (h : Rd B W b s k X) : Rd B W.drew b s k X := h
theorem place_set {W : World} {b k j : Nat} {s : ByteArray} {r : List Value} (h : PlC W b 105 s k r) : Gone W b 105 s j r (W.setCell ⟨b, 1, none⟩ (.int .i64 (j : Nat))) := (Gone.refl h).set j
theorem info50 : (Tryz.prog.info? 50).map (fun i => (i.zero, i.size, i.bytes)) = some (some (.agg #[.int .i64 0, .int .i64 0, .int .i64 0, .int .i64 0, .string ⟨#[]⟩]), 5, 48) := by kernel_rfl
/-- The reader's tree, with so much fuel. -/
def TreeC (s : ByteArray) (f : Nat) : Prop := ∀ (B b d k : Nat) (X : List Nd) (W : World), Rd B W b s k X → s.size - k < f → k ≤ s.size → d ≤ 121 → X.length ≤ 3001 →
  Calls Tryz.prog 69 #[.pointer (some ⟨b, 0, none⟩), .int .i64 (d : Nat)] W fun e w' => e = .returned (.bool (treeG s f d k X).1) ∧ Rd B w' b s (treeG s f d k X).2.1 (treeG s f d k X).2.2 ∧ Below B W w'
def kidsV : Option Nat → Array Value
  | none => #[.int .i64 0, .bool false]
  | some c => #[.int .i64 (c : Nat), .bool true]
def KidsC (s : ByteArray) (f : Nat) : Prop := ∀ (B b d k : Nat) (X : List Nd) (W : World), Rd B W b s k X → s.size - k < f → k ≤ s.size → d ≤ 121 → X.length ≤ 3001 →
  Calls Tryz.prog 84 #[.pointer (some ⟨b, 0, none⟩), .int .i64 (d : Nat)] W fun e w' => e = .returned (.tuple (kidsV (kidsG s f d k X 0).1)) ∧ Rd B w' b s (kidsG s f d k X 0).2.1 (kidsG s f d k X 0).2.2 ∧ Below B W w'
theorem len_fix (X : List Nd) (i c : Nat) : (fixN X i c).length = X.length := by simp [fixN]
/-- No more nodes than may be kept. -/
theorem read_len (s : ByteArray) : ∀ f : Nat, (∀ d k X, X.length ≤ 3001 → (treeG s f d k X).2.2.length ≤ 3001 ∧ X.length ≤ (treeG s f d k X).2.2.length) ∧ (∀ d k X c, X.length ≤ 3001 → (kidsG s f d k X c).2.2.length ≤ 3001 ∧ X.length ≤ (kidsG s f d k X c).2.2.length) := by
  intro f
  induction f with
  | zero => exact ⟨fun _ _ _ h => by rw [treeG]; exact ⟨h, Nat.le_refl _⟩, fun _ _ _ _ h => by rw [kidsG]; exact ⟨h, Nat.le_refl _⟩⟩
  | succ f ih =>
    refine ⟨fun d k X h => ?_, fun d k X c h => ?_⟩
    · rw [treeG]
      split
      · exact ⟨h, Nat.le_refl _⟩
      · split
        · cases (noR s (k + 1)).1 with
          | none => exact ⟨h, Nat.le_refl _⟩
          | some n =>
            have hX : (if X.length ≤ 3000 then X ++ [n] else X).length ≤ 3001 ∧ X.length ≤ (if X.length ≤ 3000 then X ++ [n] else X).length := by
              split
              · rw [List.length_append]; simp; omega
              · exact ⟨h, Nat.le_refl _⟩
            have := ih.2 (d + 1) (noR s (k + 1)).2 (if X.length ≤ 3000 then X ++ [n] else X) 0 hX.1
            revert this
            simp only
            rcases kidsG s f (d + 1) (noR s (k + 1)).2 (if X.length ≤ 3000 then X ++ [n] else X) 0 with ⟨_ | c, j, Y⟩
            · exact fun h => ⟨h.1, Nat.le_trans hX.2 h.2⟩
            · intro h
              simp only at h ⊢
              split
              · rw [len_fix]; exact ⟨h.1, Nat.le_trans hX.2 h.2⟩
              · exact ⟨h.1, Nat.le_trans hX.2 h.2⟩
        · exact ⟨h, Nat.le_refl _⟩
    · rw [kidsG]
      split
      · exact ⟨h, Nat.le_refl _⟩
      · split
        · have := ih.1 d (k + 1) X h
          revert this
          rcases treeG s f d (k + 1) X with ⟨_ | _, j, Y⟩
          · exact fun h => h
          · intro h
            have h2 := ih.2 d j Y (c + 1) h.1
            exact ⟨h2.1, Nat.le_trans h.2 h2.2⟩
        · exact ⟨h, Nat.le_refl _⟩
theorem Rd.opn {B b k : Nat} {W : World} {s : ByteArray} {X : List Nd} (h : Rd B W b s k X) : ∃ nv, PlC W b 105 s k [nv] ∧ W.ownsRow B 50 5 nv X.length (ndCs X) := h.2.2.2.2
/-- The place goes on. -/
theorem Rd.at' {B b k j : Nat} {W : World} {s : ByteArray} {X : List Nd} (h : Rd B W b s k X) : Rd B (W.setCell ⟨b, 1, none⟩ (.int .i64 (j : Nat))) b s j X ∧ Below B W (W.setCell ⟨b, 1, none⟩ (.int .i64 (j : Nat))) := by
  obtain ⟨h1, h2, h3, h4, nv, h5, h6⟩ := h
  exact Rd.gone h1 h2 h3 h4 h6 h5 (place_set h5)
theorem Rd.take_yes {B b k : Nat} {W : World} {s : ByteArray} {X : List Nd} (h : Rd B W b s k X) (c : UInt8) (hs : s.size < 8796093022208) (hc : s.data.toList[k]? = some c) :
    Calls Tryz.prog 52 #[.pointer (some ⟨b, 0, none⟩), .int .u8 (c.toNat : Nat)] W fun e w' => e = .returned (.bool true) ∧ Rd B w' b s (k + 1) X ∧ Below B W w' := by
  obtain ⟨nv, hp, _⟩ := h.opn
  refine (Go.Proofs.YtaildeglikhkaaaGreatDoor.take_yes hp.at c (by omega) hc).mono ?_
  rintro e w' ⟨rfl, rfl⟩
  exact ⟨rfl, h.at'⟩
theorem Rd.take_no {B b k : Nat} {W : World} {s : ByteArray} {X : List Nd} (h : Rd B W b s k X) (c : UInt8) (hs : s.size < 8796093022208) (hk : k ≤ s.size) (hc : s.data.toList[k]? ≠ some c) :
    Calls Tryz.prog 52 #[.pointer (some ⟨b, 0, none⟩), .int .u8 (c.toNat : Nat)] W fun e w' => e = .returned (.bool false) ∧ w' = W := by
  obtain ⟨nv, hp, _⟩ := h.opn
  exact Go.Proofs.YtaildeglikhkaaaGreatDoor.take_no hp.at c (by omega) hk hc
theorem Rd.pos {B b k : Nat} {W : World} {s : ByteArray} {X : List Nd} (h : Rd B W b s k X) : posOf W b = k := by
  obtain ⟨nv, hp, _⟩ := h.opn
  exact posOf_at hp.at
set_option maxRecDepth 100000 in
set_option maxHeartbeats 4000000 in
theorem kids_of (s : ByteArray) (hs : s.size < 8796093022208) (f : Nat) (hT : ∀ f', f' < f → TreeC s f') : KidsC s f := by
  intro B b d k X W hR hf hk hd hX
  have HT : Hid (∀ f', f' < f → TreeC s f') := hT
  have HR : Hid (Rd B W b s k X) := hR
  obtain ⟨R, HG⟩ : ∃ R, Hid (kidsG s f d k X 0 = R) := ⟨_, rfl⟩
  rw [HG.out]
  clear hT hR
  go_enter Tryz.func84, Tryz.ntmps84
  go_wp2_with fail
  go_loopw [4, 5, 6] (fun v4 v5 v6 wr => ∃ (c k' f' : Nat) (X' : List Nd), v4 = .int .i64 0 ∧ v5 = .bool false ∧ v6 = .int .i64 c ∧ c ≤ k' ∧ k' ≤ s.size ∧ s.size - k' < f' ∧ f' ≤ f ∧ X'.length ≤ 3001 ∧ Hid (kidsG s f' d k' X' c = R) ∧ Hid (Rd B wr b s k' X' ∧ Below B W wr)) (fun _ _ _ wr => s.size - posOf wr b)
  case atStart => exact ⟨0, k, f, X, rfl, rfl, rfl, Nat.zero_le _, hk, hf, Nat.le_refl _, hX, HG.out, HR.out, Below.refl _ _⟩
  case round =>
    obtain ⟨c, k', f', X', rfl, rfl, rfl, hc, hk', hf', hff, hX', HE, HI⟩ := hrel
    obtain ⟨g, rfl⟩ : ∃ g, f' = g + 1 := ⟨f' - 1, by omega⟩
    have HP : Hid (posOf wr b = k') := HI.out.1.pos
    by_cases h41 : s.data.toList[k']? = some 41
    · have HEQ : Hid (R = (some c, k' + 1, X')) := by
        have := HE.out
        rw [kidsG, if_pos h41] at this
        exact this.symm
      have HTK : Hid _ := HI.out.1.take_yes 41 hs h41
      clear h41
      go_wp2_with fail
      refine Calls.mono HTK.out ?_
      rintro e w1 ⟨rfl, hR1, hb1⟩
      have HF1 : Hid (Rd B w1 b s (k' + 1) X' ∧ Below B W w1) := ⟨hR1, HI.out.2.trans hb1⟩
      clear hR1 hb1
      go_wp2_with fail
      go_ret2
      rw [HEQ.out]
      exact ⟨rfl, HF1.out.1, HF1.out.2⟩
    · have HTK : Hid _ := HI.out.1.take_no 41 hs hk' h41
      have HE2 : Hid ((if s.data.toList[k']? = some 32 then match treeG s g d (k' + 1) X' with | (false, j, Y) => (none, j, Y) | (true, j, Y) => kidsG s g d j Y (c + 1) else (none, k', X')) = R) := by
        have := HE.out
        rw [kidsG, if_neg h41] at this
        exact this
      clear h41 HE
      by_cases h32 : s.data.toList[k']? = some 32
      · have hkl := text_lt s k' 32 h32
        rw [if_pos h32] at HE2
        have HTS : Hid _ := HI.out.1.take_yes 32 hs h32
        clear h32
        go_wp2_with fail
        refine Calls.mono HTK.out ?_
        rintro e w1 ⟨rfl, hw1⟩
        obtain rfl := hw1.symm
        clear hw1
        go_wp2_with fail
        refine Calls.mono HTS.out ?_
        rintro e w2 ⟨rfl, hR2, hb2⟩
        have HTR : Hid _ := HT.out g (by omega) B b d (k' + 1) X' w2 hR2 (by omega) hkl hd hX'
        have hlen := (read_len s g).1 d (k' + 1) X' hX'
        have hle := (read_le s g).1 d (k' + 1) X' hkl
        have hge := (read_ge s g).1 d (k' + 1) X'
        have HB2 : Hid (Below B W w2) := HI.out.2.trans hb2
        clear hR2 hb2
        revert HE2 HTR hlen hle hge
        rcases treeG s g d (k' + 1) X' with ⟨tb, j, Y⟩
        intro HE2 HTR hlen hle hge
        simp only at hlen hle hge
        cases tb with
        | false =>
          have HEQ : Hid (R = (none, j, Y)) := HE2.out.symm
          go_wp2_with fail
          refine Calls.mono HTR.out ?_
          rintro e w3 ⟨rfl, hR3, hb3⟩
          have HF3 : Hid (Rd B w3 b s j Y ∧ Below B W w3) := ⟨hR3, HB2.out.trans hb3⟩
          clear hR3 hb3
          go_wp2_with fail
          go_ret2
          rw [HEQ.out]
          exact ⟨rfl, HF3.out.1, HF3.out.2⟩
        | true =>
          have HEQ : Hid (kidsG s g d j Y (c + 1) = R) := HE2.out
          go_wp2_with fail
          refine Calls.mono HTR.out ?_
          rintro e w3 ⟨rfl, hR3, hb3⟩
          have HF3 : Hid (Rd B w3 b s j Y ∧ Below B W w3) := ⟨hR3, HB2.out.trans hb3⟩
          clear hR3 hb3
          go_wp2_with fail
          refine ⟨⟨c + 1, j, g, Y, rfl, rfl, by simp, by omega, hle, by omega, by omega, hlen.1, HEQ.out, HF3.out⟩, ?_⟩
          rw [HF3.out.1.pos, HP.out]
          omega
      · rw [if_neg h32] at HE2
        have HTS : Hid _ := HI.out.1.take_no 32 hs hk' h32
        clear h32
        go_wp2_with fail
        refine Calls.mono HTK.out ?_
        rintro e w1 ⟨rfl, hw1⟩
        obtain rfl := hw1.symm
        clear hw1
        go_wp2_with fail
        refine Calls.mono HTS.out ?_
        rintro e w2 ⟨rfl, hw2⟩
        obtain rfl := hw2.symm
        clear hw2
        go_wp2_with fail
        go_ret2
        rw [← HE2.out]
        exact ⟨rfl, HI.out.1, HI.out.2⟩
end Go.Proofs.YtaildeglikhkaaaGreatDoor
