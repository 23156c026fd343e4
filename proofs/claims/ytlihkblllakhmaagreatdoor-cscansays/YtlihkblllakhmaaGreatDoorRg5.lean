/- The document's scanner: what stands here, a text behind other parts. -/
import Derived.Test.YtlihkblllakhmaaGreatDoorRg4
namespace Go.Proofs.YtlihkblllakhmaaGreatDoor
open Go.RowKit
attribute [local go_sem] Oper.semAt_some

/-- One step of the document's scanner, behind other parts. -/
def jnR (X : List Pt) : Except Er (Pt × List UInt8) → Except Er (List Pt × List UInt8)
  | .error x => .error x
  | .ok q => .ok (joinP X q.1, q.2)
/-- Parts behind others, or an error; where the scanner stands; only its block turned, and blocks that lie behind B. -/
def PrtR (W : World) (b B : Nat) (s : ByteArray) (av : Value) (R : Except Er (List Pt × List UInt8)) (v' : Value) (w' : World) : Prop := Turn (fun g => g = b ∨ B ≤ g) W w' ∧ match R with
  | .ok q => QtOwn w' B v' q.1 ∧ ∃ j, Lx w' b s j 0 av ∧ j ≤ s.size ∧ q.2 = s.data.toList.drop j
  | .error x => (∃ (ad : Option Addr) (n cap : Nat), v' = .slice ad n cap) ∧ ∃ j fb, Lx w' b s j (codE x.code) (.slice (some ⟨fb, 0, none⟩) 1 1) ∧ Cel w' fb 3 #[.int .i64 (x.pos : Nat)]
theorem Turn.both {b B : Nat} {W X w' : World} (h1 : Turn (fun g => g = b) W X) (h2 : Below B X w') : Turn (fun g => g = b ∨ B ≤ g) W w' :=
  Turn.trans (S := fun g => g = b ∨ B ≤ g) (T := fun g => B ≤ g) ⟨h1.os, h1.tape, h1.output, h1.size, fun k hk hs => h1.block k hk (fun e => hs (Or.inl e))⟩ (Turn.above h2) (fun _ e _ => Or.inr e)
theorem Turn.wide {b B : Nat} {W X : World} (h1 : Turn (fun g => g = b) W X) : Turn (fun g => g = b ∨ B ≤ g) W X := ⟨h1.os, h1.tape, h1.output, h1.size, fun k hk hs => h1.block k hk (fun e => hs (Or.inl e))⟩
theorem Lx.move {X : World} {b : Nat} {s : ByteArray} {j j' : Nat} {av : Value} (h : Lx X b s j 0 av) {v : Int} (hv : v = (j' : Nat)) : Lx (X.setCell ⟨b, 1, none⟩ (.int .i64 v)) b s j' 0 av := by
  subst hv
  exact Cel.set (j := 1) h _
theorem Turn.move {b : Nat} (X : World) (v : Value) : Turn (fun g => g = b) X (X.setCell ⟨b, 1, none⟩ v) := Turn.setCell (S := fun g => g = b) (p := ⟨b, 1, none⟩) (Turn.refl _ X) (fun _ => rfl) v
/-- A text of one byte behind the parts, the scanner moved. -/
theorem text_call {W : World} {b B : Nat} {s : ByteArray} {i j : Nat} {av v : Value} {X : List Pt} (h : Lx W b s i 0 av) (hO : QtOwn W B v X) (hbB : b < B) (hBW : B ≤ W.heap.size) (hX : X.length < 100000) (hXs : ∀ p ∈ X, p.s.length ≤ 100000) (hj : j ≤ s.size) (t : ByteArray) (ht : t.size ≤ 100000) (n : Int) (hn : n = (j : Nat)) :
    Calls Tryz.prog 53 #[v, .int .i64 (i : Nat), .string t] (W.setCell ⟨b, 1, none⟩ (.int .i64 n)) fun e w' => ∃ v', e = .returned v' ∧ PrtR W b B s av (.ok (joinP X ⟨1, i, 0, t.data.toList⟩, s.data.toList.drop j)) v' w' := by
  have HL1 := h.move hn
  have HT1 : Turn (fun g => g = b) W (W.setCell ⟨b, 1, none⟩ (.int .i64 n)) := Turn.move W _
  refine (dtext_any (hO.turn HT1 (fun _ e => by omega)) (Nat.le_trans hBW HT1.size) i t hX hXs ht).mono ?_
  rintro e w' ⟨v', rfl, h1, h2⟩
  exact ⟨v', rfl, HT1.both h2, h1, j, HL1.below h2 hbB, hj, rfl⟩
theorem one_eq (s : ByteArray) (i : Nat) (hi : i < s.size) : (s.extract i (i + 1)).data.toList = [s[i]] := by
  rw [Lib.extract_eq, drop_cons s i hi, show i + 1 - i = 1 by omega]
  rfl
set_option maxRecDepth 100000 in
set_option maxHeartbeats 4000000 in
theorem part_escEnd {W : World} {b B : Nat} {s : ByteArray} {i : Nat} {av v : Value} {X : List Pt} (h : Lx W b s i 0 av) (hO : QtOwn W B v X) (hbB : b < B) (hBW : B ≤ W.heap.size) (hs : s.size ≤ 8192) (hX : X.length < 100000) (hXs : ∀ p ∈ X, p.s.length ≤ 100000) (hi : i < s.size) (hc : s[i] = 92) (hn : s.size ≤ i + 1) :
    Calls Tryz.prog 42 #[.pointer (some ⟨b, 0, none⟩), v] W fun e w' => ∃ v', e = .returned v' ∧ PrtR W b B s av (jnR X (stepD s.size (s.data.toList.drop i))) v' w' := by
  obtain ⟨ad, cap, rfl⟩ := hO.form
  have l0 : W.cell? ⟨b, 0, none⟩ = some (.string s) := h.cell 0
  have l1 : W.cell? ⟨b, 1, none⟩ = some (.int .i64 (i : Nat)) := h.cell 1
  have lf := h.frozen 1
  have HC : Hid _ := text_call h hO hbB hBW hX hXs (show i + 1 ≤ s.size by omega) ⟨#[92]⟩ (by decide) ((i : Int) + 1) (by simp)
  have hi' : (i : Int) < (s.size : Int) := by omega
  have HR : Hid (jnR X (stepD s.size (s.data.toList.drop i)) = .ok (joinP X ⟨1, i, 0, [92]⟩, s.data.toList.drop (i + 1))) := by
    unfold Hid
    rw [drop_cons s i hi, hc, drop_none s (i + 1) (by omega), stepD_cons, if_pos rfl, show s.size - (([] : List UInt8).length + 1) = i by simp; omega]
    rfl
  rw [HR.out]
  have q92 : (((s[i]).toNat : Int) == 92) = true := by rw [hc]; rfl
  have hn1 : (s.size : Int) ≤ (i : Int) + 1 := by omega
  clear hc HR h hO hXs
  go_enter Tryz.func42, Tryz.ntmps42
  go_wp2_with fail
  refine Calls.mono HC.out ?_
  rintro e w1 ⟨v', rfl, hq⟩
  have HQ : Hid _ := hq
  clear hq
  go_wp2_with fail
  go_ret
  exact ⟨v', rfl, HQ.out⟩
set_option maxRecDepth 100000 in
set_option maxHeartbeats 4000000 in
theorem part_plain {W : World} {b B : Nat} {s : ByteArray} {i : Nat} {av v : Value} {X : List Pt} (h : Lx W b s i 0 av) (hO : QtOwn W B v X) (hbB : b < B) (hBW : B ≤ W.heap.size) (hs : s.size ≤ 8192) (hX : X.length < 100000) (hXs : ∀ p ∈ X, p.s.length ≤ 100000) (hi : i < s.size) (hc : s[i] ≠ 92) (hc2 : s[i] ≠ 91) (hc3 : s[i] ≠ 36) :
    Calls Tryz.prog 42 #[.pointer (some ⟨b, 0, none⟩), v] W fun e w' => ∃ v', e = .returned v' ∧ PrtR W b B s av (jnR X (stepD s.size (s.data.toList.drop i))) v' w' := by
  obtain ⟨ad, cap, rfl⟩ := hO.form
  have l0 : W.cell? ⟨b, 0, none⟩ = some (.string s) := h.cell 0
  have l1 : W.cell? ⟨b, 1, none⟩ = some (.int .i64 (i : Nat)) := h.cell 1
  have lf := h.frozen 1
  have HC : Hid _ := text_call h hO hbB hBW hX hXs (show i + 1 ≤ s.size by omega) (s.extract i (i + 1)) (by simp; omega) ((i : Int) + 1) (by simp)
  have m0 : (W.setCell ⟨b, 1, none⟩ (.int .i64 ((i : Int) + 1))).cell? ⟨b, 0, none⟩ = some (.string s) := (h.move (j' := i + 1) (by simp)).cell 0
  have hi' : (i : Int) < (s.size : Int) := by omega
  have hd : dolB (s[i] :: s.data.toList.drop (i + 1)) = false := by
    rcases s.data.toList.drop (i + 1) with _ | ⟨c, t⟩
    · rfl
    · simp [dolB, hc3]
  have HR : Hid (jnR X (stepD s.size (s.data.toList.drop i)) = .ok (joinP X ⟨1, i, 0, (s.extract i (i + 1)).data.toList⟩, s.data.toList.drop (i + 1))) := by
    unfold Hid
    have hl := len_drop s (i + 1)
    rw [one_eq s i hi, drop_cons s i hi, stepD_cons, if_neg hc, if_neg hc2, if_neg (by rw [hd]; simp), show s.size - ((s.data.toList.drop (i + 1)).length + 1) = i by omega]
    rfl
  rw [HR.out]
  have q92 : (((s[i]).toNat : Int) == 92) = false := byte_ne s[i] 92 hc
  have q91 : (((s[i]).toNat : Int) == 91) = false := byte_ne s[i] 91 hc2
  have q36 : (((s[i]).toNat : Int) == 36) = false := byte_ne s[i] 36 hc3
  clear hc hc2 hc3 HR h hO hXs hd
  go_enter Tryz.func42, Tryz.ntmps42
  go_wp2_with fail
  refine Calls.mono HC.out ?_
  rintro e w1 ⟨v', rfl, hq⟩
  have HQ : Hid _ := hq
  clear hq
  go_wp2_with fail
  go_ret
  exact ⟨v', rfl, HQ.out⟩
end Go.Proofs.YtlihkblllakhmaaGreatDoor
