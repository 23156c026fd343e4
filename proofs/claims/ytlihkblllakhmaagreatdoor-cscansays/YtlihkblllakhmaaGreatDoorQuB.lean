/- The replacer, over a text. -/
import Derived.Test.YtlihkblllakhmaaGreatDoorQu4
import Derived.Laws.CopyOwn
import Derived.Laws.MakeOwn
import Derived.Deep.RegionLaw
import Derived.BigQuiet
/-! The replacer, built once. -/
namespace Go.Proofs.YtlihkblllakhmaaGreatDoor
open Go.RowKit
attribute [local go_sem] Oper.semAt_some

theorem RepI.turn {B : Nat} {W w : World} {b j : Nat} {cs : Array Value} {tr : Value} {S : Nat → Prop} (h : RepI B W b j cs tr) (hT : Turn S W w) (hS : ∀ i, S i → i < B) (hb : B ≤ b) : RepI B w b j cs tr := by
  refine ⟨h.cel.turn hT (fun e => by have := hS _ e; omega), h.size, h.top, owns_turn h.own hT (fun x hx e => by
    have := (World.ownsRow.lt h.own x hx).1
    have := hS x e
    omega), h.no, ?_⟩
  intro c hc
  obtain ⟨g, k, q1, q2, q3, cur, fr, q4, q5⟩ := h.yes c hc
  exact ⟨g, k, q1, q2, q3, cur, fr, (hT.block g (Array.getElem?_eq_some_iff.1 q4).1 (fun e => by have := hS _ e; omega)).trans q4, q5⟩
/-- The replacer's own cells. -/
def rcells (lock : Int) (once : Int) (r : Value) (old : Value) : Array Value := #[.int .u32 once, .int .i32 lock, .int .u32 0, r, old]
set_option maxRecDepth 100000 in
set_option maxHeartbeats 1000000 in
theorem buildOnce_any (W : World) (q g cap : Nat) (hq : Cel W q 112 (rcells 1 0 .nilIface (.slice (some ⟨g, 0, none⟩) 8 cap))) (hx : ∀ j u, reps[j]? = some u → W.cell? ((⟨g, 0, none⟩ : Addr).add j) = some u) :
    Calls Tryz.prog 46 #[.pointer (some ⟨q, 0, none⟩)] W fun e w' => e = .returned (.tuple #[]) ∧ Hid (OnceHeld q w') ∧ Hid (∃ b cs tr, Cel w' q 112 (rcells 1 0 (.iface 150 (.pointer (some ⟨b, 0, none⟩))) (.slice none 0 0)) ∧ RepI W.heap.size w' b 0 cs tr ∧ W.heap.size ≤ b ∧ Turn (fun i => i = q) W w') := by
  have HB : Hid _ := build_any W q g cap (hq.cell 4) hx
  have HQ : Hid _ := hq
  clear hq hx
  go_enter Tryz.func46, Tryz.ntmps46
  go_wp2_with fail
  refine Calls.mono HB.out ?_
  rintro e w1 ⟨b, cs, tr, rfl, hb, hR, hB⟩
  have c := Cel.below HQ.out hB (Cel.lt HQ.out)
  have hql := Cel.lt HQ.out
  have c3 := c.cell 3
  have c4 := c.cell 4
  have f3 := c.frozen 3
  have f4 := c.frozen 4
  simp only [rcells] at c3 c4
  simp at c3 c4
  go_wp2_with fail
  go_end0
  have k1 := (c.set (j := 3) (.iface 150 (.pointer (some ⟨b, 0, none⟩)))).set (j := 4) (.slice none 0 0)
  have hT : Turn (fun i => i = q) W ((w1.setCell ⟨q, 3, none⟩ (.iface 150 (.pointer (some ⟨b, 0, none⟩)))).setCell ⟨q, 4, none⟩ (.slice none 0 0)) := Turn.setCell (p := ⟨q, 4, none⟩) (Turn.setCell (p := ⟨q, 3, none⟩) (Turn.ofBelow (S := fun i => i = q) hB) (fun _ => rfl) _) (fun _ => rfl) _
  have hT' : Turn (fun i => i = q) w1 ((w1.setCell ⟨q, 3, none⟩ (.iface 150 (.pointer (some ⟨b, 0, none⟩)))).setCell ⟨q, 4, none⟩ (.slice none 0 0)) := Turn.setCell (p := ⟨q, 4, none⟩) (Turn.setCell (p := ⟨q, 3, none⟩) (Turn.refl (fun i => i = q) w1) (fun _ => rfl) _) (fun _ => rfl) _
  exact ⟨rfl, ⟨k1.cell 0, k1.cell 1, k1.frozen 0, k1.frozen 1⟩, b, cs, tr, k1, hR.turn hT' (fun i hi => by rw [hi]; exact hql) hb, hb, hT⟩
/-- The replacer's other method, over any world. -/
theorem once_built (W : World) (q g cap : Nat) (hq : Cel W q 112 (rcells 0 0 .nilIface (.slice (some ⟨g, 0, none⟩) 8 cap))) (hx : ∀ j u, reps[j]? = some u → W.cell? ((⟨g, 0, none⟩ : Addr).add j) = some u) (hg : g ≠ q) :
    Calls Tryz.prog 45 #[.pointer (some ⟨q, 0, none⟩), .func (.func 46) #[.pointer (some ⟨q, 0, none⟩)] #[]] W fun e w' => e = .returned (.tuple #[]) ∧ ∃ b cs tr, Cel w' q 112 (rcells 0 1 (.iface 150 (.pointer (some ⟨b, 0, none⟩))) (.slice none 0 0)) ∧ RepI W.heap.size w' b 0 cs tr ∧ W.heap.size ≤ b ∧ Turn (fun i => i = q) W w' := by
  have hT1 : Turn (fun i => i = q) W (W.setCell ⟨q, 1, none⟩ (.int .i32 1)) := Turn.setCell (p := ⟨q, 1, none⟩) (Turn.refl (fun i => i = q) W) (fun _ => rfl) _
  have hsz : (W.setCell ⟨q, 1, none⟩ (.int .i32 1)).heap.size = W.heap.size := by simp [World.setCell]
  have HB := buildOnce_any (W.setCell ⟨q, 1, none⟩ (.int .i32 1)) q g cap (hq.set (j := 1) (.int .i32 1)) (fun j u hj => by
    have := hx j u hj
    rw [Addr.add_lit] at this ⊢
    rw [World.cell?_of_block (w := W) (a := ⟨g, 0 + j, none⟩) (hT1.block g (World.block_lt_of_cell? W _ this) hg)]
    exact this)
  refine (once_any q W _ (hq.cell 0) (hq.cell 1) (hq.frozen 1) HB).mono ?_
  rintro e w' ⟨rfl, w1, ⟨b, cs, tr, c1, hR, hb, hT⟩, rfl⟩
  have k : Cel ((w1.drew.setCell ⟨q, 0, none⟩ (.int .u32 1)).setCell ⟨q, 1, none⟩ (.int .i32 0)) q _ _ := (Cel.set (show Cel w1.drew q _ _ from c1) (j := 0) (.int .u32 1)).set (j := 1) (.int .i32 0)
  have hT' : Turn (fun i => i = q) w1 ((w1.drew.setCell ⟨q, 0, none⟩ (.int .u32 1)).setCell ⟨q, 1, none⟩ (.int .i32 0)) := Turn.setCell (p := ⟨q, 1, none⟩) (Turn.setCell (p := ⟨q, 0, none⟩) (Turn.drew (Turn.refl (fun i => i = q) w1)) (fun _ => rfl) _) (fun _ => rfl) _
  rw [hsz] at hR hb
  have hql := hq.lt
  exact ⟨rfl, b, cs, tr, k, hR.turn hT' (fun i hi => by rw [hi]; exact hql) hb, hb, (hT1.trans hT (fun _ h _ => h)).trans hT' (fun _ h _ => h)⟩
end Go.Proofs.YtlihkblllakhmaaGreatDoor
namespace Go.Proofs.YtlihkblllakhmaaGreatDoor
open Go.RowKit
attribute [local go_sem] Oper.semAt_some byte_one

/-! ### plain -/
def isE (c : UInt8) : Bool := esc4.contains c
def escB (c : UInt8) : List UInt8 := if isE c then [92, c] else [c]
/-- A text, escaped. -/
def escP (l : List UInt8) : List UInt8 := l.flatMap escB
theorem escP_cons (c : UInt8) (l : List UInt8) : escP (c :: l) = escB c ++ escP l := rfl
theorem escP_append (a b : List UInt8) : escP (a ++ b) = escP a ++ escP b := by simp [escP]
theorem escP_len (l : List UInt8) : (escP l).length = l.length + l.countP isE := by
  induction l with
  | nil => rfl
  | cons c l ih =>
    rw [escP_cons, List.length_append, ih, List.countP_cons, escB]
    cases isE c <;> simp <;> omega
theorem escP_none : ∀ (l : List UInt8), l.countP isE = 0 → escP l = l
  | [], _ => rfl
  | c :: l, h => by
    rw [List.countP_cons] at h
    cases e : isE c with
    | true => simp [e] at h
    | false =>
      simp [e] at h
      rw [escP_cons, escB, e, escP_none l (by rw [List.countP_eq_zero]; simpa using h)]
      rfl
def tos : List UInt8 := [91, 36, 92, 34]
theorem isE_iff (c : UInt8) : isE c = true ↔ c ∈ esc4.drop 0 := by simp [isE]
theorem count_tos (l : List UInt8) : l.count 91 + l.count 36 + l.count 92 + l.count 34 = l.countP isE := by
  induction l with
  | nil => rfl
  | cons c l ih =>
    simp only [List.count_cons, List.countP_cons, isE, esc4]
    have : l.countP isE = l.countP fun c => [34, 92, 36, 91].contains c := rfl
    by_cases h1 : c = 91
    · subst h1; simp; omega
    · by_cases h2 : c = 36
      · subst h2; simp; omega
      · by_cases h3 : c = 92
        · subst h3; simp; omega
        · by_cases h4 : c = 34
          · subst h4; simp; omega
          · simp [h1, h2, h3, h4]; omega
/-! ### Count at one byte -/
set_option maxRecDepth 100000 in
theorem count_one (s : ByteArray) (c : UInt8) (w : World) :
    Calls Tryz.prog 151 #[.string s, str [c]] w fun e w' => e = .returned (.int .i64 (s.data.toList.count c : Nat)) ∧ w' = w := by
  go_enter Tryz.func151, Tryz.ntmps151
  go_wp2
  rw [run_callFunc_extern Tryz.func153 (by kernel_rfl) (by kernel_rfl) (by kernel_rfl) (e := Extern.BytealgCount.count) (by kernel_rfl), Lib.run_countString]
  simp only [Result.andThen]
  rw [Oper.upon_value]
  go_wp2
  go_ret
  refine ⟨?_, rfl⟩
  simp [Lib.countByte]
theorem RepI.tosAt {B : Nat} {W : World} {b : Nat} {cs : Array Value} {tr : Value} (h : RepI B W b 0 cs tr) : ∃ g cap, tr = .slice (some ⟨g, 0, none⟩) 4 cap ∧ ∀ i c, tos[i]? = some c → W.cell? ⟨g, i, none⟩ = some (str [c]) := by
  have ho := h.own
  rcases ho.2 with ⟨_, h0⟩ | ⟨g, cap, cur, rfl, _⟩
  · simp at h0
  · refine ⟨g, cap, rfl, fun i c hi => ?_⟩
    have := ho.cells (g := g) rfl i (str [c]) (by
      have e : (esc4.drop 0).reverse = tos := rfl
      rw [e, List.getElem?_map, hi]
      rfl)
    rwa [Addr.add_lit, Nat.zero_add] at this
end Go.Proofs.YtlihkblllakhmaaGreatDoor
