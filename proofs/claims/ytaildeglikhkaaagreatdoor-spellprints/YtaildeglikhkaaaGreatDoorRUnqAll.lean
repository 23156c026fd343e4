/- The document's own Unquote. -/
import Derived.Test.YtaildeglikhkaaaGreatDoorRPrAll
import Derived.BigQuiet
import Derived.Deep.QuietTactic
/-! The document's own reader of quoted texts. -/
namespace Go.Proofs.YtaildeglikhkaaaGreatDoor
open Go.RowKit
attribute [local go_sem] Oper.semAt_some

abbrev rdC (s : ByteArray) (k bad : Int) (z : Bool) : Array Value := #[.string s, .int .i64 k, .int .i64 bad, .bool z]
/-- The reader gave up: its mark is set. -/
def RdBad (W : World) (b : Nat) (s : ByteArray) (w' : World) : Prop := ∃ (k : Int) (bad : Int) (z : Bool), 0 ≤ bad ∧ Cel w' b 57 (rdC s k bad z) ∧ Below b W w'
theorem RdBad.of {W X w' : World} {b : Nat} {s : ByteArray} (hb : Below b W X) (h : RdBad X b s w') : RdBad W b s w' := by
  obtain ⟨k, bad, z, h1, h2, h3⟩ := h
  exact ⟨k, bad, z, h1, h2, hb.trans h3⟩
set_option maxHeartbeats 400000 in
theorem rfail_any {W : World} {b : Nat} {s : ByteArray} {k : Int} {z : Bool} (h : Cel W b 57 (rdC s k (-1) z)) (at_ : Int) (ha : 0 ≤ at_) :
    Calls Tryz.prog 55 #[.pointer (some ⟨b, 0, none⟩), .int .i64 at_] W fun e w' => e = .returned (.tuple #[]) ∧ RdBad W b s w' := by
  have HE : Hid (∀ z', RdBad W b s ((W.setCell ⟨b, 2, none⟩ (.int .i64 at_)).setCell ⟨b, 3, none⟩ (.bool z'))) := fun z' => ⟨k, at_, z', ha, (h.set (j := 2) _).set (j := 3) _, ((Below.refl b W).setCell (Nat.le_refl _) _).setCell (Nat.le_refl _) _⟩
  have c0 : ∀ v, (W.setCell ⟨b, 2, none⟩ v).cell? ⟨b, 0, none⟩ = some (.string s) := fun v => (h.set (j := 2) v).cell 0
  have c2 : W.cell? ⟨b, 2, none⟩ = some (.int .i64 (-1)) := h.cell 2
  have f2 : W.frozen? ⟨b, 2, none⟩ = false := h.frozen 2
  have c3 : ∀ v, (W.setCell ⟨b, 2, none⟩ v).cell? ⟨b, 3, none⟩ = some (.bool z) := fun v => (h.set (j := 2) v).cell 3
  have f3 : ∀ v, (W.setCell ⟨b, 2, none⟩ v).frozen? ⟨b, 3, none⟩ = false := fun v => (h.set (j := 2) v).frozen 3
  have hlt := h.lt
  clear h
  go_enter Tryz.func55, Tryz.ntmps55
  go_wp2_with fail
  go_end0
  exact ⟨rfl, HE.out _⟩
theorem dr_below {B : Nat} {a w : World} (h : Below B a w) (m : Nat) : Below B a (w.drewN m) := ⟨h.os, h.tape, h.output, h.size, h.block⟩
theorem Cel.drewN {W : World} {b : Nat} {t : TypeId} {cs : Array Value} (h : Cel W b t cs) (m : Nat) : Cel (W.drewN m) b t cs := h
set_option maxHeartbeats 400000 in
theorem rbyte_yes {W : World} {b : Nat} {s : ByteArray} {k : Nat} {z : Bool} (h : Cel W b 57 (rdC s k (-1) z)) (hs : s.size < 1000000) (c : UInt8) (hk : k < s.size) (hc : s[k] = c) :
    Calls Tryz.prog 54 #[.pointer (some ⟨b, 0, none⟩), .int .u8 (c.toNat : Nat)] W fun e w' => e = .returned (.tuple #[]) ∧ Cel w' b 57 (rdC s ((k + 1 : Nat) : Int) (-1) z) ∧ Below b W w' := by
  have HE : Hid (∀ m, Cel ((W.drewN m).setCell ⟨b, 1, none⟩ (.int .i64 ((k : Int) + 1))) b 57 (rdC s ((k + 1 : Nat) : Int) (-1) z) ∧ Below b W ((W.drewN m).setCell ⟨b, 1, none⟩ (.int .i64 ((k : Int) + 1)))) := fun m => ⟨by have := (h.drewN m).set (j := 1) (.int .i64 ((k : Int) + 1)); simpa using this, (dr_below (Below.refl b W) m).setCell (Nat.le_refl _) _⟩
  have c0 : W.cell? ⟨b, 0, none⟩ = some (.string s) := h.cell 0
  have c1 : W.cell? ⟨b, 1, none⟩ = some (.int .i64 k) := h.cell 1
  have c2 : W.cell? ⟨b, 2, none⟩ = some (.int .i64 (-1)) := h.cell 2
  have f1 : W.frozen? ⟨b, 1, none⟩ = false := h.frozen 1
  have hlt := h.lt
  have hcs := c.toNat_lt
  clear h
  go_enter Tryz.func54, Tryz.ntmps54
  go_wp2_with fail
  go_quiet (fail)
  go_wp2_with fail
  go_end0
  exact ⟨rfl, HE.out _⟩
set_option maxHeartbeats 400000 in
theorem rbyte_no {W : World} {b : Nat} {s : ByteArray} {k : Nat} {z : Bool} (h : Cel W b 57 (rdC s k (-1) z)) (c : UInt8) (hc : s.data.toList[k]? ≠ some c) :
    Calls Tryz.prog 54 #[.pointer (some ⟨b, 0, none⟩), .int .u8 (c.toNat : Nat)] W fun e w' => e = .returned (.tuple #[]) ∧ RdBad W b s w' := by
  have HF : Hid (∀ m, Calls Tryz.prog 55 #[.pointer (some ⟨b, 0, none⟩), .int .i64 (k : Nat)] (W.drewN m) fun e w' => e = .returned (.tuple #[]) ∧ RdBad (W.drewN m) b s w') := fun m => rfail_any (h.drewN m) _ (by omega)
  have c0 : W.cell? ⟨b, 0, none⟩ = some (.string s) := h.cell 0
  have c1 : W.cell? ⟨b, 1, none⟩ = some (.int .i64 k) := h.cell 1
  have c2 : W.cell? ⟨b, 2, none⟩ = some (.int .i64 (-1)) := h.cell 2
  have hlt := h.lt
  have hcs := c.toNat_lt
  clear h
  by_cases hk : k < s.size
  · rw [text_at s k hk] at hc
    obtain ⟨d, hd⟩ : ∃ d, s[k] = d := ⟨_, rfl⟩
    have hne : ((d.toNat : Int) != (c.toNat : Int)) = true := by
      rw [hd] at hc
      simp only [bne_iff_ne, ne_eq]
      exact fun e => hc (congrArg some (UInt8.toNat_inj.1 (by omega)))
    have hds := d.toNat_lt
    clear hc
    go_enter Tryz.func54, Tryz.ntmps54
    go_wp2_with fail
    go_quiet (fail)
    go_wp2_with fail
    refine (HF.out _).mono ?_
    rintro e w1 ⟨rfl, hw⟩
    go_wp2_with fail
    try simp only [Exit.inBlock, Exit.then]
    refine bodyPost_ret (results_none rfl _ _ _) rfl ?_
    exact ⟨rfl, RdBad.of (dr_below (Below.refl b W) _) hw⟩
  · clear hc
    go_enter Tryz.func54, Tryz.ntmps54
    go_wp2_with fail
    go_quiet (fail)
    go_wp2_with fail
    refine (HF.out _).mono ?_
    rintro e w1 ⟨rfl, hw⟩
    go_wp2_with fail
    try simp only [Exit.inBlock, Exit.then]
    refine bodyPost_ret (results_none rfl _ _ _) rfl ?_
    exact ⟨rfl, RdBad.of (dr_below (Below.refl b W) _) hw⟩
/-- How the walk over a quoted text goes on, a way each. -/
theorem quG_end (s : ByteArray) (f k : Nat) (L : List UInt8) (h : ¬ k < s.size) : (quG s (f + 1) k L).1 = none := by
  have hc : s.data.toList[k]? = none := List.getElem?_eq_none (by simp; omega)
  unfold quG qbR
  rw [hc]
  simp
theorem quG_quote (s : ByteArray) (f k : Nat) (L : List UInt8) (h : k < s.size) (hc : s[k] = 34) : quG s (f + 1) k L = (some L, k + 1) := by
  unfold quG
  rw [text_at s k h, hc, if_pos rfl]
theorem quG_bad (s : ByteArray) (f k : Nat) (L : List UInt8) (h : k < s.size) (h34 : s[k] ≠ 34) (h92 : s[k] ≠ 92) (he : escB (((s[k]).toNat : Nat) : Int) = true) : (quG s (f + 1) k L).1 = none := by
  unfold quG qbR
  rw [text_at s k h, if_neg (by simpa using h34)]
  simp only [h92, he, if_true, if_false]
theorem quG_ok (s : ByteArray) (f k : Nat) (L : List UInt8) (h : k < s.size) (h34 : s[k] ≠ 34) (h92 : s[k] ≠ 92) (he : escB (((s[k]).toNat : Nat) : Int) = false) : quG s (f + 1) k L = quG s f (k + 1) (L ++ [s[k]]) := by
  conv => lhs; unfold quG qbR
  rw [text_at s k h, if_neg (by simpa using h34)]
  simp only [h92, he, if_false, Bool.false_eq_true]
  simp
theorem quG_esc (s : ByteArray) (f k : Nat) (L : List UInt8) (h : k < s.size) (hc : s[k] = 92) (hn : (escR s (k + 1)).1 = none) : (quG s (f + 1) k L).1 = none := by
  unfold quG qbR
  rw [text_at s k h, hc, if_neg (by decide)]
  simp only [if_true, hn]
theorem esc_none1 (s : ByteArray) (k : Nat) (h : hexAt s k = none) : (escR s k).1 = none := by unfold escR; rw [h]
theorem esc_none2 (s : ByteArray) (k : Nat) (h : hexAt s (k + 1) = none) : (escR s k).1 = none := by
  unfold escR
  rw [h]
  split
  · rfl
  · split <;> rfl
theorem esc_none3 (s : ByteArray) (k a u : Nat) (h1 : hexAt s k = some a) (h2 : hexAt s (k + 1) = some u) (he : escB ((a * 16 + u : Nat) : Int) = false) : (escR s k).1 = none := by
  unfold escR
  rw [h1, h2]
  simp only [he, Bool.false_eq_true, if_false]
  split <;> rfl
theorem quG_hex (s : ByteArray) (f k : Nat) (L : List UInt8) (h : k < s.size) (hc : s[k] = 92) (a u : Nat) (h1 : hexAt s (k + 1) = some a) (h2 : hexAt s (k + 2) = some u) (he : escB ((a * 16 + u : Nat) : Int) = true) :
    quG s (f + 1) k L = quG s f (k + 3) (L ++ [(a * 16 + u).toUInt8]) := by
  have hu := (hexAt_lt s _ _ h2).1
  have hb : begE a = true := by
    unfold begE
    exact List.any_eq_true.2 ⟨u, List.mem_range.2 hu, he⟩
  have hr : escR s (k + 1) = (some (a * 16 + u), k + 3) := by
    unfold escR
    rw [h1]
    simp only [hb, if_true]
    rw [h2]
    simp only [he, if_true]
  conv => lhs; unfold quG qbR
  rw [text_at s k h, hc, if_neg (by decide)]
  simp only [if_true, hr]
end Go.Proofs.YtaildeglikhkaaaGreatDoor
/-! The document's own reader of quoted texts: the loop. -/
namespace Go.Proofs.YtaildeglikhkaaaGreatDoor
open Go.RowKit
attribute [local go_sem] Oper.semAt_some

theorem own_ne {w : World} {b n : Nat} {v : Value} {xs : List Value} (ho : w.ownsRow (b + 1) 5 1 v n xs) : some b ≠ v.ownBlock := fun e => by have := (ho.lt b e.symm).1; omega
theorem own_set {w : World} {b n : Nat} {v : Value} {xs : List Value} (h : w.ownsRow (b + 1) 5 1 v n xs) (j : Nat) (u : Value) : (w.setCell ⟨b, j, none⟩ u).ownsRow (b + 1) 5 1 v n xs := by
  refine ⟨h.1, h.2.imp id ?_⟩
  rintro ⟨g, cap, cur, rfl, hg, hc, rest⟩
  exact ⟨g, cap, cur, rfl, hg, (Below.heap_setCell _ _ _ _ (by simp; omega)).trans hc, rest⟩
theorem own_drew {w : World} {b n : Nat} {v : Value} {xs : List Value} (h : w.ownsRow (b + 1) 5 1 v n xs) (m : Nat) : (w.drewN m).ownsRow (b + 1) 5 1 v n xs := h
/-- Bytes of one's own, made a text, none among them. -/
theorem conv_all {W : World} {B n : Nat} {v : Value} {l : List UInt8} (ho : W.ownsRow B 5 1 v n (Lib.byteCells l)) (hn : n = l.length) : (convert 43 9 v).run Tryz.prog W = .ok (.string ⟨l.toArray⟩) W := by
  by_cases h0 : l = []
  · subst h0
    subst hn
    rcases ho.2 with ⟨rfl, _⟩ | ⟨g, cap, cur, rfl, _⟩
    · exact (run_convert_bytes_string W 43 9 5 none 0 0 Tryz.underlying43 Tryz.underlying5 Tryz.underlying9).trans rfl
    · exact run_convert_bytes_back (P := Tryz.prog) W 43 9 5 ⟨g, 0, none⟩ cap [] Tryz.underlying43 Tryz.underlying5 Tryz.underlying9 (by intro j hj; simp at hj)
  · exact conv_own ho hn h0
/-- What the document's quoted answers, and how its reader stands then. -/
def RdOut (W : World) (b : Nat) (s : ByteArray) (z : Bool) (R : Option (List UInt8) × Nat) (e : Ending) (w' : World) : Prop :=
  (∃ l, R.1 = some l ∧ e = .returned (str l) ∧ Cel w' b 57 (rdC s (R.2 : Nat) (-1) z) ∧ Below b W w') ∨ (R.1 = none ∧ e = .returned (.string ⟨#[]⟩) ∧ RdBad W b s w')
/-- A round's state: the reader in its block, the bytes in a row of one's own behind it. -/
structure RdSt (W : World) (b : Nat) (s : ByteArray) (z : Bool) (k : Nat) (L : List UInt8) (v : Value) (w : World) : Prop where
  cel : Cel w b 57 (rdC s (k : Nat) (-1) z)
  bel : Below b W w
  own : w.ownsRow (b + 1) 5 1 v L.length (Lib.byteCells L)
theorem RdSt.drewN {W w : World} {b : Nat} {s : ByteArray} {z : Bool} {k : Nat} {L : List UInt8} {v : Value} (h : RdSt W b s z k L v w) (m : Nat) : RdSt W b s z k L v (w.drewN m) := ⟨h.cel.drewN m, dr_below h.bel m, own_drew h.own m⟩
theorem RdSt.fail {W w : World} {b : Nat} {s : ByteArray} {z : Bool} {k : Nat} {L : List UInt8} {v : Value} (h : RdSt W b s z k L v w) (at_ : Int) (ha : 0 ≤ at_) :
    Calls Tryz.prog 55 #[.pointer (some ⟨b, 0, none⟩), .int .i64 at_] w fun e w' => e = .returned (.tuple #[]) ∧ RdBad W b s w' :=
  Calls.mono (rfail_any h.cel at_ ha) (by rintro e w' ⟨rfl, hw⟩; exact ⟨rfl, RdBad.of h.bel hw⟩)
theorem RdSt.lt {W w : World} {b : Nat} {s : ByteArray} {z : Bool} {k : Nat} {L : List UInt8} {v : Value} (h : RdSt W b s z k L v w) : b < w.heap.size := h.cel.lt
theorem RdSt.pos {W w : World} {b : Nat} {s : ByteArray} {z : Bool} {k : Nat} {L : List UInt8} {v : Value} (h : RdSt W b s z k L v w) : posOf w b = k := by unfold posOf; rw [h.cel.cell 1]; simp
/-- A byte more in the row. -/
theorem RdSt.grown {W w w2 : World} {b : Nat} {s : ByteArray} {z : Bool} {k : Nat} {L : List UInt8} {v v' : Value} {o : Obj} {x : UInt8} (h : RdSt W b s z k L v w) (hg : (w.alloc o).grownBy w2 v.ownBlock) (ho : w2.ownsRow (b + 1) 5 1 v' (L.length + 1) (Lib.byteCells L ++ [.int .u8 (x.toNat : Nat)])) : RdSt W b s z k (L ++ [x]) v' w2 :=
  ⟨(h.cel.alloc o).kept hg (own_ne (h.own.alloc o)), (h.bel.alloc (Nat.le_of_lt h.lt) o).grown hg (by have := h.lt; simp; omega) (fun j hj => by have := ((h.own.alloc o).lt j hj).1; omega), by rw [bytes_cat, List.length_append]; exact ho⟩
theorem RdSt.moved {W w : World} {b : Nat} {s : ByteArray} {z : Bool} {k : Nat} {L : List UInt8} {v : Value} (h : RdSt W b s z k L v w) (j : Nat) (i : Int) (hi : i = (j : Int)) : RdSt W b s z j L v (w.setCell ⟨b, 1, none⟩ (.int .i64 i)) := by
  subst hi
  exact ⟨h.cel.set (j := 1) _, h.bel.setCell (Nat.le_refl _) _, own_set h.own _ _⟩
theorem esc_not (a u : Nat) (he : escB ((a * 16 + u : Nat) : Int) = false) : ((16 * (a : Int) + u) != 34) = true ∧ ((16 * (a : Int) + u) != 92) = true ∧ 32 ≤ 16 * (a : Int) + u ∧ 16 * (a : Int) + u ≤ 126 := by
  unfold escB at he
  simp only [Bool.or_eq_false_iff, decide_eq_false_iff_not, beq_eq_false_iff_ne, ne_eq] at he
  obtain ⟨⟨⟨h1, h2⟩, h3⟩, h4⟩ := he
  refine ⟨by simp only [bne_iff_ne, ne_eq]; omega, by simp only [bne_iff_ne, ne_eq]; omega, by omega, by omega⟩
theorem esc_ways (a u : Nat) (he : escB ((a * 16 + u : Nat) : Int) = true) : ((16 * (a : Int) + u) != 34) = false ∨ (((16 * (a : Int) + u) != 34) = true ∧ ((16 * (a : Int) + u) != 92) = false) ∨ (((16 * (a : Int) + u) != 34) = true ∧ ((16 * (a : Int) + u) != 92) = true ∧ ¬ 32 ≤ 16 * (a : Int) + u) ∨ (((16 * (a : Int) + u) != 34) = true ∧ ((16 * (a : Int) + u) != 92) = true ∧ 32 ≤ 16 * (a : Int) + u ∧ ¬ 16 * (a : Int) + u ≤ 126) := by
  unfold escB at he
  simp only [Bool.or_eq_true, decide_eq_true_eq, beq_iff_eq] at he
  simp only [bne_iff_ne, ne_eq, bne_eq_false_iff_eq]
  omega
set_option maxHeartbeats 4000000 in
set_option maxRecDepth 100000 in
theorem rquoted_yes {W : World} {b : Nat} {s : ByteArray} {k : Nat} {z : Bool} (h : Cel W b 57 (rdC s k (-1) z)) (hs : s.size < 1000000) (hk : k < s.size) (hc : s[k] = 34) :
    Calls Tryz.prog 26 #[.pointer (some ⟨b, 0, none⟩)] W fun e w' => RdOut W b s z (quR s k) e w' := by
  obtain ⟨i0, hi, hz0, hz1, hz2⟩ := info_parts info5
  obtain ⟨R, hR⟩ : ∃ R, quR s k = R := ⟨_, rfl⟩
  have HR : Hid (quG s (s.size + 1) (k + 1) [] = R) := by unfold Hid; rw [← hR]; unfold quR; rw [text_at s k hk, hc, if_pos rfl]
  rw [hR]
  have HT : Hid (Calls Tryz.prog 54 #[.pointer (some ⟨b, 0, none⟩), .int .u8 34] W fun e w' => e = .returned (.tuple #[]) ∧ RdSt W b s z (k + 1) [] (.slice none 0 0) w') :=
    Calls.mono (rbyte_yes h hs 34 hk hc) (by rintro e w' ⟨rfl, h1, h2⟩; exact ⟨rfl, h1, h2, World.ownsRow_nil _ _ _ _⟩)
  clear hR hc h
  go_enter Tryz.func26, Tryz.ntmps26
  go_wp2_with fail
  refine Calls.mono HT.out ?_
  rintro e W1 ⟨rfl, HS0⟩
  clear HT
  go_wp2_with fail
  go_loopw [3] (fun v3 wr => ∃ (j : Nat) (L : List UInt8) (f : Nat), j ≤ s.size ∧ L.length ≤ j ∧ s.size - j < f ∧ Hid (quG s f j L = R) ∧ Hid (RdSt W b s z j L v3 wr)) (fun _ wr => s.size - posOf wr b)
  case atStart => exact ⟨k + 1, [], s.size + 1, hk, by simp, by omega, HR, HS0⟩
  case round =>
    obtain ⟨j, L, f, hj, hL, hf, HQ, HS⟩ := hrel
    obtain ⟨f', rfl⟩ : ∃ f', f = f' + 1 := ⟨f - 1, by omega⟩
    have HP : Hid (posOf wr b = j) := HS.out.pos
    have c0 : wr.cell? ⟨b, 0, none⟩ = some (.string s) := HS.out.cel.cell 0
    have c1 : wr.cell? ⟨b, 1, none⟩ = some (.int .i64 j) := HS.out.cel.cell 1
    have c2 : wr.cell? ⟨b, 2, none⟩ = some (.int .i64 (-1)) := HS.out.cel.cell 2
    have f1 : wr.frozen? ⟨b, 1, none⟩ = false := HS.out.cel.frozen 1
    have hlt := HS.out.lt
    clear HS0 HR
    by_cases hkl : j < s.size
    · obtain ⟨c, hc⟩ : ∃ c, s[j] = c := ⟨_, rfl⟩
      have hcl := c.toNat_lt
      by_cases h34 : c = 34
      · have HE : Hid (R = (some L, j + 1)) := by unfold Hid; rw [← HQ.out]; exact quG_quote s f' j L hkl (hc.trans h34)
        subst h34
        go_wp2_with fail
        go_quiet (fail)
        obtain ⟨X0, hX⟩ : ∃ X0, X0 = wr.drewN nq := ⟨_, rfl⟩
        have HS := HS.out.drewN nq
        rw [← hX] at HS
        have HS : Hid _ := HS
        have c0 : X0.cell? ⟨b, 0, none⟩ = some (.string s) := HS.out.cel.cell 0
        have c1 : X0.cell? ⟨b, 1, none⟩ = some (.int .i64 j) := HS.out.cel.cell 1
        have c2 : X0.cell? ⟨b, 2, none⟩ = some (.int .i64 (-1)) := HS.out.cel.cell 2
        have f1 : X0.frozen? ⟨b, 1, none⟩ = false := HS.out.cel.frozen 1
        have hlt := HS.out.lt
        rw [← hX]
        clear hX
        go_wp2_with fail
        go_quiet (fail)
        obtain ⟨X1, hX⟩ : ∃ X1, X1 = X0.drewN nq := ⟨_, rfl⟩
        have HS := HS.out.drewN nq
        rw [← hX] at HS
        have HS : Hid _ := HS
        have c0 : X1.cell? ⟨b, 0, none⟩ = some (.string s) := HS.out.cel.cell 0
        have c1 : X1.cell? ⟨b, 1, none⟩ = some (.int .i64 j) := HS.out.cel.cell 1
        have c2 : X1.cell? ⟨b, 2, none⟩ = some (.int .i64 (-1)) := HS.out.cel.cell 2
        have f1 : X1.frozen? ⟨b, 1, none⟩ = false := HS.out.cel.frozen 1
        have hlt := HS.out.lt
        rw [← hX]
        clear hX
        have HM : Hid _ := HS.out.moved (j + 1) ((j : Int) + 1) (by omega)
        have hcv := conv_all HM.out.own rfl
        go_wp2_with fail
        go_ret
        exact .inl ⟨L, by rw [HE.out], rfl, by rw [HE.out]; exact HM.out.cel, HM.out.bel⟩
      · have d34 : ((c.toNat : Int) == 34) = false := by simp only [beq_eq_false_iff_ne, ne_eq]; exact fun e => h34 (UInt8.toNat_inj.1 (by simpa using (by omega : c.toNat = 34)))
        by_cases h92 : c = 92
        · subst h92
          clear h34 d34
          by_cases hk1 : j + 1 < s.size
          · obtain ⟨c1_, hc1⟩ : ∃ c, s[j + 1] = c := ⟨_, rfl⟩
            have HX1 : Hid (∀ w, Calls Tryz.prog 56 #[.int .u8 (c1_.toNat : Int)] w fun e w' => e = .returned (.int .i64 (hexI c1_)) ∧ w' = w) := fun w => rhexed_any c1_ w
            have HA1 : Hid (hexAt s (j + 1) = hexV c1_) := by unfold Hid hexAt; rw [text_at s (j + 1) hk1, hc1]; rfl
            cases hv1 : hexV c1_ with
            | none =>
              have HE : Hid (R.1 = none) := by unfold Hid; rw [← HQ.out]; exact quG_esc s f' j L hkl hc (esc_none1 s (j + 1) (HA1.out.trans hv1))
              rw [show hexI c1_ = -1 by unfold hexI; rw [hv1]] at HX1
              clear HA1 hv1
              go_wp2_with fail
              go_quiet (fail)
              obtain ⟨X0, hX⟩ : ∃ X0, X0 = wr.drewN nq := ⟨_, rfl⟩
              have HS := HS.out.drewN nq
              rw [← hX] at HS
              have HS : Hid _ := HS
              have c0 : X0.cell? ⟨b, 0, none⟩ = some (.string s) := HS.out.cel.cell 0
              have c1 : X0.cell? ⟨b, 1, none⟩ = some (.int .i64 j) := HS.out.cel.cell 1
              have c2 : X0.cell? ⟨b, 2, none⟩ = some (.int .i64 (-1)) := HS.out.cel.cell 2
              have f1 : X0.frozen? ⟨b, 1, none⟩ = false := HS.out.cel.frozen 1
              have hlt := HS.out.lt
              rw [← hX]
              clear hX
              go_wp2_with fail
              go_quiet (fail)
              obtain ⟨X1, hX⟩ : ∃ X1, X1 = X0.drewN nq := ⟨_, rfl⟩
              have HS := HS.out.drewN nq
              rw [← hX] at HS
              have HS : Hid _ := HS
              have c0 : X1.cell? ⟨b, 0, none⟩ = some (.string s) := HS.out.cel.cell 0
              have c1 : X1.cell? ⟨b, 1, none⟩ = some (.int .i64 j) := HS.out.cel.cell 1
              have c2 : X1.cell? ⟨b, 2, none⟩ = some (.int .i64 (-1)) := HS.out.cel.cell 2
              have f1 : X1.frozen? ⟨b, 1, none⟩ = false := HS.out.cel.frozen 1
              have hlt := HS.out.lt
              rw [← hX]
              clear hX
              go_wp2_with fail
              go_quiet (fail)
              obtain ⟨X2, hX⟩ : ∃ X2, X2 = X1.drewN nq := ⟨_, rfl⟩
              have HS := HS.out.drewN nq
              rw [← hX] at HS
              have HS : Hid _ := HS
              have c0 : X2.cell? ⟨b, 0, none⟩ = some (.string s) := HS.out.cel.cell 0
              have c1 : X2.cell? ⟨b, 1, none⟩ = some (.int .i64 j) := HS.out.cel.cell 1
              have c2 : X2.cell? ⟨b, 2, none⟩ = some (.int .i64 (-1)) := HS.out.cel.cell 2
              have f1 : X2.frozen? ⟨b, 1, none⟩ = false := HS.out.cel.frozen 1
              have hlt := HS.out.lt
              rw [← hX]
              clear hX
              go_wp2_with fail
              go_quiet (first | (go_at_call 56; exact Calls.quiet_of_same (HX1.out _)))
              obtain ⟨X3, hX⟩ : ∃ X3, X3 = X2.drewN nq := ⟨_, rfl⟩
              have HS := HS.out.drewN nq
              rw [← hX] at HS
              have HS : Hid _ := HS
              have c0 : X3.cell? ⟨b, 0, none⟩ = some (.string s) := HS.out.cel.cell 0
              have c1 : X3.cell? ⟨b, 1, none⟩ = some (.int .i64 j) := HS.out.cel.cell 1
              have c2 : X3.cell? ⟨b, 2, none⟩ = some (.int .i64 (-1)) := HS.out.cel.cell 2
              have f1 : X3.frozen? ⟨b, 1, none⟩ = false := HS.out.cel.frozen 1
              have hlt := HS.out.lt
              rw [← hX]
              clear hX
              go_wp2_with fail
              refine Calls.mono (HS.out.fail _ (by omega)) ?_
              rintro e w1 ⟨rfl, hw⟩
              go_wp2_with fail
              go_ret
              exact .inr ⟨HE.out, rfl, hw⟩
            | some a =>
              have ha := hexV_lt c1_ a hv1
              rw [show hexI c1_ = (a : Int) by unfold hexI; rw [hv1]] at HX1
              have HA : Hid (hexAt s (j + 1) = some a) := HA1.out.trans hv1
              clear HA1 hv1
              by_cases hk2 : j + 2 < s.size
              · obtain ⟨c2_, hc2⟩ : ∃ c, s[j + 2] = c := ⟨_, rfl⟩
                have HX2 : Hid (∀ w, Calls Tryz.prog 56 #[.int .u8 (c2_.toNat : Int)] w fun e w' => e = .returned (.int .i64 (hexI c2_)) ∧ w' = w) := fun w => rhexed_any c2_ w
                have HA2 : Hid (hexAt s (j + 2) = hexV c2_) := by unfold Hid hexAt; rw [text_at s (j + 2) hk2, hc2]; rfl
                have i2a : 0 ≤ (j : Int) + 2 := by omega
                have i2b : (j : Int) + 2 < (s.size : Int) := by omega
                have i2c : ((j : Int) + 2).toNat = j + 2 := by omega
                cases hv2 : hexV c2_ with
                | none =>
                  have HE : Hid (R.1 = none) := by unfold Hid; rw [← HQ.out]; exact quG_esc s f' j L hkl hc (esc_none2 s (j + 1) (HA2.out.trans hv2))
                  rw [show hexI c2_ = -1 by unfold hexI; rw [hv2]] at HX2
                  clear HA2 hv2 HA
                  go_wp2_with fail
                  go_quiet (fail)
                  obtain ⟨X0, hX⟩ : ∃ X0, X0 = wr.drewN nq := ⟨_, rfl⟩
                  have HS := HS.out.drewN nq
                  rw [← hX] at HS
                  have HS : Hid _ := HS
                  have c0 : X0.cell? ⟨b, 0, none⟩ = some (.string s) := HS.out.cel.cell 0
                  have c1 : X0.cell? ⟨b, 1, none⟩ = some (.int .i64 j) := HS.out.cel.cell 1
                  have c2 : X0.cell? ⟨b, 2, none⟩ = some (.int .i64 (-1)) := HS.out.cel.cell 2
                  have f1 : X0.frozen? ⟨b, 1, none⟩ = false := HS.out.cel.frozen 1
                  have hlt := HS.out.lt
                  rw [← hX]
                  clear hX
                  go_wp2_with fail
                  go_quiet (fail)
                  obtain ⟨X1, hX⟩ : ∃ X1, X1 = X0.drewN nq := ⟨_, rfl⟩
                  have HS := HS.out.drewN nq
                  rw [← hX] at HS
                  have HS : Hid _ := HS
                  have c0 : X1.cell? ⟨b, 0, none⟩ = some (.string s) := HS.out.cel.cell 0
                  have c1 : X1.cell? ⟨b, 1, none⟩ = some (.int .i64 j) := HS.out.cel.cell 1
                  have c2 : X1.cell? ⟨b, 2, none⟩ = some (.int .i64 (-1)) := HS.out.cel.cell 2
                  have f1 : X1.frozen? ⟨b, 1, none⟩ = false := HS.out.cel.frozen 1
                  have hlt := HS.out.lt
                  rw [← hX]
                  clear hX
                  go_wp2_with fail
                  go_quiet (fail)
                  obtain ⟨X2, hX⟩ : ∃ X2, X2 = X1.drewN nq := ⟨_, rfl⟩
                  have HS := HS.out.drewN nq
                  rw [← hX] at HS
                  have HS : Hid _ := HS
                  have c0 : X2.cell? ⟨b, 0, none⟩ = some (.string s) := HS.out.cel.cell 0
                  have c1 : X2.cell? ⟨b, 1, none⟩ = some (.int .i64 j) := HS.out.cel.cell 1
                  have c2 : X2.cell? ⟨b, 2, none⟩ = some (.int .i64 (-1)) := HS.out.cel.cell 2
                  have f1 : X2.frozen? ⟨b, 1, none⟩ = false := HS.out.cel.frozen 1
                  have hlt := HS.out.lt
                  rw [← hX]
                  clear hX
                  go_wp2_with fail
                  go_quiet (first | (go_at_call 56; exact Calls.quiet_of_same (HX1.out _)))
                  obtain ⟨X3, hX⟩ : ∃ X3, X3 = X2.drewN nq := ⟨_, rfl⟩
                  have HS := HS.out.drewN nq
                  rw [← hX] at HS
                  have HS : Hid _ := HS
                  have c0 : X3.cell? ⟨b, 0, none⟩ = some (.string s) := HS.out.cel.cell 0
                  have c1 : X3.cell? ⟨b, 1, none⟩ = some (.int .i64 j) := HS.out.cel.cell 1
                  have c2 : X3.cell? ⟨b, 2, none⟩ = some (.int .i64 (-1)) := HS.out.cel.cell 2
                  have f1 : X3.frozen? ⟨b, 1, none⟩ = false := HS.out.cel.frozen 1
                  have hlt := HS.out.lt
                  rw [← hX]
                  clear hX
                  go_wp2_with fail
                  go_quiet (fail)
                  obtain ⟨X4, hX⟩ : ∃ X4, X4 = X3.drewN nq := ⟨_, rfl⟩
                  have HS := HS.out.drewN nq
                  rw [← hX] at HS
                  have HS : Hid _ := HS
                  have c0 : X4.cell? ⟨b, 0, none⟩ = some (.string s) := HS.out.cel.cell 0
                  have c1 : X4.cell? ⟨b, 1, none⟩ = some (.int .i64 j) := HS.out.cel.cell 1
                  have c2 : X4.cell? ⟨b, 2, none⟩ = some (.int .i64 (-1)) := HS.out.cel.cell 2
                  have f1 : X4.frozen? ⟨b, 1, none⟩ = false := HS.out.cel.frozen 1
                  have hlt := HS.out.lt
                  rw [← hX]
                  clear hX
                  go_wp2_with fail
                  go_quiet (first | (go_at_call 56; exact Calls.quiet_of_same (HX2.out _)))
                  obtain ⟨X5, hX⟩ : ∃ X5, X5 = X4.drewN nq := ⟨_, rfl⟩
                  have HS := HS.out.drewN nq
                  rw [← hX] at HS
                  have HS : Hid _ := HS
                  have c0 : X5.cell? ⟨b, 0, none⟩ = some (.string s) := HS.out.cel.cell 0
                  have c1 : X5.cell? ⟨b, 1, none⟩ = some (.int .i64 j) := HS.out.cel.cell 1
                  have c2 : X5.cell? ⟨b, 2, none⟩ = some (.int .i64 (-1)) := HS.out.cel.cell 2
                  have f1 : X5.frozen? ⟨b, 1, none⟩ = false := HS.out.cel.frozen 1
                  have hlt := HS.out.lt
                  rw [← hX]
                  clear hX
                  go_wp2_with fail
                  refine Calls.mono (HS.out.fail _ (by omega)) ?_
                  rintro e w1 ⟨rfl, hw⟩
                  go_wp2_with fail
                  go_ret
                  exact .inr ⟨HE.out, rfl, hw⟩
                | some u =>
                  have hu := hexV_lt c2_ u hv2
                  rw [show hexI c2_ = (u : Int) by unfold hexI; rw [hv2]] at HX2
                  have HU : Hid (hexAt s (j + 2) = some u) := HA2.out.trans hv2
                  clear HA2 hv2
                  cases he : escB ((a * 16 + u : Nat) : Int) with
                  | false =>
                    have HE : Hid (R.1 = none) := by unfold Hid; rw [← HQ.out]; exact quG_esc s f' j L hkl hc (esc_none3 s (j + 1) a u HA.out HU.out he)
                    obtain ⟨x1, x2, x3, x4⟩ := esc_not a u he
                    clear HA HU he
                    go_wp2_with fail
                    go_quiet (fail)
                    obtain ⟨X0, hX⟩ : ∃ X0, X0 = wr.drewN nq := ⟨_, rfl⟩
                    have HS := HS.out.drewN nq
                    rw [← hX] at HS
                    have HS : Hid _ := HS
                    have c0 : X0.cell? ⟨b, 0, none⟩ = some (.string s) := HS.out.cel.cell 0
                    have c1 : X0.cell? ⟨b, 1, none⟩ = some (.int .i64 j) := HS.out.cel.cell 1
                    have c2 : X0.cell? ⟨b, 2, none⟩ = some (.int .i64 (-1)) := HS.out.cel.cell 2
                    have f1 : X0.frozen? ⟨b, 1, none⟩ = false := HS.out.cel.frozen 1
                    have hlt := HS.out.lt
                    rw [← hX]
                    clear hX
                    go_wp2_with fail
                    go_quiet (fail)
                    obtain ⟨X1, hX⟩ : ∃ X1, X1 = X0.drewN nq := ⟨_, rfl⟩
                    have HS := HS.out.drewN nq
                    rw [← hX] at HS
                    have HS : Hid _ := HS
                    have c0 : X1.cell? ⟨b, 0, none⟩ = some (.string s) := HS.out.cel.cell 0
                    have c1 : X1.cell? ⟨b, 1, none⟩ = some (.int .i64 j) := HS.out.cel.cell 1
                    have c2 : X1.cell? ⟨b, 2, none⟩ = some (.int .i64 (-1)) := HS.out.cel.cell 2
                    have f1 : X1.frozen? ⟨b, 1, none⟩ = false := HS.out.cel.frozen 1
                    have hlt := HS.out.lt
                    rw [← hX]
                    clear hX
                    go_wp2_with fail
                    go_quiet (fail)
                    obtain ⟨X2, hX⟩ : ∃ X2, X2 = X1.drewN nq := ⟨_, rfl⟩
                    have HS := HS.out.drewN nq
                    rw [← hX] at HS
                    have HS : Hid _ := HS
                    have c0 : X2.cell? ⟨b, 0, none⟩ = some (.string s) := HS.out.cel.cell 0
                    have c1 : X2.cell? ⟨b, 1, none⟩ = some (.int .i64 j) := HS.out.cel.cell 1
                    have c2 : X2.cell? ⟨b, 2, none⟩ = some (.int .i64 (-1)) := HS.out.cel.cell 2
                    have f1 : X2.frozen? ⟨b, 1, none⟩ = false := HS.out.cel.frozen 1
                    have hlt := HS.out.lt
                    rw [← hX]
                    clear hX
                    go_wp2_with fail
                    go_quiet (first | (go_at_call 56; exact Calls.quiet_of_same (HX1.out _)))
                    obtain ⟨X3, hX⟩ : ∃ X3, X3 = X2.drewN nq := ⟨_, rfl⟩
                    have HS := HS.out.drewN nq
                    rw [← hX] at HS
                    have HS : Hid _ := HS
                    have c0 : X3.cell? ⟨b, 0, none⟩ = some (.string s) := HS.out.cel.cell 0
                    have c1 : X3.cell? ⟨b, 1, none⟩ = some (.int .i64 j) := HS.out.cel.cell 1
                    have c2 : X3.cell? ⟨b, 2, none⟩ = some (.int .i64 (-1)) := HS.out.cel.cell 2
                    have f1 : X3.frozen? ⟨b, 1, none⟩ = false := HS.out.cel.frozen 1
                    have hlt := HS.out.lt
                    rw [← hX]
                    clear hX
                    go_wp2_with fail
                    go_quiet (fail)
                    obtain ⟨X4, hX⟩ : ∃ X4, X4 = X3.drewN nq := ⟨_, rfl⟩
                    have HS := HS.out.drewN nq
                    rw [← hX] at HS
                    have HS : Hid _ := HS
                    have c0 : X4.cell? ⟨b, 0, none⟩ = some (.string s) := HS.out.cel.cell 0
                    have c1 : X4.cell? ⟨b, 1, none⟩ = some (.int .i64 j) := HS.out.cel.cell 1
                    have c2 : X4.cell? ⟨b, 2, none⟩ = some (.int .i64 (-1)) := HS.out.cel.cell 2
                    have f1 : X4.frozen? ⟨b, 1, none⟩ = false := HS.out.cel.frozen 1
                    have hlt := HS.out.lt
                    rw [← hX]
                    clear hX
                    go_wp2_with fail
                    go_quiet (first | (go_at_call 56; exact Calls.quiet_of_same (HX2.out _)))
                    obtain ⟨X5, hX⟩ : ∃ X5, X5 = X4.drewN nq := ⟨_, rfl⟩
                    have HS := HS.out.drewN nq
                    rw [← hX] at HS
                    have HS : Hid _ := HS
                    have c0 : X5.cell? ⟨b, 0, none⟩ = some (.string s) := HS.out.cel.cell 0
                    have c1 : X5.cell? ⟨b, 1, none⟩ = some (.int .i64 j) := HS.out.cel.cell 1
                    have c2 : X5.cell? ⟨b, 2, none⟩ = some (.int .i64 (-1)) := HS.out.cel.cell 2
                    have f1 : X5.frozen? ⟨b, 1, none⟩ = false := HS.out.cel.frozen 1
                    have hlt := HS.out.lt
                    rw [← hX]
                    clear hX
                    go_wp2_with fail
                    refine Calls.mono (HS.out.fail _ (by omega)) ?_
                    rintro e w1 ⟨rfl, hw⟩
                    go_wp2_with fail
                    go_ret
                    exact .inr ⟨HE.out, rfl, hw⟩
                  | true =>
                    have HE : Hid (quG s f' (j + 3) (L ++ [(a * 16 + u).toUInt8]) = R) := by unfold Hid; rw [← HQ.out]; exact (quG_hex s f' j L hkl hc a u HA.out HU.out he).symm
                    have hxn : ((((a * 16 + u).toUInt8).toNat : Nat) : Int) = 16 * (a : Int) + (u : Int) := by rw [UInt8.toNat_ofNat']; omega
                    rcases esc_ways a u he with x1 | ⟨x1, x2⟩ | ⟨x1, x2, x3⟩ | ⟨x1, x2, x3, x4⟩
                    all_goals
                      clear HA HU he
                      go_wp2_with fail
                      go_quiet (fail)
                      obtain ⟨X0, hX⟩ : ∃ X0, X0 = wr.drewN nq := ⟨_, rfl⟩
                      have HS := HS.out.drewN nq
                      rw [← hX] at HS
                      have HS : Hid _ := HS
                      have c0 : X0.cell? ⟨b, 0, none⟩ = some (.string s) := HS.out.cel.cell 0
                      have c1 : X0.cell? ⟨b, 1, none⟩ = some (.int .i64 j) := HS.out.cel.cell 1
                      have c2 : X0.cell? ⟨b, 2, none⟩ = some (.int .i64 (-1)) := HS.out.cel.cell 2
                      have f1 : X0.frozen? ⟨b, 1, none⟩ = false := HS.out.cel.frozen 1
                      have hlt := HS.out.lt
                      rw [← hX]
                      clear hX
                      go_wp2_with fail
                      go_quiet (fail)
                      obtain ⟨X1, hX⟩ : ∃ X1, X1 = X0.drewN nq := ⟨_, rfl⟩
                      have HS := HS.out.drewN nq
                      rw [← hX] at HS
                      have HS : Hid _ := HS
                      have c0 : X1.cell? ⟨b, 0, none⟩ = some (.string s) := HS.out.cel.cell 0
                      have c1 : X1.cell? ⟨b, 1, none⟩ = some (.int .i64 j) := HS.out.cel.cell 1
                      have c2 : X1.cell? ⟨b, 2, none⟩ = some (.int .i64 (-1)) := HS.out.cel.cell 2
                      have f1 : X1.frozen? ⟨b, 1, none⟩ = false := HS.out.cel.frozen 1
                      have hlt := HS.out.lt
                      rw [← hX]
                      clear hX
                      go_wp2_with fail
                      go_quiet (fail)
                      obtain ⟨X2, hX⟩ : ∃ X2, X2 = X1.drewN nq := ⟨_, rfl⟩
                      have HS := HS.out.drewN nq
                      rw [← hX] at HS
                      have HS : Hid _ := HS
                      have c0 : X2.cell? ⟨b, 0, none⟩ = some (.string s) := HS.out.cel.cell 0
                      have c1 : X2.cell? ⟨b, 1, none⟩ = some (.int .i64 j) := HS.out.cel.cell 1
                      have c2 : X2.cell? ⟨b, 2, none⟩ = some (.int .i64 (-1)) := HS.out.cel.cell 2
                      have f1 : X2.frozen? ⟨b, 1, none⟩ = false := HS.out.cel.frozen 1
                      have hlt := HS.out.lt
                      rw [← hX]
                      clear hX
                      go_wp2_with fail
                      go_quiet (first | (go_at_call 56; exact Calls.quiet_of_same (HX1.out _)))
                      obtain ⟨X3, hX⟩ : ∃ X3, X3 = X2.drewN nq := ⟨_, rfl⟩
                      have HS := HS.out.drewN nq
                      rw [← hX] at HS
                      have HS : Hid _ := HS
                      have c0 : X3.cell? ⟨b, 0, none⟩ = some (.string s) := HS.out.cel.cell 0
                      have c1 : X3.cell? ⟨b, 1, none⟩ = some (.int .i64 j) := HS.out.cel.cell 1
                      have c2 : X3.cell? ⟨b, 2, none⟩ = some (.int .i64 (-1)) := HS.out.cel.cell 2
                      have f1 : X3.frozen? ⟨b, 1, none⟩ = false := HS.out.cel.frozen 1
                      have hlt := HS.out.lt
                      rw [← hX]
                      clear hX
                      go_wp2_with fail
                      go_quiet (fail)
                      obtain ⟨X4, hX⟩ : ∃ X4, X4 = X3.drewN nq := ⟨_, rfl⟩
                      have HS := HS.out.drewN nq
                      rw [← hX] at HS
                      have HS : Hid _ := HS
                      have c0 : X4.cell? ⟨b, 0, none⟩ = some (.string s) := HS.out.cel.cell 0
                      have c1 : X4.cell? ⟨b, 1, none⟩ = some (.int .i64 j) := HS.out.cel.cell 1
                      have c2 : X4.cell? ⟨b, 2, none⟩ = some (.int .i64 (-1)) := HS.out.cel.cell 2
                      have f1 : X4.frozen? ⟨b, 1, none⟩ = false := HS.out.cel.frozen 1
                      have hlt := HS.out.lt
                      rw [← hX]
                      clear hX
                      go_wp2_with fail
                      go_quiet (first | (go_at_call 56; exact Calls.quiet_of_same (HX2.out _)))
                      obtain ⟨X5, hX⟩ : ∃ X5, X5 = X4.drewN nq := ⟨_, rfl⟩
                      have HS := HS.out.drewN nq
                      rw [← hX] at HS
                      have HS : Hid _ := HS
                      have c0 : X5.cell? ⟨b, 0, none⟩ = some (.string s) := HS.out.cel.cell 0
                      have c1 : X5.cell? ⟨b, 1, none⟩ = some (.int .i64 j) := HS.out.cel.cell 1
                      have c2 : X5.cell? ⟨b, 2, none⟩ = some (.int .i64 (-1)) := HS.out.cel.cell 2
                      have f1 : X5.frozen? ⟨b, 1, none⟩ = false := HS.out.cel.frozen 1
                      have hlt := HS.out.lt
                      rw [← hX]
                      clear hX
                      have ho := HS.out.own
                      go_wp2_with (at_builtin; refine wpList_append_own _ rfl _ _ 43 rfl (b + 1) 5 i0 (.int .u8 0) 1 1 Tryz.underlying43 hi hz0 hz1 hz2 rfl (by decide) _ _ _ rfl (ho.alloc _) ⟨X5.heap.size, 0, none⟩ 1 1 [.int .u8 (16 * (a : Int) + (u : Int))] rfl rfl (cells_new _ [.int .u8 (16 * (a : Int) + (u : Int))] _) (by simp [Value.oneCell']) (by have := maxLen_big; omega) (by omega) (by simp; omega) ?_; intro v' w2 hown' hgrow _; have HS2 : Hid (RdSt W b s z j (L ++ [(a * 16 + u).toUInt8]) v' w2) := HS.out.grown hgrow (by rw [hxn]; exact hown'); have e1 : w2.cell? ⟨b, 1, none⟩ = some (.int .i64 j) := HS2.out.cel.cell 1; have g1 : w2.frozen? ⟨b, 1, none⟩ = false := HS2.out.cel.frozen 1; have hlt2 := HS2.out.lt)
                      have HS3 := HS2.out.moved (j + 3) ((j : Int) + 3) (by omega)
                      refine ⟨⟨j + 3, L ++ [(a * 16 + u).toUInt8], f', by omega, by simp; omega, by omega, HE, HS3⟩, by rw [HS3.pos, HP.out]; omega⟩
              · have HE : Hid (R.1 = none) := by unfold Hid; rw [← HQ.out]; exact quG_esc s f' j L hkl hc (esc_none2 s (j + 1) (by unfold hexAt; rw [show s.data.toList[j + 1 + 1]? = none from List.getElem?_eq_none (by simp; omega)]; rfl))
                clear HA
                go_wp2_with fail
                go_quiet (fail)
                obtain ⟨X0, hX⟩ : ∃ X0, X0 = wr.drewN nq := ⟨_, rfl⟩
                have HS := HS.out.drewN nq
                rw [← hX] at HS
                have HS : Hid _ := HS
                have c0 : X0.cell? ⟨b, 0, none⟩ = some (.string s) := HS.out.cel.cell 0
                have c1 : X0.cell? ⟨b, 1, none⟩ = some (.int .i64 j) := HS.out.cel.cell 1
                have c2 : X0.cell? ⟨b, 2, none⟩ = some (.int .i64 (-1)) := HS.out.cel.cell 2
                have f1 : X0.frozen? ⟨b, 1, none⟩ = false := HS.out.cel.frozen 1
                have hlt := HS.out.lt
                rw [← hX]
                clear hX
                go_wp2_with fail
                go_quiet (fail)
                obtain ⟨X1, hX⟩ : ∃ X1, X1 = X0.drewN nq := ⟨_, rfl⟩
                have HS := HS.out.drewN nq
                rw [← hX] at HS
                have HS : Hid _ := HS
                have c0 : X1.cell? ⟨b, 0, none⟩ = some (.string s) := HS.out.cel.cell 0
                have c1 : X1.cell? ⟨b, 1, none⟩ = some (.int .i64 j) := HS.out.cel.cell 1
                have c2 : X1.cell? ⟨b, 2, none⟩ = some (.int .i64 (-1)) := HS.out.cel.cell 2
                have f1 : X1.frozen? ⟨b, 1, none⟩ = false := HS.out.cel.frozen 1
                have hlt := HS.out.lt
                rw [← hX]
                clear hX
                go_wp2_with fail
                go_quiet (fail)
                obtain ⟨X2, hX⟩ : ∃ X2, X2 = X1.drewN nq := ⟨_, rfl⟩
                have HS := HS.out.drewN nq
                rw [← hX] at HS
                have HS : Hid _ := HS
                have c0 : X2.cell? ⟨b, 0, none⟩ = some (.string s) := HS.out.cel.cell 0
                have c1 : X2.cell? ⟨b, 1, none⟩ = some (.int .i64 j) := HS.out.cel.cell 1
                have c2 : X2.cell? ⟨b, 2, none⟩ = some (.int .i64 (-1)) := HS.out.cel.cell 2
                have f1 : X2.frozen? ⟨b, 1, none⟩ = false := HS.out.cel.frozen 1
                have hlt := HS.out.lt
                rw [← hX]
                clear hX
                go_wp2_with fail
                go_quiet (first | (go_at_call 56; exact Calls.quiet_of_same (HX1.out _)))
                obtain ⟨X3, hX⟩ : ∃ X3, X3 = X2.drewN nq := ⟨_, rfl⟩
                have HS := HS.out.drewN nq
                rw [← hX] at HS
                have HS : Hid _ := HS
                have c0 : X3.cell? ⟨b, 0, none⟩ = some (.string s) := HS.out.cel.cell 0
                have c1 : X3.cell? ⟨b, 1, none⟩ = some (.int .i64 j) := HS.out.cel.cell 1
                have c2 : X3.cell? ⟨b, 2, none⟩ = some (.int .i64 (-1)) := HS.out.cel.cell 2
                have f1 : X3.frozen? ⟨b, 1, none⟩ = false := HS.out.cel.frozen 1
                have hlt := HS.out.lt
                rw [← hX]
                clear hX
                go_wp2_with fail
                go_quiet (fail)
                obtain ⟨X4, hX⟩ : ∃ X4, X4 = X3.drewN nq := ⟨_, rfl⟩
                have HS := HS.out.drewN nq
                rw [← hX] at HS
                have HS : Hid _ := HS
                have c0 : X4.cell? ⟨b, 0, none⟩ = some (.string s) := HS.out.cel.cell 0
                have c1 : X4.cell? ⟨b, 1, none⟩ = some (.int .i64 j) := HS.out.cel.cell 1
                have c2 : X4.cell? ⟨b, 2, none⟩ = some (.int .i64 (-1)) := HS.out.cel.cell 2
                have f1 : X4.frozen? ⟨b, 1, none⟩ = false := HS.out.cel.frozen 1
                have hlt := HS.out.lt
                rw [← hX]
                clear hX
                go_wp2_with fail
                refine Calls.mono (HS.out.fail _ (by omega)) ?_
                rintro e w1 ⟨rfl, hw⟩
                go_wp2_with fail
                go_ret
                exact .inr ⟨HE.out, rfl, hw⟩
          · have HE : Hid (R.1 = none) := by unfold Hid; rw [← HQ.out]; exact quG_esc s f' j L hkl hc (esc_none1 s (j + 1) (by unfold hexAt; rw [show s.data.toList[j + 1]? = none from List.getElem?_eq_none (by simp; omega)]; rfl))
            go_wp2_with fail
            go_quiet (fail)
            obtain ⟨X0, hX⟩ : ∃ X0, X0 = wr.drewN nq := ⟨_, rfl⟩
            have HS := HS.out.drewN nq
            rw [← hX] at HS
            have HS : Hid _ := HS
            have c0 : X0.cell? ⟨b, 0, none⟩ = some (.string s) := HS.out.cel.cell 0
            have c1 : X0.cell? ⟨b, 1, none⟩ = some (.int .i64 j) := HS.out.cel.cell 1
            have c2 : X0.cell? ⟨b, 2, none⟩ = some (.int .i64 (-1)) := HS.out.cel.cell 2
            have f1 : X0.frozen? ⟨b, 1, none⟩ = false := HS.out.cel.frozen 1
            have hlt := HS.out.lt
            rw [← hX]
            clear hX
            go_wp2_with fail
            go_quiet (fail)
            obtain ⟨X1, hX⟩ : ∃ X1, X1 = X0.drewN nq := ⟨_, rfl⟩
            have HS := HS.out.drewN nq
            rw [← hX] at HS
            have HS : Hid _ := HS
            have c0 : X1.cell? ⟨b, 0, none⟩ = some (.string s) := HS.out.cel.cell 0
            have c1 : X1.cell? ⟨b, 1, none⟩ = some (.int .i64 j) := HS.out.cel.cell 1
            have c2 : X1.cell? ⟨b, 2, none⟩ = some (.int .i64 (-1)) := HS.out.cel.cell 2
            have f1 : X1.frozen? ⟨b, 1, none⟩ = false := HS.out.cel.frozen 1
            have hlt := HS.out.lt
            rw [← hX]
            clear hX
            go_wp2_with fail
            go_quiet (fail)
            obtain ⟨X2, hX⟩ : ∃ X2, X2 = X1.drewN nq := ⟨_, rfl⟩
            have HS := HS.out.drewN nq
            rw [← hX] at HS
            have HS : Hid _ := HS
            have c0 : X2.cell? ⟨b, 0, none⟩ = some (.string s) := HS.out.cel.cell 0
            have c1 : X2.cell? ⟨b, 1, none⟩ = some (.int .i64 j) := HS.out.cel.cell 1
            have c2 : X2.cell? ⟨b, 2, none⟩ = some (.int .i64 (-1)) := HS.out.cel.cell 2
            have f1 : X2.frozen? ⟨b, 1, none⟩ = false := HS.out.cel.frozen 1
            have hlt := HS.out.lt
            rw [← hX]
            clear hX
            go_wp2_with fail
            refine Calls.mono (HS.out.fail _ (by omega)) ?_
            rintro e w1 ⟨rfl, hw⟩
            go_wp2_with fail
            go_ret
            exact .inr ⟨HE.out, rfl, hw⟩
        · have d92 : ((c.toNat : Int) != 92) = true := by simp only [bne_iff_ne, ne_eq]; exact fun e => h92 (UInt8.toNat_inj.1 (by simpa using (by omega : c.toNat = 92)))
          by_cases h32 : (c.toNat : Int) < 32
          · have HE : Hid (R.1 = none) := by unfold Hid; rw [← HQ.out]; exact quG_bad s f' j L hkl (by rw [hc]; exact h34) (by rw [hc]; exact h92) (by rw [hc]; unfold escB; rw [decide_eq_true h32]; rfl)
            clear h34 h92
            go_wp2_with fail
            go_quiet (fail)
            obtain ⟨X0, hX⟩ : ∃ X0, X0 = wr.drewN nq := ⟨_, rfl⟩
            have HS := HS.out.drewN nq
            rw [← hX] at HS
            have HS : Hid _ := HS
            have c0 : X0.cell? ⟨b, 0, none⟩ = some (.string s) := HS.out.cel.cell 0
            have c1 : X0.cell? ⟨b, 1, none⟩ = some (.int .i64 j) := HS.out.cel.cell 1
            have c2 : X0.cell? ⟨b, 2, none⟩ = some (.int .i64 (-1)) := HS.out.cel.cell 2
            have f1 : X0.frozen? ⟨b, 1, none⟩ = false := HS.out.cel.frozen 1
            have hlt := HS.out.lt
            rw [← hX]
            clear hX
            go_wp2_with fail
            go_quiet (fail)
            obtain ⟨X1, hX⟩ : ∃ X1, X1 = X0.drewN nq := ⟨_, rfl⟩
            have HS := HS.out.drewN nq
            rw [← hX] at HS
            have HS : Hid _ := HS
            have c0 : X1.cell? ⟨b, 0, none⟩ = some (.string s) := HS.out.cel.cell 0
            have c1 : X1.cell? ⟨b, 1, none⟩ = some (.int .i64 j) := HS.out.cel.cell 1
            have c2 : X1.cell? ⟨b, 2, none⟩ = some (.int .i64 (-1)) := HS.out.cel.cell 2
            have f1 : X1.frozen? ⟨b, 1, none⟩ = false := HS.out.cel.frozen 1
            have hlt := HS.out.lt
            rw [← hX]
            clear hX
            go_wp2_with fail
            refine Calls.mono (HS.out.fail _ (by omega)) ?_
            rintro e w1 ⟨rfl, hw⟩
            go_wp2_with fail
            go_ret
            exact .inr ⟨HE.out, rfl, hw⟩
          · by_cases h126 : 126 < (c.toNat : Int)
            · have HE : Hid (R.1 = none) := by unfold Hid; rw [← HQ.out]; exact quG_bad s f' j L hkl (by rw [hc]; exact h34) (by rw [hc]; exact h92) (by rw [hc]; unfold escB; rw [decide_eq_true h126]; simp)
              clear h34 h92
              go_wp2_with fail
              go_quiet (fail)
              obtain ⟨X0, hX⟩ : ∃ X0, X0 = wr.drewN nq := ⟨_, rfl⟩
              have HS := HS.out.drewN nq
              rw [← hX] at HS
              have HS : Hid _ := HS
              have c0 : X0.cell? ⟨b, 0, none⟩ = some (.string s) := HS.out.cel.cell 0
              have c1 : X0.cell? ⟨b, 1, none⟩ = some (.int .i64 j) := HS.out.cel.cell 1
              have c2 : X0.cell? ⟨b, 2, none⟩ = some (.int .i64 (-1)) := HS.out.cel.cell 2
              have f1 : X0.frozen? ⟨b, 1, none⟩ = false := HS.out.cel.frozen 1
              have hlt := HS.out.lt
              rw [← hX]
              clear hX
              go_wp2_with fail
              go_quiet (fail)
              obtain ⟨X1, hX⟩ : ∃ X1, X1 = X0.drewN nq := ⟨_, rfl⟩
              have HS := HS.out.drewN nq
              rw [← hX] at HS
              have HS : Hid _ := HS
              have c0 : X1.cell? ⟨b, 0, none⟩ = some (.string s) := HS.out.cel.cell 0
              have c1 : X1.cell? ⟨b, 1, none⟩ = some (.int .i64 j) := HS.out.cel.cell 1
              have c2 : X1.cell? ⟨b, 2, none⟩ = some (.int .i64 (-1)) := HS.out.cel.cell 2
              have f1 : X1.frozen? ⟨b, 1, none⟩ = false := HS.out.cel.frozen 1
              have hlt := HS.out.lt
              rw [← hX]
              clear hX
              go_wp2_with fail
              refine Calls.mono (HS.out.fail _ (by omega)) ?_
              rintro e w1 ⟨rfl, hw⟩
              go_wp2_with fail
              go_ret
              exact .inr ⟨HE.out, rfl, hw⟩
            · have HE : Hid (quG s f' (j + 1) (L ++ [c]) = R) := by unfold Hid; rw [← HQ.out, quG_ok s f' j L hkl (by rw [hc]; exact h34) (by rw [hc]; exact h92) (by rw [hc]; unfold escB; rw [decide_eq_false h32, decide_eq_false h126, d34, show ((c.toNat : Int) == 92) = false by simpa using d92]; rfl), hc]
              clear h34 h92
              go_wp2_with fail
              go_quiet (fail)
              obtain ⟨X0, hX⟩ : ∃ X0, X0 = wr.drewN nq := ⟨_, rfl⟩
              have HS := HS.out.drewN nq
              rw [← hX] at HS
              have HS : Hid _ := HS
              have c0 : X0.cell? ⟨b, 0, none⟩ = some (.string s) := HS.out.cel.cell 0
              have c1 : X0.cell? ⟨b, 1, none⟩ = some (.int .i64 j) := HS.out.cel.cell 1
              have c2 : X0.cell? ⟨b, 2, none⟩ = some (.int .i64 (-1)) := HS.out.cel.cell 2
              have f1 : X0.frozen? ⟨b, 1, none⟩ = false := HS.out.cel.frozen 1
              have hlt := HS.out.lt
              rw [← hX]
              clear hX
              go_wp2_with fail
              go_quiet (fail)
              obtain ⟨X1, hX⟩ : ∃ X1, X1 = X0.drewN nq := ⟨_, rfl⟩
              have HS := HS.out.drewN nq
              rw [← hX] at HS
              have HS : Hid _ := HS
              have c0 : X1.cell? ⟨b, 0, none⟩ = some (.string s) := HS.out.cel.cell 0
              have c1 : X1.cell? ⟨b, 1, none⟩ = some (.int .i64 j) := HS.out.cel.cell 1
              have c2 : X1.cell? ⟨b, 2, none⟩ = some (.int .i64 (-1)) := HS.out.cel.cell 2
              have f1 : X1.frozen? ⟨b, 1, none⟩ = false := HS.out.cel.frozen 1
              have hlt := HS.out.lt
              rw [← hX]
              clear hX
              have ho := HS.out.own
              go_wp2_with (at_builtin; refine wpList_append_own _ rfl _ _ 43 rfl (b + 1) 5 i0 (.int .u8 0) 1 1 Tryz.underlying43 hi hz0 hz1 hz2 rfl (by decide) _ _ _ rfl (ho.alloc _) ⟨X1.heap.size, 0, none⟩ 1 1 [.int .u8 (c.toNat : Int)] rfl rfl (cells_new _ [.int .u8 (c.toNat : Int)] _) (by simp [Value.oneCell']) (by have := maxLen_big; omega) (by omega) (by simp; omega) ?_; intro v' w2 hown' hgrow _; have HS2 : Hid (RdSt W b s z j (L ++ [c]) v' w2) := HS.out.grown hgrow hown'; have e1 : w2.cell? ⟨b, 1, none⟩ = some (.int .i64 j) := HS2.out.cel.cell 1; have g1 : w2.frozen? ⟨b, 1, none⟩ = false := HS2.out.cel.frozen 1; have hlt2 := HS2.out.lt)
              have HS3 := HS2.out.moved (j + 1) ((j : Int) + 1) (by omega)
              refine ⟨⟨j + 1, L ++ [c], f', by omega, by simp; omega, by omega, HE, HS3⟩, by rw [HS3.pos, HP.out]; omega⟩
    · have HE : Hid (R.1 = none) := by unfold Hid; rw [← HQ.out]; exact quG_end s f' j L hkl
      go_wp2_with fail
      go_quiet (fail)
      obtain ⟨X0, hX⟩ : ∃ X0, X0 = wr.drewN nq := ⟨_, rfl⟩
      have HS := HS.out.drewN nq
      rw [← hX] at HS
      have HS : Hid _ := HS
      have c0 : X0.cell? ⟨b, 0, none⟩ = some (.string s) := HS.out.cel.cell 0
      have c1 : X0.cell? ⟨b, 1, none⟩ = some (.int .i64 j) := HS.out.cel.cell 1
      have c2 : X0.cell? ⟨b, 2, none⟩ = some (.int .i64 (-1)) := HS.out.cel.cell 2
      have f1 : X0.frozen? ⟨b, 1, none⟩ = false := HS.out.cel.frozen 1
      have hlt := HS.out.lt
      rw [← hX]
      clear hX
      go_wp2_with fail
      refine Calls.mono (HS.out.fail _ (by omega)) ?_
      rintro e w1 ⟨rfl, hw⟩
      go_wp2_with fail
      go_ret
      exact .inr ⟨HE.out, rfl, hw⟩
end Go.Proofs.YtaildeglikhkaaaGreatDoor
namespace Go.Proofs.YtaildeglikhkaaaGreatDoor
open Go.RowKit
attribute [local go_sem] Oper.semAt_some

set_option maxHeartbeats 1000000 in
set_option maxRecDepth 100000 in
theorem rquoted_no {W : World} {b : Nat} {s : ByteArray} {k : Nat} {z : Bool} (h : Cel W b 57 (rdC s k (-1) z)) (hc : s.data.toList[k]? ≠ some 34) :
    Calls Tryz.prog 26 #[.pointer (some ⟨b, 0, none⟩)] W fun e w' => RdOut W b s z (quR s k) e w' := by
  have HE : Hid ((quR s k).1 = none) := by unfold Hid quR; rw [if_neg hc]
  have HT : Hid (Calls Tryz.prog 54 #[.pointer (some ⟨b, 0, none⟩), .int .u8 34] W fun e w' => e = .returned (.tuple #[]) ∧ RdBad W b s w') := rbyte_no h 34 hc
  generalize quR s k = R at HE ⊢
  clear hc h
  go_enter Tryz.func26, Tryz.ntmps26
  go_wp2_with fail
  refine Calls.mono HT.out ?_
  rintro e W1 ⟨rfl, hw⟩
  clear HT
  have HW : Hid (RdBad W b s W1) := hw
  obtain ⟨kk, bad, zz, hbad, hcel, _⟩ := hw
  have c2 : W1.cell? ⟨b, 2, none⟩ = some (.int .i64 bad) := hcel.cell 2
  have hn : ¬ bad < 0 := by omega
  clear hcel hbad
  go_wp2_with fail
  go_loopw [3] (fun _ wr => wr = W1) (fun _ _ => 0)
  case atStart => rfl
  case round =>
    subst hrel
    go_wp2_with fail
    go_ret
    exact .inr ⟨HE.out, rfl, HW.out⟩
theorem rquoted_any {W : World} {b : Nat} {s : ByteArray} {z : Bool} (h : Cel W b 57 (rdC s (0 : Nat) (-1) z)) (hs : s.size < 1000000) :
    Calls Tryz.prog 26 #[.pointer (some ⟨b, 0, none⟩)] W fun e w' => RdOut W b s z (quR s 0) e w' := by
  by_cases hc : s.data.toList[0]? = some 34
  · have hk : 0 < s.size := by simpa using (List.getElem?_eq_some_iff.1 hc).1
    refine rquoted_yes h hs hk ?_
    rw [text_at s 0 hk] at hc
    exact Option.some.inj hc
  · exact rquoted_no h hc
set_option maxHeartbeats 2000000 in
theorem runquote_any (s : ByteArray) (hs : s.size < 1000000) (w : World) :
    Calls Tryz.prog 9 #[.string s] w fun e w' => e = .returned (.tuple (unqV (quR s 0).1 (quR s 0).2)) ∧ Below w.heap.size w w' := by
  have HQ : Hid (Calls Tryz.prog 26 #[.pointer (some ⟨w.heap.size, 0, none⟩)] (w.alloc (.cells #[.string s, .int .i64 0, .int .i64 (-1), .bool false] 57)) fun e w' => RdOut (w.alloc (.cells #[.string s, .int .i64 0, .int .i64 (-1), .bool false] 57)) w.heap.size s false (quR s 0) e w') :=
    rquoted_any (show Cel _ w.heap.size 57 (rdC s (0 : Nat) (-1) false) from Cel.new w 57 _) hs
  have HB : Hid (∀ w', Below w.heap.size (w.alloc (.cells #[.string s, .int .i64 0, .int .i64 (-1), .bool false] 57)) w' → ∀ m, Below w.heap.size w (w'.drewN m)) := fun w' h m => dr_below ((below_new w _).trans h) m
  obtain ⟨o, j, ho⟩ : ∃ o j, quR s 0 = (o, j) := ⟨_, _, rfl⟩
  rw [ho] at HQ ⊢
  clear ho
  go_enter Tryz.func9, Tryz.ntmps9
  go_wp2_with fail
  refine Calls.mono HQ.out ?_
  rintro e w1 hw
  rcases hw with ⟨l, h1, rfl, hcel, hbel⟩ | ⟨h1, rfl, kk, bad, zz, hbad, hcel, hbel⟩
  · obtain rfl : o = some l := h1
    have HB1 : Hid (∀ m, Below w.heap.size w (w1.drewN m)) := HB.out _ hbel
    have c1 : w1.cell? ⟨w.heap.size, 1, none⟩ = some (.int .i64 (j : Nat)) := hcel.cell 1
    have c2 : w1.cell? ⟨w.heap.size, 2, none⟩ = some (.int .i64 (-1)) := hcel.cell 2
    clear hcel hbel HQ HB
    go_wp2_with fail
    go_quiet (fail)
    go_wp2_with fail
    go_ret3
    exact ⟨rfl, HB1.out _⟩
  · obtain rfl : o = none := h1
    have HB1 : Hid (Below w.heap.size w w1) := HB.out _ hbel 0
    have c2 : w1.cell? ⟨w.heap.size, 2, none⟩ = some (.int .i64 bad) := hcel.cell 2
    have hn : ¬ bad < 0 := by omega
    clear hcel hbel HQ HB
    go_wp2_with fail
    go_ret3
    exact ⟨rfl, HB1.out⟩
end Go.Proofs.YtaildeglikhkaaaGreatDoor
