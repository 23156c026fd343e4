/- The document's own lexer: what it holds between two tokens. -/
import Derived.Test.YtlbdecohmjpgaaaDoorPurB
import Derived.Test.YtlbdecohmjpgaaaDoorRf12
import Derived.Deep.RegionHeld3
namespace Go.Proofs.YtlbdecohmjpgaaaDoor
open Go.RowKit
attribute [local go_sem] Oper.semAt_some

theorem sizeFl : (Tryd.prog.info? 31).map (·.size) = some 2 := by kernel_rfl
theorem results_flt {fn : Func} {p u : Tmp} (h : fn.results = #[.tmp u, .cell p 31]) (tmps : Array Value) (w : World) (g : Nat) (cs : Array Value) (hp : tmps.getD p undef = .pointer (some ⟨g, 0, none⟩)) (hc : Cel w g 31 cs) (hz : cs.size = 2) :
    (results fn tmps).run Tryd.prog w = .ok (.tuple #[tmps.getD u undef, .agg cs]) w := by
  have hl := run_loadVar_row (P := Tryd.prog) w g 31 31 cs (0, 0) _ hc Tryd.underlying31 rfl (by rw [hz]; exact sizeFl)
  have hp' : tmps[p]?.getD undef = .pointer (some ⟨g, 0, none⟩) := by simpa using hp
  simp only [results, h]
  simp [Result.andThen, asAddr, hp', hl]
/-- Between two tokens: where the lexer stands; the tokens so far; what turned. -/
structure Lst (W1 : World) (b : Nat) (s : ByteArray) (p : Nat) (v : Value) (K : List (Value × Tk)) (wr : World) : Prop where
  lx : Lx wr b s p 0 (.slice none 0 0)
  tk : RTk wr (b + 3) v K
  turn : Turn (fun g => g = b ∨ b + 3 ≤ g) W1 wr
/-- What lies around the lexer: the result's fault, the operators. -/
structure Rnd (W1 : World) (b : Nat) : Prop where
  fl : ∃ b0, b = b0 + 1 ∧ Cel W1 b0 31 #[.int .i64 0, .slice none 0 0]
  ot : Cel W1 (b + 1) 9 opsTV
  ok : Cel W1 (b + 2) 3 opsKV
  size : W1.heap.size = b + 3
theorem Lst.ot {W1 : World} {b : Nat} {s : ByteArray} {p : Nat} {v : Value} {K : List (Value × Tk)} {wr : World} (h : Lst W1 b s p v K wr) (hR : Rnd W1 b) : Cel wr (b + 1) 9 opsTV := hR.ot.turn h.turn (by omega)
theorem Lst.ok {W1 : World} {b : Nat} {s : ByteArray} {p : Nat} {v : Value} {K : List (Value × Tk)} {wr : World} (h : Lst W1 b s p v K wr) (hR : Rnd W1 b) : Cel wr (b + 2) 3 opsKV := hR.ok.turn h.turn (by omega)
theorem Lst.size {W1 : World} {b : Nat} {s : ByteArray} {p : Nat} {v : Value} {K : List (Value × Tk)} {wr : World} (h : Lst W1 b s p v K wr) (hR : Rnd W1 b) : b + 3 ≤ wr.heap.size := by have := h.turn.size; have := hR.size; omega
theorem Lst.drewN {W1 : World} {b : Nat} {s : ByteArray} {p : Nat} {v : Value} {K : List (Value × Tk)} {wr : World} (h : Lst W1 b s p v K wr) (m : Nat) : Lst W1 b s p v K (wr.drewN m) :=
  ⟨h.lx, h.tk.below ⟨rfl, rfl, rfl, Nat.le_refl _, fun _ _ => rfl⟩, h.turn.drewN m⟩
theorem Lst.move {W1 : World} {b : Nat} {s : ByteArray} {p p' : Nat} {v : Value} {K : List (Value × Tk)} {wr : World} (h : Lst W1 b s p v K wr) {x : Int} (hx : x = (p' : Nat)) : Lst W1 b s p' v K (wr.setCell ⟨b, 1, none⟩ (.int .i64 x)) :=
  ⟨h.lx.move hx, h.tk.past (Turn.move (b := b) wr _) (fun _ e => Or.inl (by omega)), h.turn.more (Turn.wide (Turn.move (b := b) wr _))⟩
/-- Nothing but new memory, and memory behind. -/
theorem Lst.below {W1 : World} {b : Nat} {s : ByteArray} {p : Nat} {v v' : Value} {K K' : List (Value × Tk)} {wr w' : World} (h : Lst W1 b s p v K wr) (hb : Below (b + 3) wr w') (hk : RTk w' (b + 3) v' K') : Lst W1 b s p v' K' w' :=
  ⟨Cel.below h.lx hb (by omega), hk, h.turn.more ((Turn.refl (fun g => g = b) wr).both hb)⟩
theorem Lst.fl {W1 : World} {b0 : Nat} {s : ByteArray} {p : Nat} {v : Value} {K : List (Value × Tk)} {wr : World} (h : Lst W1 (b0 + 1) s p v K wr) (hR : Rnd W1 (b0 + 1)) : Cel wr b0 31 #[.int .i64 0, .slice none 0 0] := by
  obtain ⟨b', e, hc⟩ := hR.fl
  obtain rfl : b' = b0 := by omega
  exact hc.turn h.turn (by omega)
theorem Lst.under {W1 : World} {b0 : Nat} {s : ByteArray} {p : Nat} {v : Value} {K : List (Value × Tk)} {wr : World} (h : Lst W1 (b0 + 1) s p v K wr) (hR : Rnd W1 (b0 + 1)) : Below b0 W1 wr := Turn.below h.turn (fun i e => by omega) (by have := hR.size; omega)
/-- What is left behind a word. -/
def afterW (T : List UInt8 → Except Er (Tk × List UInt8)) (g p : Nat) (L : List Tk) (F : Except Er (List Pt × List UInt8)) : Except Er (List Tk) := match F with
  | .error e => .error e
  | .ok q => preT (L ++ [⟨13, p, q.1⟩]) (lexW T g q.2)
/-- The lexer's fault. -/
def codOf (W : World) (b : Nat) : Int := match W.cell? ⟨b, 2, none⟩ with
  | some v => intOf v
  | none => 0
theorem Lx.cod {W : World} {b : Nat} {s : ByteArray} {i : Nat} {c : Int} {av : Value} (h : Lx W b s i c av) : codOf W b = c := by
  have h2 : W.cell? ⟨b, 2, none⟩ = some (.int .i64 c) := Cel.cell h 2
  unfold codOf
  rw [h2]
  simp [intOf]
def mW (s : ByteArray) (b : Nat) (W : World) : Nat := if codOf W b = 0 then s.size + 2 - posOf W b else 0
/-- Within a word: parts so far, or a fault. -/
def WdRel (X : World) (b tb : Nat) (s : ByteArray) (p : Nat) (T : List UInt8 → Except Er (Tk × List UInt8)) (g : Nat) (L : List Tk) (R : Except Er (List Tk)) (w4 : World) : Prop :=
  Turn (fun g => g = b ∨ tb ≤ g) X w4 ∧ tb + 1 ≤ w4.heap.size ∧
  ((∃ (q : Nat) (Y : List Pt) (ad : Option Addr) (cap : Nat), p ≤ q ∧ q ≤ s.size ∧ Y.length ≤ q ∧ (q = p → Y = []) ∧ (∀ x ∈ Y, x.s.length ≤ 8192 + q) ∧ Lx w4 b s q 0 (.slice none 0 0) ∧ Cel w4 tb 45 #[.int .i64 13, .int .i64 (p : Nat), .slice ad Y.length cap] ∧ RPt w4 (tb + 1) (.slice ad Y.length cap) Y ∧ R = afterW T g p L (fin s.size Y (s.data.toList.drop q))) ∨
  (∃ (q : Nat) (x : Er) (fb : Nat), R = .error x ∧ Lx w4 b s q (codE x.code) (.slice (some ⟨fb, 0, none⟩) 1 1) ∧ Cel w4 fb 3 #[.int .i64 (x.pos : Nat)] ∧ fb ≠ b))
theorem ops_at (k : Nat) (hk : k < 12) : opsTV[k]? = some (str ((opsT[k]?).getD [])) ∧ opsKV[k]? = some (.int .i64 (((opsK[k]?).getD 0 : Nat) : Int)) := by
  match k, hk with
  | 0, _ => exact ⟨rfl, rfl⟩
  | 1, _ => exact ⟨rfl, rfl⟩
  | 2, _ => exact ⟨rfl, rfl⟩
  | 3, _ => exact ⟨rfl, rfl⟩
  | 4, _ => exact ⟨rfl, rfl⟩
  | 5, _ => exact ⟨rfl, rfl⟩
  | 6, _ => exact ⟨rfl, rfl⟩
  | 7, _ => exact ⟨rfl, rfl⟩
  | 8, _ => exact ⟨rfl, rfl⟩
  | 9, _ => exact ⟨rfl, rfl⟩
  | 10, _ => exact ⟨rfl, rfl⟩
  | 11, _ => exact ⟨rfl, rfl⟩
theorem ops_len (k : Nat) (hk : k < 12) : 0 < ((opsT[k]?).getD []).length ∧ ((opsT[k]?).getD []).length < 4 := by
  match k, hk with
  | 0, _ => exact ⟨by decide, by decide⟩
  | 1, _ => exact ⟨by decide, by decide⟩
  | 2, _ => exact ⟨by decide, by decide⟩
  | 3, _ => exact ⟨by decide, by decide⟩
  | 4, _ => exact ⟨by decide, by decide⟩
  | 5, _ => exact ⟨by decide, by decide⟩
  | 6, _ => exact ⟨by decide, by decide⟩
  | 7, _ => exact ⟨by decide, by decide⟩
  | 8, _ => exact ⟨by decide, by decide⟩
  | 9, _ => exact ⟨by decide, by decide⟩
  | 10, _ => exact ⟨by decide, by decide⟩
  | 11, _ => exact ⟨by decide, by decide⟩
/-- Is there an operator, and which is the first? -/
theorem ops_cases (l : List UInt8) : (∀ j, j < 12 → isOp l j = false) ∨ ∃ k, k < 12 ∧ isOp l k = true ∧ ∀ j, j < k → isOp l j = false := by
  have : ∀ n, n ≤ 12 → (∀ j, j < n → isOp l j = false) ∨ ∃ k, k < n ∧ isOp l k = true ∧ ∀ j, j < k → isOp l j = false := by
    intro n
    induction n with
    | zero => intro _; exact Or.inl (fun j hj => absurd hj (by omega))
    | succ n ih =>
      intro hn
      rcases ih (by omega) with h | ⟨k, h1, h2, h3⟩
      · cases h0 : isOp l n with
        | true => exact Or.inr ⟨n, by omega, h0, h⟩
        | false =>
          refine Or.inl fun j hj => ?_
          rcases Nat.lt_or_ge j n with h4 | h4
          · exact h j h4
          · rw [show j = n by omega]; exact h0
      · exact Or.inr ⟨k, by omega, h2, h3⟩
  exact this 12 (Nat.le_refl _)
theorem isOp_len (l : List UInt8) (k : Nat) (h : isOp l k = true) : ((opsT[k]?).getD []).length ≤ l.length := (List.isPrefixOf_iff_prefix.1 h).length_le
end Go.Proofs.YtlbdecohmjpgaaaDoor
