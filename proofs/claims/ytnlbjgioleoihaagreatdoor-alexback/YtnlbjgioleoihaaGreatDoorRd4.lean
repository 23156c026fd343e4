/- The variables; a part in memory; an error around its place; a variable's part. -/
import Derived.Test.YtnlbjgioleoihaaGreatDoorRd3
import Derived.Deep.RegionHeld3
import Derived.Deep.Light
import Derived.Laws.ResultCell
namespace Go.Proofs.YtnlbjgioleoihaaGreatDoor
open Go.RowKit
attribute [local go_sem] Oper.semAt_some

abbrev errV (a : Addr) : Value := .iface 136 (.pointer (some a))
/-- The signs as they lie in their variable. -/
def sgA : Array Value := #[.string ⟨#[]⟩, .string ⟨#[10]⟩, .string ⟨#[59]⟩, .string ⟨#[59, 59]⟩, .string ⟨#[38, 38]⟩, .string ⟨#[124, 124]⟩, .string ⟨#[124]⟩, .string ⟨#[40]⟩, .string ⟨#[41]⟩, .string ⟨#[60]⟩, .string ⟨#[62]⟩, .string ⟨#[62, 62]⟩, .string ⟨#[60, 60, 60]⟩]
/-- The errors lie in the first variables, and are others each; the signs lie in the second. -/
structure Env (W : World) (ea : Nat → Addr) : Prop where
  cell : ∀ i, i < 18 → i ≠ 1 → W.cell? ⟨i, 0, none⟩ = some (errV (ea i))
  apart : ∀ i j, i < 18 → j < 18 → i ≠ 1 → j ≠ 1 → ea i = ea j → i = j
  row : ∀ i, i < 18 → i ≠ 1 → ∃ c t, W.heap[(ea i).block]? = some (.cells c t (0, 0))
  glob : 18 ≤ (ea 64).block
  old : ∀ i, i < 18 → i ≠ 1 → (ea i).block < (ea 64).block
  sg : ∃ (t : TypeId) (fr : Nat × Nat), W.heap[1]? = some (.cells sgA t fr)
theorem Env.lt {W : World} {ea : Nat → Addr} (h : Env W ea) {i : Nat} (hi : i < 18) (h1 : i ≠ 1) : i < W.heap.size := World.block_lt_of_cell? W _ (h.cell i hi h1)
/-- Only blocks behind the first turned. -/
theorem Env.turn {W W' : World} {ea : Nat → Addr} {S : Nat → Prop} (h : Env W ea) (hT : Turn S W W') (hS : ∀ i, S i → (ea 64).block ≤ i) : Env W' ea where
  glob := h.glob
  cell i hi h1 := (World.cell?_of_block (w := W) (a := ⟨i, 0, none⟩) (hT.block i (h.lt hi h1) (fun e => by have := hS i e; have := h.glob; omega))).trans (h.cell i hi h1)
  apart := h.apart
  row i hi h1 := by
    obtain ⟨c, t, hc⟩ := h.row i hi h1
    have ho := h.old i hi h1
    exact ⟨c, t, (hT.block _ (Array.getElem?_eq_some_iff.1 hc).1 (fun e => by have := hS _ e; have := h.glob; omega)).trans hc⟩
  old := h.old
  sg := by
    obtain ⟨t, fr, hc⟩ := h.sg
    exact ⟨t, fr, (hT.block _ (Array.getElem?_eq_some_iff.1 hc).1 (fun e => by have := hS _ e; have := h.glob; omega)).trans hc⟩
theorem Env.below {W W' : World} {ea : Nat → Addr} (h : Env W ea) (hb : Below W.heap.size W W') : Env W' ea := h.turn (Turn.ofBelow (S := fun _ => False) hb) (fun _ e => e.elim)
theorem Env.stp {W W' : World} {ea : Nat → Addr} {b sb k : Nat} {s : ByteArray} (h : Env W ea) (hS : Stp W b sb s k W') (hb : (ea 64).block ≤ b) : Env W' ea := h.turn hS.turn (fun i e => by rw [e]; exact hb)
theorem Env.set {W : World} {ea : Nat → Addr} (h : Env W ea) {b : Nat} (hb : (ea 64).block ≤ b) (j : Nat) (v : Value) : Env (W.setCell ⟨b, j, none⟩ v) ea :=
  h.turn (S := fun i => i = b) (Turn.setCell (S := fun i => i = b) (p := ⟨b, j, none⟩) (Turn.refl _ W) (fun _ => rfl) v) (fun i e => by omega)
theorem Env.drewN {W : World} {ea : Nat → Addr} (h : Env W ea) (m : Nat) : Env (W.drewN m) ea := h.below ⟨rfl, rfl, rfl, Nat.le_refl _, fun _ _ => rfl⟩
theorem nrun_len (l : List UInt8) : (nrun l).length ≤ l.length := by
  cases l with
  | nil => simp [nrun]
  | cons c t =>
    rw [nrun]
    split
    · exact (List.takeWhile_sublist _).length_le
    · simp
/-! ### parts -/
abbrev ptC (p : Pt) : List Value := [.int .i64 (p.kind : Nat), .int .i64 (p.pos : Nat), .int .i64 (p.n : Nat), .bool p.quoted, str p.s]
def ptZ : Pt := ⟨0, 0, 0, false, []⟩
abbrev zC : Array Value := #[.int .i64 0, .int .i64 0, .int .i64 0, .bool false, .string ⟨#[]⟩]
theorem zC_eq : zC = (ptC ptZ).toArray := rfl
/-- Where an error lies among the variables. -/
def gOf : Nat → Nat
  | 0 => 7
  | 1 => 5
  | 2 => 3
  | _ => 2
/-- An error around its place. -/
def AtEr (W : World) (ea : Nat → Addr) (v : Value) (x : Er) : Prop := ∃ q, v = .iface 79 (.pointer (some ⟨q, 0, none⟩)) ∧ Cel W q 81 #[.int .i64 (x.pos : Nat), errV (ea (gOf x.code))]
theorem AtEr.turn {W W' : World} {ea : Nat → Addr} {v : Value} {x : Er} {S : Nat → Prop} (h : AtEr W ea v x) (hT : Turn S W W') (hS : ∀ i, S i → ∀ cs, ¬ Cel W i 81 cs) : AtEr W' ea v x := by
  obtain ⟨q, h1, h2⟩ := h
  exact ⟨q, h1, h2.turn hT (fun e => hS q e _ h2)⟩
theorem AtEr.below {W W' : World} {ea : Nat → Addr} {v : Value} {x : Er} (h : AtEr W ea v x) (hb : Below W.heap.size W W') : AtEr W' ea v x := h.turn (Turn.ofBelow (S := fun _ => False) hb) (fun _ e => e.elim)
theorem fails_any (p : Nat) (a : Addr) (W : World) : Calls Tryz.prog 23 #[.int .i64 (p : Nat), errV a] W fun e w' => e = .returned (.iface 79 (.pointer (some ⟨W.heap.size, 0, none⟩))) ∧ Cel w' W.heap.size 81 #[.int .i64 (p : Nat), errV a] ∧ Below W.heap.size W w' := by
  go_enter Tryz.func23, Tryz.ntmps23
  go_wp2_with fail
  go_ret
  exact ⟨rfl, Cel.new W _ _, below_new W _⟩
theorem size49 : (Tryz.prog.info? 36).map (·.size) = some 5 := by kernel_rfl
theorem results_part {fn : Func} {p u : Tmp} (h : fn.results = #[.cell p 36, .tmp u]) (tmps : Array Value) (w : World) (g : Nat) (cs : Array Value) (hp : tmps.getD p undef = .pointer (some ⟨g, 0, none⟩)) (hc : Cel w g 36 cs) (hz : cs.size = 5) :
    (results fn tmps).run Tryz.prog w = .ok (.tuple #[.agg cs, tmps.getD u undef]) w := by
  rw [results_cell_tmp h, hp]
  simp only [asAddr, Sem.run_pure, Result.andThen]
  rw [run_loadVar_row w g 36 36 cs (0, 0) _ hc Tryz.underlying36 rfl (by rw [hz]; exact size49)]
def putP (X : World) (g : Nat) (v0 v1 v2 v3 v4 : Value) : World := ((((X.setCell ⟨g, 0, none⟩ v0).setCell ⟨g, 1, none⟩ v1).setCell ⟨g, 2, none⟩ v2).setCell ⟨g, 3, none⟩ v3).setCell ⟨g, 4, none⟩ v4
theorem Cel.put5 {X : World} {g : Nat} {t : TypeId} {u0 u1 u2 u3 u4 : Value} (h : Cel X g t #[u0, u1, u2, u3, u4]) (v0 v1 v2 v3 v4 : Value) : Cel (putP X g v0 v1 v2 v3 v4) g t #[v0, v1, v2, v3, v4] :=
  ((((h.set (j := 0) v0).set (j := 1) v1).set (j := 2) v2).set (j := 3) v3).set (j := 4) v4
theorem Cel.away5 {X : World} {g c : Nat} {t : TypeId} {cs : Array Value} (h : Cel X c t cs) (hne : c ≠ g) (v0 v1 v2 v3 v4 : Value) : Cel (putP X g v0 v1 v2 v3 v4) c t cs :=
  ((((h.other hne v0).other hne v1).other hne v2).other hne v3).other hne v4
theorem below_put {W X : World} {B g : Nat} (h : Below B W X) (hg : B ≤ g) (v0 v1 v2 v3 v4 : Value) : Below B W (putP X g v0 v1 v2 v3 v4) :=
  ((((h.setCell (p := ⟨g, 0, none⟩) hg v0).setCell (p := ⟨g, 1, none⟩) hg v1).setCell (p := ⟨g, 2, none⟩) hg v2).setCell (p := ⟨g, 3, none⟩) hg v3).setCell (p := ⟨g, 4, none⟩) hg v4
theorem Stp.other {W X : World} {b sb k g : Nat} {s : ByteArray} (h : Stp W b sb s k X) (hb : b < W.heap.size) (hsb : sb < W.heap.size) (hg : W.heap.size ≤ g) (j : Nat) (v : Value) : Stp W b sb s k (X.setCell ⟨g, j, none⟩ v) :=
  ⟨⟨h.at_.rd.other (by omega) v, h.at_.src.other (by omega) v⟩, h.turn.setCell (p := ⟨g, j, none⟩) (fun hlt => by have : g < W.heap.size := hlt; omega) v⟩
theorem Stp.put5 {W X : World} {b sb k g : Nat} {s : ByteArray} (h : Stp W b sb s k X) (hb : b < W.heap.size) (hsb : sb < W.heap.size) (hg : W.heap.size ≤ g) (v0 v1 v2 v3 v4 : Value) : Stp W b sb s k (putP X g v0 v1 v2 v3 v4) :=
  ((((h.other hb hsb hg 0 v0).other hb hsb hg 1 v1).other hb hsb hg 2 v2).other hb hsb hg 3 v3).other hb hsb hg 4 v4
theorem Cel.new2 (W : World) (o : Obj) (t : TypeId) (cs : Array Value) : Cel ((W.alloc o).alloc (.cells cs t)) (W.heap.size + 1) t cs := by
  have := Cel.new (W.alloc o) t cs
  simpa using this
/-- A part, or an error; where the reader stands behind it. -/
def PartV (W : World) (b sb : Nat) (s : ByteArray) (ea : Nat → Addr) (R : Except Er (Pt × List UInt8)) (p : Pt) (ev : Value) (w' : World) : Prop := match R with
  | .ok q => p = q.1 ∧ ev = .nilIface ∧ ∃ j, Stp W b sb s j w' ∧ j ≤ s.size ∧ q.2 = s.data.toList.drop j
  | .error x => AtEr w' ea ev x ∧ ∃ j, Stp W b sb s j w'
theorem PartV.lift {W W0 w' : World} {b sb k : Nat} {s : ByteArray} {ea : Nat → Addr} {R : Except Er (Pt × List UInt8)} {p : Pt} {ev : Value} (h : PartV W0 b sb s ea R p ev w') (h0 : Stp W b sb s k W0) : PartV W b sb s ea R p ev w' := by
  cases R with
  | ok q =>
    obtain ⟨h1, h2, j, h3, h4, h5⟩ := h
    exact ⟨h1, h2, j, h0.trans h3, h4, h5⟩
  | error x =>
    obtain ⟨h1, j, h3⟩ := h
    exact ⟨h1, j, h0.trans h3⟩
theorem AtEr.put {w : World} {g : Nat} {cs : Array Value} {ea : Nat → Addr} {v : Value} {x : Er} (h : AtEr w ea v x) (hc : Cel w g 36 cs) (v0 v1 v2 v3 v4 : Value) : AtEr (putP w g v0 v1 v2 v3 v4) ea v x := by
  obtain ⟨q, h1, h2⟩ := h
  refine ⟨q, h1, h2.away5 (fun e => ?_) _ _ _ _ _⟩
  subst e
  have := (show w.heap[q]? = _ from h2).symm.trans hc
  simp at this
theorem PartV.put {W w : World} {b sb g : Nat} {s : ByteArray} {ea : Nat → Addr} {R : Except Er (Pt × List UInt8)} {p : Pt} {ev : Value} {cs : Array Value} (h : PartV W b sb s ea R p ev w) (hc : Cel w g 36 cs) (hb : b < W.heap.size) (hsb : sb < W.heap.size) (hg : W.heap.size ≤ g) (v0 v1 v2 v3 v4 : Value) : PartV W b sb s ea R p ev (putP w g v0 v1 v2 v3 v4) := by
  cases R with
  | ok q =>
    obtain ⟨h1, h2, j, h3, h4, h5⟩ := h
    exact ⟨h1, h2, j, h3.put5 hb hsb hg _ _ _ _ _, h4, h5⟩
  | error x =>
    obtain ⟨h1, j, h3⟩ := h
    exact ⟨h1.put hc _ _ _ _ _, j, h3.put5 hb hsb hg _ _ _ _ _⟩
set_option maxHeartbeats 1000000 in
theorem variable_yes (pos : Nat) (nm : List UInt8) (W : World) (hn : nameB nm = true) :
    Calls Tryz.prog 72 #[.agg (ptC ⟨0, pos, 0, false, []⟩).toArray, str nm] W fun e w' => e = .returned (.tuple #[.agg (ptC ⟨3, pos, 0, false, nm⟩).toArray, .nilIface]) ∧ Below W.heap.size W w' := by
  have HN : Hid (∀ w, Calls Tryz.prog 80 #[str nm] w fun e w' => e = .returned (.bool true) ∧ w' = w) := fun w => by
    have := name_any ⟨nm.toArray⟩ w
    rw [show nameB (ByteArray.mk nm.toArray).data.toList = true from hn] at this
    exact this
  clear hn
  go_enter Tryz.func72, Tryz.ntmps72
  go_wp2_with fail
  refine Calls.mono (HN.out _) ?_
  rintro e w1 ⟨rfl, rfl⟩
  go_wp2_with fail
  refine bodyPost_ret (results_part (p := 4) (u := 5) rfl _ _ (W.heap.size + 1) _ rfl (Cel.new2 _ _ _ _) rfl) rfl ?_
  exact ⟨rfl, ((below_new W _).alloc (by simp) _)⟩
set_option maxHeartbeats 1000000 in
theorem variable_no (pos : Nat) (nm : List UInt8) (W : World) (ea : Nat → Addr) (hE : Env W ea) (hn : nameB nm = false) :
    Calls Tryz.prog 72 #[.agg (ptC ⟨0, pos, 0, false, []⟩).toArray, str nm] W fun e w' => ∃ v, e = .returned (.tuple #[.agg zC, v]) ∧ AtEr w' ea v ⟨0, pos⟩ ∧ Below W.heap.size W w' := by
  have HN : Hid (∀ w, Calls Tryz.prog 80 #[str nm] w fun e w' => e = .returned (.bool false) ∧ w' = w) := fun w => by
    have := name_any ⟨nm.toArray⟩ w
    rw [show nameB (ByteArray.mk nm.toArray).data.toList = false from hn] at this
    exact this
  have HE : Hid (Env W ea) := hE
  clear hn hE
  go_enter Tryz.func72, Tryz.ntmps72
  go_wp2_with fail
  refine Calls.mono (HN.out _) ?_
  rintro e w1 ⟨rfl, hw⟩
  obtain ⟨W0, hW0⟩ : ∃ W0, W0 = w1 := ⟨_, rfl⟩
  rw [hw] at hW0
  rw [hw, ← hW0]
  have hB0 : Below W.heap.size W W0 := by rw [hW0]; exact (below_new W _).alloc (by simp) _
  have hz0 : W0.heap.size = W.heap.size + 2 := by rw [hW0]; simp
  have hc0 : Cel W0 W.heap.size 36 (ptC ⟨0, pos, 0, false, []⟩).toArray := by rw [hW0]; exact (Cel.new W _ _).below (below_new _ _) (by simp)
  have hc1 : Cel W0 (W.heap.size + 1) 36 zC := by rw [hW0]; exact Cel.new2 _ _ _ _
  have hE0 : Env W0 ea := HE.out.below hB0
  have g0 := hE0.cell 7 (by omega) (by omega)
  have a1 : W0.cell? ⟨W.heap.size, 1, none⟩ = some (.int .i64 (pos : Nat)) := hc0.cell 1
  have HC1 : Hid (Cel W0 (W.heap.size + 1) 36 zC) := hc1
  have HB0 : Hid (Below W.heap.size W W0) := hB0
  clear hW0 hw hc0 hc1 hB0 hE0
  go_wp2_with fail
  refine (fails_any pos _ W0).mono ?_
  rintro e w2 ⟨rfl, hq, hb2⟩
  have hc2 := HC1.out.below hb2 HC1.out.lt
  have b0 : w2.cell? ⟨W.heap.size + 1, 0, none⟩ = some (.int .i64 0) := hc2.cell 0
  have b1 : w2.cell? ⟨W.heap.size + 1, 1, none⟩ = some (.int .i64 0) := hc2.cell 1
  have b2 : w2.cell? ⟨W.heap.size + 1, 2, none⟩ = some (.int .i64 0) := hc2.cell 2
  have b3 : w2.cell? ⟨W.heap.size + 1, 3, none⟩ = some (.bool false) := hc2.cell 3
  have b4 : w2.cell? ⟨W.heap.size + 1, 4, none⟩ = some (.string ⟨#[]⟩) := hc2.cell 4
  have f0 := hc2.frozen 0
  have f1 := hc2.frozen 1
  have f2 := hc2.frozen 2
  have f3 := hc2.frozen 3
  have f4 := hc2.frozen 4
  have HQ : Hid (Cel w2 (W.heap.size + 2) 81 #[.int .i64 (pos : Nat), errV (ea 7)]) := by rw [← hz0]; exact hq
  have HC2 : Hid (Cel w2 (W.heap.size + 1) 36 zC) := hc2
  have HB2 : Hid (Below W.heap.size W w2) := HB0.out.trans (Below.mono hb2 (by omega))
  clear hq hc2 hb2
  go_wp2_with fail
  refine bodyPost_ret (results_part (p := 4) (u := 5) rfl _ _ (W.heap.size + 1) _ rfl (HC2.out.put5 _ _ _ _ _) rfl) rfl ?_
  exact ⟨_, rfl, ⟨_, rfl, HQ.out.away5 (by omega) _ _ _ _ _⟩, below_put HB2.out (by omega) _ _ _ _ _⟩
theorem variable_any {W : World} {b sb k : Nat} {s : ByteArray} {ea : Nat → Addr} (pos : Nat) (nm : List UInt8) (h : Rd W b sb s k) (hE : Env W ea) (hk : k ≤ s.size) :
    Calls Tryz.prog 72 #[.agg (ptC ⟨0, pos, 0, false, []⟩).toArray, str nm] W fun e w' => ∃ p ev, e = .returned (.tuple #[.agg (ptC p).toArray, ev]) ∧ PartV W b sb s ea (varR pos nm (s.data.toList.drop k)) p ev w' ∧ Below W.heap.size W w' := by
  unfold varR
  cases hn : nameB nm with
  | true =>
    refine (variable_yes pos nm W hn).mono ?_
    rintro e w' ⟨rfl, hb⟩
    exact ⟨_, _, rfl, ⟨rfl, rfl, k, (Stp.refl h).below hb, hk, rfl⟩, hb⟩
  | false =>
    refine (variable_no pos nm W ea hE hn).mono ?_
    rintro e w' ⟨v, rfl, hx, hb⟩
    exact ⟨ptZ, v, rfl, ⟨hx, k, (Stp.refl h).below hb⟩, hb⟩
end Go.Proofs.YtnlbjgioleoihaaGreatDoor
