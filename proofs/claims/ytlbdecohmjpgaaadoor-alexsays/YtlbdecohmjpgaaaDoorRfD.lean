/- The document's own lexer: a dollar and a bracket, a dollar and a brace. -/
import Derived.Test.YtlbdecohmjpgaaaDoorRf2
import Derived.Deep.Cut
import Derived.Deep.CutRange
import Derived.Deep.CutBlock
/-! The document's own lexer: what a dollar begins. -/
namespace Go.Proofs.YtlbdecohmjpgaaaDoor
open Go.RowKit
attribute [local go_sem] Oper.semAt_some

theorem size72 : (Tryd.prog.info? 72).map (·.size) = some 5 := by kernel_rfl
theorem results_partR {fn : Func} {p u : Tmp} (h : fn.results = #[.cell p 72, .tmp u]) (tmps : Array Value) (w : World) (g : Nat) (cs : Array Value) (hp : tmps.getD p undef = .pointer (some ⟨g, 0, none⟩)) (hc : Cel w g 72 cs) (hz : cs.size = 5) :
    (results fn tmps).run Tryd.prog w = .ok (.tuple #[.agg cs, tmps.getD u undef]) w := by
  rw [results_cell_tmp h, hp]
  simp only [asAddr, Sem.run_pure, Result.andThen]
  rw [run_loadVar_row w g 72 72 cs (0, 0) _ hc Tryd.underlying72 rfl (by rw [hz]; exact size72)]
/-- What a dollar comes to, by the document. -/
def DolR (W : World) (b : Nat) (s : ByteArray) (i : Nat) (av : Value) (q : Bool) (R : Option (Except Er (Pt × List UInt8))) (p : Pt) (is : Bool) (w' : World) : Prop := match R with
  | none => is = false ∧ Lx w' b s i 0 av ∧ Turn (fun g => g = b) W w'
  | some (.ok r) => is = true ∧ p = ⟨r.1.kind, r.1.pos, r.1.n, q, r.1.s⟩ ∧ ∃ j, Lx w' b s j 0 av ∧ Turn (fun g => g = b) W w' ∧ j ≤ s.size ∧ r.2 = s.data.toList.drop j
  | some (.error x) => is = false ∧ Flt W b s x w'
abbrev pV (i : Nat) (q : Bool) : Array Value := #[.int .i64 3, .int .i64 (i : Nat), .int .i64 0, .bool q, .string ⟨#[]⟩]
theorem boxesR {W : World} {b : Nat} {s : ByteArray} {i : Nat} {av : Value} (h : Lx W b s i 0 av) (q : Bool) :
    ∃ W0, W0 = (W.alloc (.cells zC 72)).alloc (.cells (pV i q) 72) ∧ Lx W0 b s i 0 av ∧ Turn (fun g => g = b) W W0 ∧ W0.heap.size = W.heap.size + 2 ∧ Cel W0 W.heap.size 72 zC ∧ Cel W0 (W.heap.size + 1) 72 (pV i q) :=
  ⟨_, rfl, (h.below (below_new _ _) h.lt).below (below_new _ _) (by have := h.lt; simp; omega), Turn.ofBelow ((below_new W _).alloc (by simp) _), by simp, (Cel.new W _ _).below (below_new _ _) (by simp), Cel.new2 _ _ _ _⟩
/-- The lexer stands there; only its block turned. -/
def TL (W : World) (b : Nat) (s : ByteArray) (j : Nat) (av : Value) (X : World) : Prop := Lx X b s j 0 av ∧ Turn (fun g => g = b) W X
theorem TL.other {W X : World} {b : Nat} {s : ByteArray} {j : Nat} {av : Value} (h : TL W b s j av X) (hb : b < W.heap.size) {g : Nat} (hg : W.heap.size ≤ g) (o : Nat) (v : Value) : TL W b s j av (X.setCell ⟨g, o, none⟩ v) :=
  ⟨h.1.other (by omega) v, Turn.setCell (S := fun g => g = b) (p := ⟨g, o, none⟩) h.2 (fun hl => by have : g < W.heap.size := hl; omega) v⟩
theorem TL.move {W X : World} {b : Nat} {s : ByteArray} {j j' : Nat} {av : Value} (h : TL W b s j av X) {v : Int} (hv : v = (j' : Nat)) : TL W b s j' av (X.setCell ⟨b, 1, none⟩ (.int .i64 v)) := by
  subst hv
  exact ⟨h.1.set (j := 1) _, Turn.setCell (S := fun g => g = b) (p := ⟨b, 1, none⟩) h.2 (fun _ => rfl) _⟩
theorem TL.put5 {W X : World} {b : Nat} {s : ByteArray} {j : Nat} {av : Value} (h : TL W b s j av X) (hb : b < W.heap.size) {g : Nat} (hg : W.heap.size ≤ g) (v0 v1 v2 v3 v4 : Value) : TL W b s j av (putP X g v0 v1 v2 v3 v4) :=
  ((((h.other hb hg 0 v0).other hb hg 1 v1).other hb hg 2 v2).other hb hg 3 v3).other hb hg 4 v4
theorem Flt.turn {W w' : World} {b : Nat} {s : ByteArray} {x : Er} (h : Flt W b s x w') : Turn (fun g => g = b) W w' := by
  obtain ⟨_, _, _, _, _, h5⟩ := h
  exact h5
theorem Flt.lift {W X w' : World} {b : Nat} {s : ByteArray} {x : Er} (h : Flt X b s x w') (hT : Turn (fun g => g = b) W X) : Flt W b s x w' := by
  obtain ⟨i, fb, h1, h2, h3, h4⟩ := h
  exact ⟨i, fb, h1, h2, Nat.le_trans hT.size h3, hT.trans h4 (fun _ e _ => e)⟩
/-- A part's box that is older than the fault is written anew. -/
theorem Flt.put5 {W X w' : World} {b g : Nat} {s : ByteArray} {x : Er} {cs : Array Value} (h : Flt W b s x w') (hb : b < W.heap.size) (hgX : g < X.heap.size) (hg : W.heap.size ≤ g) (hX : Flt X b s x w') (_hc : Cel X g 72 cs) {v0 v1 v2 v3 v4 : Value} : Flt W b s x (putP w' g v0 v1 v2 v3 v4) := by
  obtain ⟨i, fb, h1, h2, h3, h4⟩ := hX
  refine ⟨i, fb, h1.away5 (by omega) _ _ _ _ _, h2.away5 (by omega) _ _ _ _ _, by omega, ?_⟩
  have hw : ∀ (Y : World) (o : Nat) (v : Value), Turn (fun g => g = b) W Y → Turn (fun g => g = b) W (Y.setCell ⟨g, o, none⟩ v) := fun Y o v hY => Turn.setCell (S := fun g => g = b) (p := ⟨g, o, none⟩) hY (fun hl => by have : g < W.heap.size := hl; omega) v
  exact hw _ _ _ (hw _ _ _ (hw _ _ _ (hw _ _ _ (hw _ _ _ h.turn))))
set_option maxRecDepth 100000 in
set_option maxHeartbeats 4000000 in
theorem dolR_end {W : World} {b : Nat} {s : ByteArray} {i : Nat} {av : Value} (h : Lx W b s i 0 av) (q : Bool) (hs : s.size < 1099511627776) (hrun : ∀ w, Calls Tryd.prog 47 #[.string s, .int .i64 ((i : Int) + 1)] w fun e w' => e = .returned (.int .i64 ((i : Int) + 1)) ∧ w' = w) (hi0 : i < s.size) (hi : s.size ≤ i + 1) :
    Calls Tryd.prog 38 #[.pointer (some ⟨b, 0, none⟩), .bool q] W fun e w' => e = .returned (.tuple #[.agg zC, .bool false]) ∧ TL W b s i av w' := by
  have hlb := h.lt
  obtain ⟨W0, hW0, hL0, hT0, hz0, hq0, hp0⟩ := boxesR h q
  have HRUN : Hid _ := hrun
  have l1 : W.cell? ⟨b, 1, none⟩ = some (.int .i64 (i : Nat)) := h.cell 1
  have HW0 : Hid ((W.alloc (.cells zC 72)).alloc (.cells (pV i q) 72) = W0) := hW0.symm
  have HTL : Hid (TL W b s i av W0) := ⟨hL0, hT0⟩
  have HQ0 : Hid (Cel W0 W.heap.size 72 zC) := hq0
  have HP0 : Hid (Cel W0 (W.heap.size + 1) 72 (pV i q)) := hp0
  clear hrun hW0 hL0 hT0 hq0 hp0 h
  have hi1 : (s.size : Int) ≤ (i : Int) + 1 := by omega
  go_enter Tryd.func38, Tryd.ntmps38
  go_upto_region 3 with fail
  rw [HW0.out]
  clear HW0 l1
  have l0 : W0.cell? ⟨b, 0, none⟩ = some (.string s) := HTL.out.1.cell 0
  have l1 : W0.cell? ⟨b, 1, none⟩ = some (.int .i64 (i : Nat)) := HTL.out.1.cell 1
  have lf := HTL.out.1.frozen 1
  have p0 : W0.cell? ⟨W.heap.size + 1, 0, none⟩ = some (.int .i64 3) := HP0.out.cell 0
  have p1 : W0.cell? ⟨W.heap.size + 1, 1, none⟩ = some (.int .i64 (i : Nat)) := HP0.out.cell 1
  have p2 : W0.cell? ⟨W.heap.size + 1, 2, none⟩ = some (.int .i64 0) := HP0.out.cell 2
  have p3 : W0.cell? ⟨W.heap.size + 1, 3, none⟩ = some (.bool q) := HP0.out.cell 3
  have p4 : W0.cell? ⟨W.heap.size + 1, 4, none⟩ = some (.string ⟨#[]⟩) := HP0.out.cell 4
  have pf0 := HP0.out.frozen 0
  have pf2 := HP0.out.frozen 2
  have pf4 := HP0.out.frozen 4
  have z0 : W0.cell? ⟨W.heap.size, 0, none⟩ = some (.int .i64 0) := HQ0.out.cell 0
  have z1 : W0.cell? ⟨W.heap.size, 1, none⟩ = some (.int .i64 0) := HQ0.out.cell 1
  have z2 : W0.cell? ⟨W.heap.size, 2, none⟩ = some (.int .i64 0) := HQ0.out.cell 2
  have z3 : W0.cell? ⟨W.heap.size, 3, none⟩ = some (.bool false) := HQ0.out.cell 3
  have z4 : W0.cell? ⟨W.heap.size, 4, none⟩ = some (.string ⟨#[]⟩) := HQ0.out.cell 4
  have zf0 := HQ0.out.frozen 0
  have zf1 := HQ0.out.frozen 1
  have zf2 := HQ0.out.frozen 2
  have zf3 := HQ0.out.frozen 3
  have zf4 := HQ0.out.frozen 4
  have n1 : ¬ W.heap.size = b := by omega
  have n2 : ¬ b = W.heap.size := by omega
  have n3 : ¬ W.heap.size + 1 = b := by omega
  have n4 : ¬ b = W.heap.size + 1 := by omega
  have n5 : ¬ W.heap.size = W.heap.size + 1 := by omega
  have n6 : ¬ W.heap.size + 1 = W.heap.size := by omega
  go_wp2_with fail
  refine Calls.mono (HRUN.out _) ?_
  rintro e w1 ⟨rfl, hw⟩
  obtain rfl := hw.symm
  clear hw HRUN
  go_wp2_with fail
  refine bodyPost_ret (results_partR (p := 4) (u := 5) rfl _ _ W.heap.size _ rfl (Cel.put5 (HQ0.out) _ _ _ _ _) rfl) rfl ?_
  exact ⟨rfl, HTL.out.put5 hlb (Nat.le_refl _) _ _ _ _ _⟩
set_option maxRecDepth 100000 in
set_option maxHeartbeats 4000000 in
theorem dolR_star {W : World} {b : Nat} {s : ByteArray} {i : Nat} {av : Value} (h : Lx W b s i 0 av) (q : Bool) (hs : s.size < 1099511627776) (hrun : ∀ w, Calls Tryd.prog 47 #[.string s, .int .i64 ((i : Int) + 1)] w fun e w' => e = .returned (.int .i64 ((i : Int) + 1)) ∧ w' = w) (hi : i + 1 < s.size) (hc : s[i + 1] = 42) :
    Calls Tryd.prog 38 #[.pointer (some ⟨b, 0, none⟩), .bool q] W fun e w' => e = .returned (.tuple #[.agg (ptC ⟨3, i, 0, q, [42]⟩).toArray, .bool true]) ∧ TL W b s (i + 2) av w' := by
  have hlb := h.lt
  obtain ⟨W0, hW0, hL0, hT0, hz0, hq0, hp0⟩ := boxesR h q
  have HRUN : Hid _ := hrun
  have l1 : W.cell? ⟨b, 1, none⟩ = some (.int .i64 (i : Nat)) := h.cell 1
  have HW0 : Hid ((W.alloc (.cells zC 72)).alloc (.cells (pV i q) 72) = W0) := hW0.symm
  have HTL : Hid (TL W b s i av W0) := ⟨hL0, hT0⟩
  have HQ0 : Hid (Cel W0 W.heap.size 72 zC) := hq0
  have HP0 : Hid (Cel W0 (W.heap.size + 1) 72 (pV i q)) := hp0
  clear hrun hW0 hL0 hT0 hq0 hp0 h
  have hi1 : ¬ (s.size : Int) ≤ (i : Int) + 1 := by omega
  have hi2 : (i : Int) + 1 < (s.size : Int) := by omega
  have q0 : (((s[i + 1]).toNat : Int) == 123) = false := beq_eq_false_iff_ne.2 (fun e => by rw [hc] at e; exact absurd e (by decide))
  have q1 : (((s[i + 1]).toNat : Int) == 42) = true := by rw [hc]; rfl
  go_enter Tryd.func38, Tryd.ntmps38
  go_upto_region 3 with fail
  rw [HW0.out]
  clear HW0 l1
  have l0 : W0.cell? ⟨b, 0, none⟩ = some (.string s) := HTL.out.1.cell 0
  have l1 : W0.cell? ⟨b, 1, none⟩ = some (.int .i64 (i : Nat)) := HTL.out.1.cell 1
  have lf := HTL.out.1.frozen 1
  have p0 : W0.cell? ⟨W.heap.size + 1, 0, none⟩ = some (.int .i64 3) := HP0.out.cell 0
  have p1 : W0.cell? ⟨W.heap.size + 1, 1, none⟩ = some (.int .i64 (i : Nat)) := HP0.out.cell 1
  have p2 : W0.cell? ⟨W.heap.size + 1, 2, none⟩ = some (.int .i64 0) := HP0.out.cell 2
  have p3 : W0.cell? ⟨W.heap.size + 1, 3, none⟩ = some (.bool q) := HP0.out.cell 3
  have p4 : W0.cell? ⟨W.heap.size + 1, 4, none⟩ = some (.string ⟨#[]⟩) := HP0.out.cell 4
  have pf0 := HP0.out.frozen 0
  have pf2 := HP0.out.frozen 2
  have pf4 := HP0.out.frozen 4
  have z0 : W0.cell? ⟨W.heap.size, 0, none⟩ = some (.int .i64 0) := HQ0.out.cell 0
  have z1 : W0.cell? ⟨W.heap.size, 1, none⟩ = some (.int .i64 0) := HQ0.out.cell 1
  have z2 : W0.cell? ⟨W.heap.size, 2, none⟩ = some (.int .i64 0) := HQ0.out.cell 2
  have z3 : W0.cell? ⟨W.heap.size, 3, none⟩ = some (.bool false) := HQ0.out.cell 3
  have z4 : W0.cell? ⟨W.heap.size, 4, none⟩ = some (.string ⟨#[]⟩) := HQ0.out.cell 4
  have zf0 := HQ0.out.frozen 0
  have zf1 := HQ0.out.frozen 1
  have zf2 := HQ0.out.frozen 2
  have zf3 := HQ0.out.frozen 3
  have zf4 := HQ0.out.frozen 4
  have n1 : ¬ W.heap.size = b := by omega
  have n2 : ¬ b = W.heap.size := by omega
  have n3 : ¬ W.heap.size + 1 = b := by omega
  have n4 : ¬ b = W.heap.size + 1 := by omega
  have n5 : ¬ W.heap.size = W.heap.size + 1 := by omega
  have n6 : ¬ W.heap.size + 1 = W.heap.size := by omega
  go_wp2_with fail
  refine Calls.mono (HRUN.out _) ?_
  rintro e w1 ⟨rfl, hw⟩
  obtain rfl := hw.symm
  clear hw HRUN
  go_wp2_with fail
  refine bodyPost_ret (results_partR (p := 4) (u := 5) rfl _ _ W.heap.size _ rfl (Cel.put5 (((HQ0.out.other (by omega) _).other (by omega) _)) _ _ _ _ _) rfl) rfl ?_
  exact ⟨rfl, (((HTL.out).other hlb (by omega) _ _).move (j' := i + 2) (by omega)).put5 hlb (Nat.le_refl _) _ _ _ _ _⟩
set_option maxRecDepth 100000 in
set_option maxHeartbeats 4000000 in
theorem dolR_num {W : World} {b : Nat} {s : ByteArray} {i : Nat} {av : Value} (h : Lx W b s i 0 av) (q : Bool) (hs : s.size < 1099511627776) (hrun : ∀ w, Calls Tryd.prog 47 #[.string s, .int .i64 ((i : Int) + 1)] w fun e w' => e = .returned (.int .i64 ((i : Int) + 1)) ∧ w' = w) (hi : i + 1 < s.size) (h49 : 49 ≤ (s[i + 1]).toNat) (h57 : (s[i + 1]).toNat ≤ 57) :
    Calls Tryd.prog 38 #[.pointer (some ⟨b, 0, none⟩), .bool q] W fun e w' => e = .returned (.tuple #[.agg (ptC ⟨5, i, (s[i + 1]).toNat - 48, q, []⟩).toArray, .bool true]) ∧ TL W b s (i + 2) av w' := by
  have hlb := h.lt
  obtain ⟨W0, hW0, hL0, hT0, hz0, hq0, hp0⟩ := boxesR h q
  have HRUN : Hid _ := hrun
  have l1 : W.cell? ⟨b, 1, none⟩ = some (.int .i64 (i : Nat)) := h.cell 1
  have HW0 : Hid ((W.alloc (.cells zC 72)).alloc (.cells (pV i q) 72) = W0) := hW0.symm
  have HTL : Hid (TL W b s i av W0) := ⟨hL0, hT0⟩
  have HQ0 : Hid (Cel W0 W.heap.size 72 zC) := hq0
  have HP0 : Hid (Cel W0 (W.heap.size + 1) 72 (pV i q)) := hp0
  clear hrun hW0 hL0 hT0 hq0 hp0 h
  have hi1 : ¬ (s.size : Int) ≤ (i : Int) + 1 := by omega
  have hi2 : (i : Int) + 1 < (s.size : Int) := by omega
  have q0 : (((s[i + 1]).toNat : Int) == 123) = false := beq_eq_false_iff_ne.2 (by omega)
  have q1 : (((s[i + 1]).toNat : Int) == 42) = false := beq_eq_false_iff_ne.2 (by omega)
  have q8 : 49 ≤ ((s[i + 1]).toNat : Int) := by omega
  have q9 : ((s[i + 1]).toNat : Int) ≤ 57 := by omega
  go_enter Tryd.func38, Tryd.ntmps38
  go_upto_region 3 with fail
  rw [HW0.out]
  clear HW0 l1
  have l0 : W0.cell? ⟨b, 0, none⟩ = some (.string s) := HTL.out.1.cell 0
  have l1 : W0.cell? ⟨b, 1, none⟩ = some (.int .i64 (i : Nat)) := HTL.out.1.cell 1
  have lf := HTL.out.1.frozen 1
  have p0 : W0.cell? ⟨W.heap.size + 1, 0, none⟩ = some (.int .i64 3) := HP0.out.cell 0
  have p1 : W0.cell? ⟨W.heap.size + 1, 1, none⟩ = some (.int .i64 (i : Nat)) := HP0.out.cell 1
  have p2 : W0.cell? ⟨W.heap.size + 1, 2, none⟩ = some (.int .i64 0) := HP0.out.cell 2
  have p3 : W0.cell? ⟨W.heap.size + 1, 3, none⟩ = some (.bool q) := HP0.out.cell 3
  have p4 : W0.cell? ⟨W.heap.size + 1, 4, none⟩ = some (.string ⟨#[]⟩) := HP0.out.cell 4
  have pf0 := HP0.out.frozen 0
  have pf2 := HP0.out.frozen 2
  have pf4 := HP0.out.frozen 4
  have z0 : W0.cell? ⟨W.heap.size, 0, none⟩ = some (.int .i64 0) := HQ0.out.cell 0
  have z1 : W0.cell? ⟨W.heap.size, 1, none⟩ = some (.int .i64 0) := HQ0.out.cell 1
  have z2 : W0.cell? ⟨W.heap.size, 2, none⟩ = some (.int .i64 0) := HQ0.out.cell 2
  have z3 : W0.cell? ⟨W.heap.size, 3, none⟩ = some (.bool false) := HQ0.out.cell 3
  have z4 : W0.cell? ⟨W.heap.size, 4, none⟩ = some (.string ⟨#[]⟩) := HQ0.out.cell 4
  have zf0 := HQ0.out.frozen 0
  have zf1 := HQ0.out.frozen 1
  have zf2 := HQ0.out.frozen 2
  have zf3 := HQ0.out.frozen 3
  have zf4 := HQ0.out.frozen 4
  have n1 : ¬ W.heap.size = b := by omega
  have n2 : ¬ b = W.heap.size := by omega
  have n3 : ¬ W.heap.size + 1 = b := by omega
  have n4 : ¬ b = W.heap.size + 1 := by omega
  have n5 : ¬ W.heap.size = W.heap.size + 1 := by omega
  have n6 : ¬ W.heap.size + 1 = W.heap.size := by omega
  go_wp2_with fail
  refine Calls.mono (HRUN.out _) ?_
  rintro e w1 ⟨rfl, hw⟩
  obtain rfl := hw.symm
  clear hw HRUN
  go_wp2_with fail
  refine bodyPost_ret (results_partR (p := 4) (u := 5) rfl _ _ W.heap.size _ rfl (Cel.put5 (((((HQ0.out.other (by omega) _).other (by omega) _)).other (by omega) _)) _ _ _ _ _) rfl) rfl ?_
  exact ⟨congrArg (fun z : Int => Ending.returned (.tuple #[.agg #[.int .i64 5, .int .i64 (i : Nat), .int .i64 z, .bool q, .string ⟨#[]⟩], .bool true])) (show ((s[i + 1]).toNat : Int) - 48 = (((s[i + 1]).toNat - 48 : Nat) : Int) by omega), ((((HTL.out).other hlb (by omega) _ _).other hlb (by omega) _ _).move (j' := i + 2) (by omega)).put5 hlb (Nat.le_refl _) _ _ _ _ _⟩
set_option maxRecDepth 100000 in
set_option maxHeartbeats 4000000 in
theorem dolR_many {W : World} {b : Nat} {s : ByteArray} {i : Nat} {av : Value} (h : Lx W b s i 0 av) (q : Bool) (hs : s.size < 1099511627776) (hrun : ∀ w, Calls Tryd.prog 47 #[.string s, .int .i64 ((i : Int) + 1)] w fun e w' => e = .returned (.int .i64 ((i : Int) + 1)) ∧ w' = w) (hi : i + 1 < s.size) (hc : s[i + 1] = 35) :
    Calls Tryd.prog 38 #[.pointer (some ⟨b, 0, none⟩), .bool q] W fun e w' => e = .returned (.tuple #[.agg (ptC ⟨6, i, 0, q, []⟩).toArray, .bool true]) ∧ TL W b s (i + 2) av w' := by
  have hlb := h.lt
  obtain ⟨W0, hW0, hL0, hT0, hz0, hq0, hp0⟩ := boxesR h q
  have HRUN : Hid _ := hrun
  have l1 : W.cell? ⟨b, 1, none⟩ = some (.int .i64 (i : Nat)) := h.cell 1
  have HW0 : Hid ((W.alloc (.cells zC 72)).alloc (.cells (pV i q) 72) = W0) := hW0.symm
  have HTL : Hid (TL W b s i av W0) := ⟨hL0, hT0⟩
  have HQ0 : Hid (Cel W0 W.heap.size 72 zC) := hq0
  have HP0 : Hid (Cel W0 (W.heap.size + 1) 72 (pV i q)) := hp0
  clear hrun hW0 hL0 hT0 hq0 hp0 h
  have hi1 : ¬ (s.size : Int) ≤ (i : Int) + 1 := by omega
  have hi2 : (i : Int) + 1 < (s.size : Int) := by omega
  have q0 : (((s[i + 1]).toNat : Int) == 123) = false := beq_eq_false_iff_ne.2 (fun e => by rw [hc] at e; exact absurd e (by decide))
  have q1 : (((s[i + 1]).toNat : Int) == 42) = false := beq_eq_false_iff_ne.2 (fun e => by rw [hc] at e; exact absurd e (by decide))
  have q8 : decide (49 ≤ ((s[i + 1]).toNat : Int)) = false := by rw [hc]; rfl
  have q3 : (((s[i + 1]).toNat : Int) == 35) = true := by rw [hc]; rfl
  go_enter Tryd.func38, Tryd.ntmps38
  go_upto_region 3 with fail
  rw [HW0.out]
  clear HW0 l1
  have l0 : W0.cell? ⟨b, 0, none⟩ = some (.string s) := HTL.out.1.cell 0
  have l1 : W0.cell? ⟨b, 1, none⟩ = some (.int .i64 (i : Nat)) := HTL.out.1.cell 1
  have lf := HTL.out.1.frozen 1
  have p0 : W0.cell? ⟨W.heap.size + 1, 0, none⟩ = some (.int .i64 3) := HP0.out.cell 0
  have p1 : W0.cell? ⟨W.heap.size + 1, 1, none⟩ = some (.int .i64 (i : Nat)) := HP0.out.cell 1
  have p2 : W0.cell? ⟨W.heap.size + 1, 2, none⟩ = some (.int .i64 0) := HP0.out.cell 2
  have p3 : W0.cell? ⟨W.heap.size + 1, 3, none⟩ = some (.bool q) := HP0.out.cell 3
  have p4 : W0.cell? ⟨W.heap.size + 1, 4, none⟩ = some (.string ⟨#[]⟩) := HP0.out.cell 4
  have pf0 := HP0.out.frozen 0
  have pf2 := HP0.out.frozen 2
  have pf4 := HP0.out.frozen 4
  have z0 : W0.cell? ⟨W.heap.size, 0, none⟩ = some (.int .i64 0) := HQ0.out.cell 0
  have z1 : W0.cell? ⟨W.heap.size, 1, none⟩ = some (.int .i64 0) := HQ0.out.cell 1
  have z2 : W0.cell? ⟨W.heap.size, 2, none⟩ = some (.int .i64 0) := HQ0.out.cell 2
  have z3 : W0.cell? ⟨W.heap.size, 3, none⟩ = some (.bool false) := HQ0.out.cell 3
  have z4 : W0.cell? ⟨W.heap.size, 4, none⟩ = some (.string ⟨#[]⟩) := HQ0.out.cell 4
  have zf0 := HQ0.out.frozen 0
  have zf1 := HQ0.out.frozen 1
  have zf2 := HQ0.out.frozen 2
  have zf3 := HQ0.out.frozen 3
  have zf4 := HQ0.out.frozen 4
  have n1 : ¬ W.heap.size = b := by omega
  have n2 : ¬ b = W.heap.size := by omega
  have n3 : ¬ W.heap.size + 1 = b := by omega
  have n4 : ¬ b = W.heap.size + 1 := by omega
  have n5 : ¬ W.heap.size = W.heap.size + 1 := by omega
  have n6 : ¬ W.heap.size + 1 = W.heap.size := by omega
  go_wp2_with fail
  refine Calls.mono (HRUN.out _) ?_
  rintro e w1 ⟨rfl, hw⟩
  obtain rfl := hw.symm
  clear hw HRUN
  go_wp2_with fail
  refine bodyPost_ret (results_partR (p := 4) (u := 5) rfl _ _ W.heap.size _ rfl (Cel.put5 (((HQ0.out.other (by omega) _).other (by omega) _)) _ _ _ _ _) rfl) rfl ?_
  exact ⟨rfl, (((HTL.out).other hlb (by omega) _ _).move (j' := i + 2) (by omega)).put5 hlb (Nat.le_refl _) _ _ _ _ _⟩
set_option maxRecDepth 100000 in
set_option maxHeartbeats 4000000 in
theorem dolR_low {W : World} {b : Nat} {s : ByteArray} {i : Nat} {av : Value} (h : Lx W b s i 0 av) (q : Bool) (hs : s.size < 1099511627776) (hrun : ∀ w, Calls Tryd.prog 47 #[.string s, .int .i64 ((i : Int) + 1)] w fun e w' => e = .returned (.int .i64 ((i : Int) + 1)) ∧ w' = w) (hi : i + 1 < s.size) (h1 : s[i + 1] ≠ 123) (h2 : s[i + 1] ≠ 42) (h3 : s[i + 1] ≠ 35) (h4 : s[i + 1] ≠ 40) (h5 : (s[i + 1]).toNat < 49) :
    Calls Tryd.prog 38 #[.pointer (some ⟨b, 0, none⟩), .bool q] W fun e w' => e = .returned (.tuple #[.agg zC, .bool false]) ∧ TL W b s i av w' := by
  have hlb := h.lt
  obtain ⟨W0, hW0, hL0, hT0, hz0, hq0, hp0⟩ := boxesR h q
  have HRUN : Hid _ := hrun
  have l1 : W.cell? ⟨b, 1, none⟩ = some (.int .i64 (i : Nat)) := h.cell 1
  have HW0 : Hid ((W.alloc (.cells zC 72)).alloc (.cells (pV i q) 72) = W0) := hW0.symm
  have HTL : Hid (TL W b s i av W0) := ⟨hL0, hT0⟩
  have HQ0 : Hid (Cel W0 W.heap.size 72 zC) := hq0
  have HP0 : Hid (Cel W0 (W.heap.size + 1) 72 (pV i q)) := hp0
  clear hrun hW0 hL0 hT0 hq0 hp0 h
  have hi1 : ¬ (s.size : Int) ≤ (i : Int) + 1 := by omega
  have hi2 : (i : Int) + 1 < (s.size : Int) := by omega
  have q0 : (((s[i + 1]).toNat : Int) == 123) = false := byte_ne s[i + 1] 123 h1
  have q1 : (((s[i + 1]).toNat : Int) == 42) = false := byte_ne s[i + 1] 42 h2
  have q3 : (((s[i + 1]).toNat : Int) == 35) = false := byte_ne s[i + 1] 35 h3
  have q4 : (((s[i + 1]).toNat : Int) == 40) = false := byte_ne s[i + 1] 40 h4
  have q8 : decide (49 ≤ ((s[i + 1]).toNat : Int)) = false := decide_eq_false (by omega)
  clear h1 h2 h3 h4
  go_enter Tryd.func38, Tryd.ntmps38
  go_upto_region 3 with fail
  rw [HW0.out]
  clear HW0 l1
  have l0 : W0.cell? ⟨b, 0, none⟩ = some (.string s) := HTL.out.1.cell 0
  have l1 : W0.cell? ⟨b, 1, none⟩ = some (.int .i64 (i : Nat)) := HTL.out.1.cell 1
  have lf := HTL.out.1.frozen 1
  have p0 : W0.cell? ⟨W.heap.size + 1, 0, none⟩ = some (.int .i64 3) := HP0.out.cell 0
  have p1 : W0.cell? ⟨W.heap.size + 1, 1, none⟩ = some (.int .i64 (i : Nat)) := HP0.out.cell 1
  have p2 : W0.cell? ⟨W.heap.size + 1, 2, none⟩ = some (.int .i64 0) := HP0.out.cell 2
  have p3 : W0.cell? ⟨W.heap.size + 1, 3, none⟩ = some (.bool q) := HP0.out.cell 3
  have p4 : W0.cell? ⟨W.heap.size + 1, 4, none⟩ = some (.string ⟨#[]⟩) := HP0.out.cell 4
  have pf0 := HP0.out.frozen 0
  have pf2 := HP0.out.frozen 2
  have pf4 := HP0.out.frozen 4
  have z0 : W0.cell? ⟨W.heap.size, 0, none⟩ = some (.int .i64 0) := HQ0.out.cell 0
  have z1 : W0.cell? ⟨W.heap.size, 1, none⟩ = some (.int .i64 0) := HQ0.out.cell 1
  have z2 : W0.cell? ⟨W.heap.size, 2, none⟩ = some (.int .i64 0) := HQ0.out.cell 2
  have z3 : W0.cell? ⟨W.heap.size, 3, none⟩ = some (.bool false) := HQ0.out.cell 3
  have z4 : W0.cell? ⟨W.heap.size, 4, none⟩ = some (.string ⟨#[]⟩) := HQ0.out.cell 4
  have zf0 := HQ0.out.frozen 0
  have zf1 := HQ0.out.frozen 1
  have zf2 := HQ0.out.frozen 2
  have zf3 := HQ0.out.frozen 3
  have zf4 := HQ0.out.frozen 4
  have n1 : ¬ W.heap.size = b := by omega
  have n2 : ¬ b = W.heap.size := by omega
  have n3 : ¬ W.heap.size + 1 = b := by omega
  have n4 : ¬ b = W.heap.size + 1 := by omega
  have n5 : ¬ W.heap.size = W.heap.size + 1 := by omega
  have n6 : ¬ W.heap.size + 1 = W.heap.size := by omega
  go_wp2_with fail
  refine Calls.mono (HRUN.out _) ?_
  rintro e w1 ⟨rfl, hw⟩
  obtain rfl := hw.symm
  clear hw HRUN
  go_wp2_with fail
  refine bodyPost_ret (results_partR (p := 4) (u := 5) rfl _ _ W.heap.size _ rfl (Cel.put5 (HQ0.out) _ _ _ _ _) rfl) rfl ?_
  exact ⟨rfl, HTL.out.put5 hlb (Nat.le_refl _) _ _ _ _ _⟩
set_option maxRecDepth 100000 in
set_option maxHeartbeats 4000000 in
theorem dolR_high {W : World} {b : Nat} {s : ByteArray} {i : Nat} {av : Value} (h : Lx W b s i 0 av) (q : Bool) (hs : s.size < 1099511627776) (hrun : ∀ w, Calls Tryd.prog 47 #[.string s, .int .i64 ((i : Int) + 1)] w fun e w' => e = .returned (.int .i64 ((i : Int) + 1)) ∧ w' = w) (hi : i + 1 < s.size) (h1 : s[i + 1] ≠ 123) (h2 : s[i + 1] ≠ 42) (h3 : s[i + 1] ≠ 35) (h4 : s[i + 1] ≠ 40) (h5 : 57 < (s[i + 1]).toNat) :
    Calls Tryd.prog 38 #[.pointer (some ⟨b, 0, none⟩), .bool q] W fun e w' => e = .returned (.tuple #[.agg zC, .bool false]) ∧ TL W b s i av w' := by
  have hlb := h.lt
  obtain ⟨W0, hW0, hL0, hT0, hz0, hq0, hp0⟩ := boxesR h q
  have HRUN : Hid _ := hrun
  have l1 : W.cell? ⟨b, 1, none⟩ = some (.int .i64 (i : Nat)) := h.cell 1
  have HW0 : Hid ((W.alloc (.cells zC 72)).alloc (.cells (pV i q) 72) = W0) := hW0.symm
  have HTL : Hid (TL W b s i av W0) := ⟨hL0, hT0⟩
  have HQ0 : Hid (Cel W0 W.heap.size 72 zC) := hq0
  have HP0 : Hid (Cel W0 (W.heap.size + 1) 72 (pV i q)) := hp0
  clear hrun hW0 hL0 hT0 hq0 hp0 h
  have hi1 : ¬ (s.size : Int) ≤ (i : Int) + 1 := by omega
  have hi2 : (i : Int) + 1 < (s.size : Int) := by omega
  have q0 : (((s[i + 1]).toNat : Int) == 123) = false := byte_ne s[i + 1] 123 h1
  have q1 : (((s[i + 1]).toNat : Int) == 42) = false := byte_ne s[i + 1] 42 h2
  have q3 : (((s[i + 1]).toNat : Int) == 35) = false := byte_ne s[i + 1] 35 h3
  have q4 : (((s[i + 1]).toNat : Int) == 40) = false := byte_ne s[i + 1] 40 h4
  have q8 : 49 ≤ ((s[i + 1]).toNat : Int) := by omega
  have q9 : decide (((s[i + 1]).toNat : Int) ≤ 57) = false := decide_eq_false (by omega)
  clear h1 h2 h3 h4
  go_enter Tryd.func38, Tryd.ntmps38
  go_upto_region 3 with fail
  rw [HW0.out]
  clear HW0 l1
  have l0 : W0.cell? ⟨b, 0, none⟩ = some (.string s) := HTL.out.1.cell 0
  have l1 : W0.cell? ⟨b, 1, none⟩ = some (.int .i64 (i : Nat)) := HTL.out.1.cell 1
  have lf := HTL.out.1.frozen 1
  have p0 : W0.cell? ⟨W.heap.size + 1, 0, none⟩ = some (.int .i64 3) := HP0.out.cell 0
  have p1 : W0.cell? ⟨W.heap.size + 1, 1, none⟩ = some (.int .i64 (i : Nat)) := HP0.out.cell 1
  have p2 : W0.cell? ⟨W.heap.size + 1, 2, none⟩ = some (.int .i64 0) := HP0.out.cell 2
  have p3 : W0.cell? ⟨W.heap.size + 1, 3, none⟩ = some (.bool q) := HP0.out.cell 3
  have p4 : W0.cell? ⟨W.heap.size + 1, 4, none⟩ = some (.string ⟨#[]⟩) := HP0.out.cell 4
  have pf0 := HP0.out.frozen 0
  have pf2 := HP0.out.frozen 2
  have pf4 := HP0.out.frozen 4
  have z0 : W0.cell? ⟨W.heap.size, 0, none⟩ = some (.int .i64 0) := HQ0.out.cell 0
  have z1 : W0.cell? ⟨W.heap.size, 1, none⟩ = some (.int .i64 0) := HQ0.out.cell 1
  have z2 : W0.cell? ⟨W.heap.size, 2, none⟩ = some (.int .i64 0) := HQ0.out.cell 2
  have z3 : W0.cell? ⟨W.heap.size, 3, none⟩ = some (.bool false) := HQ0.out.cell 3
  have z4 : W0.cell? ⟨W.heap.size, 4, none⟩ = some (.string ⟨#[]⟩) := HQ0.out.cell 4
  have zf0 := HQ0.out.frozen 0
  have zf1 := HQ0.out.frozen 1
  have zf2 := HQ0.out.frozen 2
  have zf3 := HQ0.out.frozen 3
  have zf4 := HQ0.out.frozen 4
  have n1 : ¬ W.heap.size = b := by omega
  have n2 : ¬ b = W.heap.size := by omega
  have n3 : ¬ W.heap.size + 1 = b := by omega
  have n4 : ¬ b = W.heap.size + 1 := by omega
  have n5 : ¬ W.heap.size = W.heap.size + 1 := by omega
  have n6 : ¬ W.heap.size + 1 = W.heap.size := by omega
  go_wp2_with fail
  refine Calls.mono (HRUN.out _) ?_
  rintro e w1 ⟨rfl, hw⟩
  obtain rfl := hw.symm
  clear hw HRUN
  go_wp2_with fail
  refine bodyPost_ret (results_partR (p := 4) (u := 5) rfl _ _ W.heap.size _ rfl (Cel.put5 (HQ0.out) _ _ _ _ _) rfl) rfl ?_
  exact ⟨rfl, HTL.out.put5 hlb (Nat.le_refl _) _ _ _ _ _⟩
set_option maxRecDepth 100000 in
set_option maxHeartbeats 4000000 in
theorem dolR_name {W : World} {b : Nat} {s : ByteArray} {i : Nat} {av : Value} (h : Lx W b s i 0 av) (q : Bool) (hs : s.size < 1099511627776) (nm : List UInt8) (hrun : ∀ w, Calls Tryd.prog 47 #[.string s, .int .i64 ((i : Int) + 1)] w fun e w' => e = .returned (.int .i64 ((i + 1 + nm.length : Nat) : Int)) ∧ w' = w) (h1 : 0 < nm.length) (h2 : nm.length ≤ 20) (hk : i + 1 + nm.length ≤ s.size) (hnm : s.extract (i + 1) (i + 1 + nm.length) = ⟨nm.toArray⟩) :
    Calls Tryd.prog 38 #[.pointer (some ⟨b, 0, none⟩), .bool q] W fun e w' => e = .returned (.tuple #[.agg (ptC ⟨3, i, 0, q, nm⟩).toArray, .bool true]) ∧ TL W b s (i + 1 + nm.length) av w' := by
  have hlb := h.lt
  obtain ⟨W0, hW0, hL0, hT0, hz0, hq0, hp0⟩ := boxesR h q
  have HRUN : Hid _ := hrun
  have l1 : W.cell? ⟨b, 1, none⟩ = some (.int .i64 (i : Nat)) := h.cell 1
  have HW0 : Hid ((W.alloc (.cells zC 72)).alloc (.cells (pV i q) 72) = W0) := hW0.symm
  have HTL : Hid (TL W b s i av W0) := ⟨hL0, hT0⟩
  have HQ0 : Hid (Cel W0 W.heap.size 72 zC) := hq0
  have HP0 : Hid (Cel W0 (W.heap.size + 1) 72 (pV i q)) := hp0
  clear hrun hW0 hL0 hT0 hq0 hp0 h
  have hk1 : (i : Int) + 1 < ((i + 1 + nm.length : Nat) : Int) := by omega
  have hk2 : ((i + 1 + nm.length : Nat) : Int) ≤ (s.size : Int) := by omega
  have HNM : Hid (s.extract (i + 1) (i + 1 + nm.length) = ⟨nm.toArray⟩) := hnm
  clear hnm
  go_enter Tryd.func38, Tryd.ntmps38
  go_upto_region 3 with fail
  rw [HW0.out]
  clear HW0 l1
  have l0 : W0.cell? ⟨b, 0, none⟩ = some (.string s) := HTL.out.1.cell 0
  have l1 : W0.cell? ⟨b, 1, none⟩ = some (.int .i64 (i : Nat)) := HTL.out.1.cell 1
  have lf := HTL.out.1.frozen 1
  have p0 : W0.cell? ⟨W.heap.size + 1, 0, none⟩ = some (.int .i64 3) := HP0.out.cell 0
  have p1 : W0.cell? ⟨W.heap.size + 1, 1, none⟩ = some (.int .i64 (i : Nat)) := HP0.out.cell 1
  have p2 : W0.cell? ⟨W.heap.size + 1, 2, none⟩ = some (.int .i64 0) := HP0.out.cell 2
  have p3 : W0.cell? ⟨W.heap.size + 1, 3, none⟩ = some (.bool q) := HP0.out.cell 3
  have p4 : W0.cell? ⟨W.heap.size + 1, 4, none⟩ = some (.string ⟨#[]⟩) := HP0.out.cell 4
  have pf0 := HP0.out.frozen 0
  have pf2 := HP0.out.frozen 2
  have pf4 := HP0.out.frozen 4
  have z0 : W0.cell? ⟨W.heap.size, 0, none⟩ = some (.int .i64 0) := HQ0.out.cell 0
  have z1 : W0.cell? ⟨W.heap.size, 1, none⟩ = some (.int .i64 0) := HQ0.out.cell 1
  have z2 : W0.cell? ⟨W.heap.size, 2, none⟩ = some (.int .i64 0) := HQ0.out.cell 2
  have z3 : W0.cell? ⟨W.heap.size, 3, none⟩ = some (.bool false) := HQ0.out.cell 3
  have z4 : W0.cell? ⟨W.heap.size, 4, none⟩ = some (.string ⟨#[]⟩) := HQ0.out.cell 4
  have zf0 := HQ0.out.frozen 0
  have zf1 := HQ0.out.frozen 1
  have zf2 := HQ0.out.frozen 2
  have zf3 := HQ0.out.frozen 3
  have zf4 := HQ0.out.frozen 4
  have n1 : ¬ W.heap.size = b := by omega
  have n2 : ¬ b = W.heap.size := by omega
  have n3 : ¬ W.heap.size + 1 = b := by omega
  have n4 : ¬ b = W.heap.size + 1 := by omega
  have n5 : ¬ W.heap.size = W.heap.size + 1 := by omega
  have n6 : ¬ W.heap.size + 1 = W.heap.size := by omega
  go_wp2_with fail
  refine Calls.mono (HRUN.out _) ?_
  rintro e w1 ⟨rfl, hw⟩
  obtain rfl := hw.symm
  clear hw HRUN
  go_wp2_with fail
  refine bodyPost_ret (results_partR (p := 4) (u := 5) rfl _ _ W.heap.size _ rfl (Cel.put5 (((HQ0.out.other (by omega) _).other (by omega) _)) _ _ _ _ _) rfl) rfl ?_
  exact ⟨by rw [HNM.out]; rfl, (((HTL.out).other hlb (by omega) _ _).move (j' := i + 1 + nm.length) (by omega)).put5 hlb (Nat.le_refl _) _ _ _ _ _⟩
set_option maxRecDepth 100000 in
set_option maxHeartbeats 4000000 in
theorem dolR_long {W : World} {b : Nat} {s : ByteArray} {i : Nat} {av : Value} (h : Lx W b s i 0 av) (q : Bool) (hs : s.size < 1099511627776) (nm : List UInt8) (hrun : ∀ w, Calls Tryd.prog 47 #[.string s, .int .i64 ((i : Int) + 1)] w fun e w' => e = .returned (.int .i64 ((i + 1 + nm.length : Nat) : Int)) ∧ w' = w) (h2 : 20 < nm.length) (hk : i + 1 + nm.length ≤ s.size) (hnm : s.extract (i + 1) (i + 1 + nm.length) = ⟨nm.toArray⟩) :
    Calls Tryd.prog 38 #[.pointer (some ⟨b, 0, none⟩), .bool q] W fun e w' => e = .returned (.tuple #[.agg zC, .bool false]) ∧ Flt W b s ⟨0, i⟩ w' := by
  have hlb := h.lt
  obtain ⟨W0, hW0, hL0, hT0, hz0, hq0, hp0⟩ := boxesR h q
  have HRUN : Hid _ := hrun
  have l1 : W.cell? ⟨b, 1, none⟩ = some (.int .i64 (i : Nat)) := h.cell 1
  have HW0 : Hid ((W.alloc (.cells zC 72)).alloc (.cells (pV i q) 72) = W0) := hW0.symm
  have HTL : Hid (TL W b s i av W0) := ⟨hL0, hT0⟩
  have HQ0 : Hid (Cel W0 W.heap.size 72 zC) := hq0
  have HP0 : Hid (Cel W0 (W.heap.size + 1) 72 (pV i q)) := hp0
  clear hrun hW0 hL0 hT0 hq0 hp0 h
  have hk1 : (i : Int) + 1 < ((i + 1 + nm.length : Nat) : Int) := by omega
  have hk2 : ((i + 1 + nm.length : Nat) : Int) ≤ (s.size : Int) := by omega
  have HNM : Hid (s.extract (i + 1) (i + 1 + nm.length) = ⟨nm.toArray⟩) := hnm
  clear hnm
  go_enter Tryd.func38, Tryd.ntmps38
  go_upto_region 3 with fail
  rw [HW0.out]
  clear HW0 l1
  have l0 : W0.cell? ⟨b, 0, none⟩ = some (.string s) := HTL.out.1.cell 0
  have l1 : W0.cell? ⟨b, 1, none⟩ = some (.int .i64 (i : Nat)) := HTL.out.1.cell 1
  have lf := HTL.out.1.frozen 1
  have p0 : W0.cell? ⟨W.heap.size + 1, 0, none⟩ = some (.int .i64 3) := HP0.out.cell 0
  have p1 : W0.cell? ⟨W.heap.size + 1, 1, none⟩ = some (.int .i64 (i : Nat)) := HP0.out.cell 1
  have p2 : W0.cell? ⟨W.heap.size + 1, 2, none⟩ = some (.int .i64 0) := HP0.out.cell 2
  have p3 : W0.cell? ⟨W.heap.size + 1, 3, none⟩ = some (.bool q) := HP0.out.cell 3
  have p4 : W0.cell? ⟨W.heap.size + 1, 4, none⟩ = some (.string ⟨#[]⟩) := HP0.out.cell 4
  have pf0 := HP0.out.frozen 0
  have pf2 := HP0.out.frozen 2
  have pf4 := HP0.out.frozen 4
  have z0 : W0.cell? ⟨W.heap.size, 0, none⟩ = some (.int .i64 0) := HQ0.out.cell 0
  have z1 : W0.cell? ⟨W.heap.size, 1, none⟩ = some (.int .i64 0) := HQ0.out.cell 1
  have z2 : W0.cell? ⟨W.heap.size, 2, none⟩ = some (.int .i64 0) := HQ0.out.cell 2
  have z3 : W0.cell? ⟨W.heap.size, 3, none⟩ = some (.bool false) := HQ0.out.cell 3
  have z4 : W0.cell? ⟨W.heap.size, 4, none⟩ = some (.string ⟨#[]⟩) := HQ0.out.cell 4
  have zf0 := HQ0.out.frozen 0
  have zf1 := HQ0.out.frozen 1
  have zf2 := HQ0.out.frozen 2
  have zf3 := HQ0.out.frozen 3
  have zf4 := HQ0.out.frozen 4
  have n1 : ¬ W.heap.size = b := by omega
  have n2 : ¬ b = W.heap.size := by omega
  have n3 : ¬ W.heap.size + 1 = b := by omega
  have n4 : ¬ b = W.heap.size + 1 := by omega
  have n5 : ¬ W.heap.size = W.heap.size + 1 := by omega
  have n6 : ¬ W.heap.size + 1 = W.heap.size := by omega
  go_wp2_with fail
  refine Calls.mono (HRUN.out _) ?_
  rintro e w1 ⟨rfl, hw⟩
  obtain rfl := hw.symm
  clear hw HRUN
  go_wp2_with fail
  obtain ⟨X, hX⟩ : ∃ X, X = W0.setCell ⟨W.heap.size + 1, 4, none⟩ (.string (s.extract (i + 1) (i + 1 + nm.length))) := ⟨_, rfl⟩
  rw [← hX]
  have hTX : TL W b s i av X := by rw [hX]; exact (HTL.out).other hlb (by omega) _ _
  have hQX : Cel X W.heap.size 72 zC := by rw [hX]; exact (HQ0.out.other (by omega) _)
  have HFA : Hid _ := fail_any hTX.1 ⟨0, i⟩
  have HTX : Hid (TL W b s i av X) := hTX
  have HQX : Hid (Cel X W.heap.size 72 zC) := hQX
  clear hX hTX hQX HTL HQ0 HP0 l0 l1 lf p0 p1 p2 p3 p4 pf0 pf2 pf4 z0 z1 z2 z3 z4 zf0 zf1 zf2 zf3 zf4
  refine Calls.mono HFA.out ?_
  rintro e w2 ⟨rfl, hF⟩
  have HFL : Hid (Flt X b s ⟨0, i⟩ w2) := hF
  have HQ2 : Hid (Cel w2 W.heap.size 72 zC) := HQX.out.turn hF.turn (fun e => by omega)
  clear hF HFA
  have z0 : w2.cell? ⟨W.heap.size, 0, none⟩ = some (.int .i64 0) := HQ2.out.cell 0
  have z1 : w2.cell? ⟨W.heap.size, 1, none⟩ = some (.int .i64 0) := HQ2.out.cell 1
  have z2 : w2.cell? ⟨W.heap.size, 2, none⟩ = some (.int .i64 0) := HQ2.out.cell 2
  have z3 : w2.cell? ⟨W.heap.size, 3, none⟩ = some (.bool false) := HQ2.out.cell 3
  have z4 : w2.cell? ⟨W.heap.size, 4, none⟩ = some (.string ⟨#[]⟩) := HQ2.out.cell 4
  have zf0 := HQ2.out.frozen 0
  have zf1 := HQ2.out.frozen 1
  have zf2 := HQ2.out.frozen 2
  have zf3 := HQ2.out.frozen 3
  have zf4 := HQ2.out.frozen 4
  go_wp2_with fail
  refine bodyPost_ret (results_partR (p := 4) (u := 5) rfl _ _ W.heap.size _ rfl (Cel.put5 HQ2.out _ _ _ _ _) rfl) rfl ?_
  exact ⟨rfl, (HFL.out.lift HTX.out.2).put5 hlb HQX.out.lt (by omega) HFL.out HQX.out⟩
end Go.Proofs.YtlbdecohmjpgaaaDoor
namespace Go.Proofs.YtlbdecohmjpgaaaDoor
open Go.RowKit
attribute [local go_sem] Oper.semAt_some

set_option maxRecDepth 100000 in
set_option maxHeartbeats 4000000 in
theorem dolR_sub {W : World} {b : Nat} {s : ByteArray} {i : Nat} {av : Value} (h : Lx W b s i 0 av) (q : Bool) (hs : s.size < 1099511627776) (hrun : ∀ w, Calls Tryd.prog 47 #[.string s, .int .i64 ((i : Int) + 1)] w fun e w' => e = .returned (.int .i64 ((i : Int) + 1)) ∧ w' = w) (hi : i + 1 < s.size) (hc : s[i + 1] = 40) (k : Nat) (hcl : ∀ w : World, w.cell? ⟨b, 0, none⟩ = some (.string s) → Calls Tryd.prog 48 #[.pointer (some ⟨b, 0, none⟩), .int .i64 ((i : Int) + 2)] w fun e w' => e = .returned (.int .i64 ((k : Nat))) ∧ w' = w) (hk1 : i + 2 ≤ k) (hk2 : k < s.size) (nm : List UInt8) (hnm : s.extract (i + 2) k = ⟨nm.toArray⟩) :
    Calls Tryd.prog 38 #[.pointer (some ⟨b, 0, none⟩), .bool q] W fun e w' => e = .returned (.tuple #[.agg (ptC ⟨4, i, 0, q, nm⟩).toArray, .bool true]) ∧ TL W b s (k + 1) av w' := by
  have hlb := h.lt
  obtain ⟨W0, hW0, hL0, hT0, hz0, hq0, hp0⟩ := boxesR h q
  have HRUN : Hid _ := hrun
  have l1 : W.cell? ⟨b, 1, none⟩ = some (.int .i64 (i : Nat)) := h.cell 1
  have HW0 : Hid ((W.alloc (.cells zC 72)).alloc (.cells (pV i q) 72) = W0) := hW0.symm
  have HTL : Hid (TL W b s i av W0) := ⟨hL0, hT0⟩
  have HQ0 : Hid (Cel W0 W.heap.size 72 zC) := hq0
  have HP0 : Hid (Cel W0 (W.heap.size + 1) 72 (pV i q)) := hp0
  clear hrun hW0 hL0 hT0 hq0 hp0 h
  have hi1 : ¬ (s.size : Int) ≤ (i : Int) + 1 := by omega
  have hi2 : (i : Int) + 1 < (s.size : Int) := by omega
  have q0 : (((s[i + 1]).toNat : Int) == 123) = false := by rw [hc]; rfl
  have q1 : (((s[i + 1]).toNat : Int) == 42) = false := by rw [hc]; rfl
  have q8 : decide (49 ≤ ((s[i + 1]).toNat : Int)) = false := by rw [hc]; rfl
  have q3 : (((s[i + 1]).toNat : Int) == 35) = false := by rw [hc]; rfl
  have q4 : (((s[i + 1]).toNat : Int) == 40) = true := by rw [hc]; rfl
  clear hc
  have HCL : Hid _ := hcl
  clear hcl
  have hkn : ¬ (k : Int) < 0 := by omega
  have hk3 : (k : Int) < (s.size : Int) := by omega
  have hk4 : (i : Int) + 2 ≤ (k : Int) := by omega
  have HNM : Hid (s.extract (i + 2) k = ⟨nm.toArray⟩) := hnm
  clear hnm
  go_enter Tryd.func38, Tryd.ntmps38
  go_upto_region 3 with fail
  rw [HW0.out]
  clear HW0 l1
  have l0 : W0.cell? ⟨b, 0, none⟩ = some (.string s) := HTL.out.1.cell 0
  have l1 : W0.cell? ⟨b, 1, none⟩ = some (.int .i64 (i : Nat)) := HTL.out.1.cell 1
  have lf := HTL.out.1.frozen 1
  have p0 : W0.cell? ⟨W.heap.size + 1, 0, none⟩ = some (.int .i64 3) := HP0.out.cell 0
  have p1 : W0.cell? ⟨W.heap.size + 1, 1, none⟩ = some (.int .i64 (i : Nat)) := HP0.out.cell 1
  have p2 : W0.cell? ⟨W.heap.size + 1, 2, none⟩ = some (.int .i64 0) := HP0.out.cell 2
  have p3 : W0.cell? ⟨W.heap.size + 1, 3, none⟩ = some (.bool q) := HP0.out.cell 3
  have p4 : W0.cell? ⟨W.heap.size + 1, 4, none⟩ = some (.string ⟨#[]⟩) := HP0.out.cell 4
  have pf0 := HP0.out.frozen 0
  have pf2 := HP0.out.frozen 2
  have pf4 := HP0.out.frozen 4
  have z0 : W0.cell? ⟨W.heap.size, 0, none⟩ = some (.int .i64 0) := HQ0.out.cell 0
  have z1 : W0.cell? ⟨W.heap.size, 1, none⟩ = some (.int .i64 0) := HQ0.out.cell 1
  have z2 : W0.cell? ⟨W.heap.size, 2, none⟩ = some (.int .i64 0) := HQ0.out.cell 2
  have z3 : W0.cell? ⟨W.heap.size, 3, none⟩ = some (.bool false) := HQ0.out.cell 3
  have z4 : W0.cell? ⟨W.heap.size, 4, none⟩ = some (.string ⟨#[]⟩) := HQ0.out.cell 4
  have zf0 := HQ0.out.frozen 0
  have zf1 := HQ0.out.frozen 1
  have zf2 := HQ0.out.frozen 2
  have zf3 := HQ0.out.frozen 3
  have zf4 := HQ0.out.frozen 4
  have n1 : ¬ W.heap.size = b := by omega
  have n2 : ¬ b = W.heap.size := by omega
  have n3 : ¬ W.heap.size + 1 = b := by omega
  have n4 : ¬ b = W.heap.size + 1 := by omega
  have n5 : ¬ W.heap.size = W.heap.size + 1 := by omega
  have n6 : ¬ W.heap.size + 1 = W.heap.size := by omega
  go_wp2_with fail
  refine Calls.mono (HRUN.out _) ?_
  rintro e w1 ⟨rfl, hw⟩
  obtain rfl := hw.symm
  clear hw HRUN
  go_wp2_with fail
  refine Calls.mono (HCL.out _ l0) ?_
  rintro e w1 ⟨rfl, hw⟩
  obtain rfl := hw.symm
  clear hw HCL
  go_wp2_with fail
  refine bodyPost_ret (results_partR (p := 4) (u := 5) rfl _ _ W.heap.size _ rfl (Cel.put5 (((((HQ0.out.other (by omega) _).other (by omega) _)).other (by omega) _)) _ _ _ _ _) rfl) rfl ?_
  exact ⟨by rw [HNM.out]; rfl, ((((HTL.out).other hlb (by omega) _ _).other hlb (by omega) _ _).move (j' := k + 1) (by omega)).put5 hlb (Nat.le_refl _) _ _ _ _ _⟩
set_option maxRecDepth 100000 in
set_option maxHeartbeats 4000000 in
theorem dolR_open {W : World} {b : Nat} {s : ByteArray} {i : Nat} {av : Value} (h : Lx W b s i 0 av) (q : Bool) (hs : s.size < 1099511627776) (hrun : ∀ w, Calls Tryd.prog 47 #[.string s, .int .i64 ((i : Int) + 1)] w fun e w' => e = .returned (.int .i64 ((i : Int) + 1)) ∧ w' = w) (hi : i + 1 < s.size) (hc : s[i + 1] = 40) (hcl : ∀ w : World, w.cell? ⟨b, 0, none⟩ = some (.string s) → Calls Tryd.prog 48 #[.pointer (some ⟨b, 0, none⟩), .int .i64 ((i : Int) + 2)] w fun e w' => e = .returned (.int .i64 (-1)) ∧ w' = w) :
    Calls Tryd.prog 38 #[.pointer (some ⟨b, 0, none⟩), .bool q] W fun e w' => e = .returned (.tuple #[.agg zC, .bool false]) ∧ Flt W b s ⟨1, i⟩ w' := by
  have hlb := h.lt
  obtain ⟨W0, hW0, hL0, hT0, hz0, hq0, hp0⟩ := boxesR h q
  have HRUN : Hid _ := hrun
  have l1 : W.cell? ⟨b, 1, none⟩ = some (.int .i64 (i : Nat)) := h.cell 1
  have HW0 : Hid ((W.alloc (.cells zC 72)).alloc (.cells (pV i q) 72) = W0) := hW0.symm
  have HTL : Hid (TL W b s i av W0) := ⟨hL0, hT0⟩
  have HQ0 : Hid (Cel W0 W.heap.size 72 zC) := hq0
  have HP0 : Hid (Cel W0 (W.heap.size + 1) 72 (pV i q)) := hp0
  clear hrun hW0 hL0 hT0 hq0 hp0 h
  have hi1 : ¬ (s.size : Int) ≤ (i : Int) + 1 := by omega
  have hi2 : (i : Int) + 1 < (s.size : Int) := by omega
  have q0 : (((s[i + 1]).toNat : Int) == 123) = false := by rw [hc]; rfl
  have q1 : (((s[i + 1]).toNat : Int) == 42) = false := by rw [hc]; rfl
  have q8 : decide (49 ≤ ((s[i + 1]).toNat : Int)) = false := by rw [hc]; rfl
  have q3 : (((s[i + 1]).toNat : Int) == 35) = false := by rw [hc]; rfl
  have q4 : (((s[i + 1]).toNat : Int) == 40) = true := by rw [hc]; rfl
  clear hc
  have HCL : Hid _ := hcl
  clear hcl
  go_enter Tryd.func38, Tryd.ntmps38
  go_upto_region 3 with fail
  rw [HW0.out]
  clear HW0 l1
  have l0 : W0.cell? ⟨b, 0, none⟩ = some (.string s) := HTL.out.1.cell 0
  have l1 : W0.cell? ⟨b, 1, none⟩ = some (.int .i64 (i : Nat)) := HTL.out.1.cell 1
  have lf := HTL.out.1.frozen 1
  have p0 : W0.cell? ⟨W.heap.size + 1, 0, none⟩ = some (.int .i64 3) := HP0.out.cell 0
  have p1 : W0.cell? ⟨W.heap.size + 1, 1, none⟩ = some (.int .i64 (i : Nat)) := HP0.out.cell 1
  have p2 : W0.cell? ⟨W.heap.size + 1, 2, none⟩ = some (.int .i64 0) := HP0.out.cell 2
  have p3 : W0.cell? ⟨W.heap.size + 1, 3, none⟩ = some (.bool q) := HP0.out.cell 3
  have p4 : W0.cell? ⟨W.heap.size + 1, 4, none⟩ = some (.string ⟨#[]⟩) := HP0.out.cell 4
  have pf0 := HP0.out.frozen 0
  have pf2 := HP0.out.frozen 2
  have pf4 := HP0.out.frozen 4
  have z0 : W0.cell? ⟨W.heap.size, 0, none⟩ = some (.int .i64 0) := HQ0.out.cell 0
  have z1 : W0.cell? ⟨W.heap.size, 1, none⟩ = some (.int .i64 0) := HQ0.out.cell 1
  have z2 : W0.cell? ⟨W.heap.size, 2, none⟩ = some (.int .i64 0) := HQ0.out.cell 2
  have z3 : W0.cell? ⟨W.heap.size, 3, none⟩ = some (.bool false) := HQ0.out.cell 3
  have z4 : W0.cell? ⟨W.heap.size, 4, none⟩ = some (.string ⟨#[]⟩) := HQ0.out.cell 4
  have zf0 := HQ0.out.frozen 0
  have zf1 := HQ0.out.frozen 1
  have zf2 := HQ0.out.frozen 2
  have zf3 := HQ0.out.frozen 3
  have zf4 := HQ0.out.frozen 4
  have n1 : ¬ W.heap.size = b := by omega
  have n2 : ¬ b = W.heap.size := by omega
  have n3 : ¬ W.heap.size + 1 = b := by omega
  have n4 : ¬ b = W.heap.size + 1 := by omega
  have n5 : ¬ W.heap.size = W.heap.size + 1 := by omega
  have n6 : ¬ W.heap.size + 1 = W.heap.size := by omega
  go_wp2_with fail
  refine Calls.mono (HRUN.out _) ?_
  rintro e w1 ⟨rfl, hw⟩
  obtain rfl := hw.symm
  clear hw HRUN
  go_wp2_with fail
  refine Calls.mono (HCL.out _ l0) ?_
  rintro e w1 ⟨rfl, hw⟩
  obtain rfl := hw.symm
  clear hw HCL
  go_wp2_with fail
  obtain ⟨X, hX⟩ : ∃ X, X = W0 := ⟨_, rfl⟩
  rw [← hX]
  have hTX : TL W b s i av X := by rw [hX]; exact HTL.out
  have hQX : Cel X W.heap.size 72 zC := by rw [hX]; exact HQ0.out
  have HFA : Hid _ := fail_any hTX.1 ⟨1, i⟩
  have HTX : Hid (TL W b s i av X) := hTX
  have HQX : Hid (Cel X W.heap.size 72 zC) := hQX
  clear hX hTX hQX HTL HQ0 HP0 l0 l1 lf p0 p1 p2 p3 p4 pf0 pf2 pf4 z0 z1 z2 z3 z4 zf0 zf1 zf2 zf3 zf4
  refine Calls.mono HFA.out ?_
  rintro e w2 ⟨rfl, hF⟩
  have HFL : Hid (Flt X b s ⟨1, i⟩ w2) := hF
  have HQ2 : Hid (Cel w2 W.heap.size 72 zC) := HQX.out.turn hF.turn (fun e => by omega)
  clear hF HFA
  have z0 : w2.cell? ⟨W.heap.size, 0, none⟩ = some (.int .i64 0) := HQ2.out.cell 0
  have z1 : w2.cell? ⟨W.heap.size, 1, none⟩ = some (.int .i64 0) := HQ2.out.cell 1
  have z2 : w2.cell? ⟨W.heap.size, 2, none⟩ = some (.int .i64 0) := HQ2.out.cell 2
  have z3 : w2.cell? ⟨W.heap.size, 3, none⟩ = some (.bool false) := HQ2.out.cell 3
  have z4 : w2.cell? ⟨W.heap.size, 4, none⟩ = some (.string ⟨#[]⟩) := HQ2.out.cell 4
  have zf0 := HQ2.out.frozen 0
  have zf1 := HQ2.out.frozen 1
  have zf2 := HQ2.out.frozen 2
  have zf3 := HQ2.out.frozen 3
  have zf4 := HQ2.out.frozen 4
  go_wp2_with fail
  refine bodyPost_ret (results_partR (p := 4) (u := 5) rfl _ _ W.heap.size _ rfl (Cel.put5 HQ2.out _ _ _ _ _) rfl) rfl ?_
  exact ⟨rfl, (HFL.out.lift HTX.out.2).put5 hlb HQX.out.lt (by omega) HFL.out HQX.out⟩
set_option maxRecDepth 100000 in
set_option maxHeartbeats 4000000 in
theorem dolR_brace {W : World} {b : Nat} {s : ByteArray} {i : Nat} {av : Value} (h : Lx W b s i 0 av) (q : Bool) (hs : s.size < 1099511627776) (hrun : ∀ w, Calls Tryd.prog 47 #[.string s, .int .i64 ((i : Int) + 1)] w fun e w' => e = .returned (.int .i64 ((i : Int) + 1)) ∧ w' = w) (hi : i + 1 < s.size) (hc : s[i + 1] = 123) (K : Nat) (hK1 : i + 2 ≤ K) (hK2 : K ≤ s.size) (hA : ∀ k (hk : k < s.size), i + 2 ≤ k → k < K → s[k] ≠ 125) (hKs : K < s.size) (hB : s[K] = 125) (hna : ∀ w, Calls Tryd.prog 17 #[.string (s.extract (i + 2) K)] w fun e w' => e = .returned (.bool true) ∧ w' = w) (nm : List UInt8) (hnm : s.extract (i + 2) K = ⟨nm.toArray⟩) :
    Calls Tryd.prog 38 #[.pointer (some ⟨b, 0, none⟩), .bool q] W fun e w' => e = .returned (.tuple #[.agg (ptC ⟨3, i, 0, q, nm⟩).toArray, .bool true]) ∧ TL W b s (K + 1) av w' := by
  have hlb := h.lt
  obtain ⟨W0, hW0, hL0, hT0, hz0, hq0, hp0⟩ := boxesR h q
  have HRUN : Hid _ := hrun
  have l1 : W.cell? ⟨b, 1, none⟩ = some (.int .i64 (i : Nat)) := h.cell 1
  have HW0 : Hid ((W.alloc (.cells zC 72)).alloc (.cells (pV i q) 72) = W0) := hW0.symm
  have HTL : Hid (TL W b s i av W0) := ⟨hL0, hT0⟩
  have HQ0 : Hid (Cel W0 W.heap.size 72 zC) := hq0
  have HP0 : Hid (Cel W0 (W.heap.size + 1) 72 (pV i q)) := hp0
  clear hrun hW0 hL0 hT0 hq0 hp0 h
  have hi1 : ¬ (s.size : Int) ≤ (i : Int) + 1 := by omega
  have hi2 : (i : Int) + 1 < (s.size : Int) := by omega
  have q0 : (((s[i + 1]).toNat : Int) == 123) = true := by rw [hc]; rfl
  clear hc
  have HA : Hid _ := hA
  clear hA
  have qK : (((s[K]).toNat : Int) == 125) = true := by rw [hB]; rfl
  have hK3 : (K : Int) < (s.size : Int) := by omega
  have hK5 : ¬ (s.size : Int) ≤ (K : Int) := by omega
  have hK4 : (i : Int) + 2 ≤ (K : Int) := by omega
  have HNA : Hid _ := hna
  clear hna hB
  have HNM : Hid (s.extract (i + 2) K = ⟨nm.toArray⟩) := hnm
  clear hnm
  go_enter Tryd.func38, Tryd.ntmps38
  go_upto_region 3 with fail
  rw [HW0.out]
  clear HW0 l1
  have l0 : W0.cell? ⟨b, 0, none⟩ = some (.string s) := HTL.out.1.cell 0
  have l1 : W0.cell? ⟨b, 1, none⟩ = some (.int .i64 (i : Nat)) := HTL.out.1.cell 1
  have lf := HTL.out.1.frozen 1
  have p0 : W0.cell? ⟨W.heap.size + 1, 0, none⟩ = some (.int .i64 3) := HP0.out.cell 0
  have p1 : W0.cell? ⟨W.heap.size + 1, 1, none⟩ = some (.int .i64 (i : Nat)) := HP0.out.cell 1
  have p2 : W0.cell? ⟨W.heap.size + 1, 2, none⟩ = some (.int .i64 0) := HP0.out.cell 2
  have p3 : W0.cell? ⟨W.heap.size + 1, 3, none⟩ = some (.bool q) := HP0.out.cell 3
  have p4 : W0.cell? ⟨W.heap.size + 1, 4, none⟩ = some (.string ⟨#[]⟩) := HP0.out.cell 4
  have pf0 := HP0.out.frozen 0
  have pf2 := HP0.out.frozen 2
  have pf4 := HP0.out.frozen 4
  have z0 : W0.cell? ⟨W.heap.size, 0, none⟩ = some (.int .i64 0) := HQ0.out.cell 0
  have z1 : W0.cell? ⟨W.heap.size, 1, none⟩ = some (.int .i64 0) := HQ0.out.cell 1
  have z2 : W0.cell? ⟨W.heap.size, 2, none⟩ = some (.int .i64 0) := HQ0.out.cell 2
  have z3 : W0.cell? ⟨W.heap.size, 3, none⟩ = some (.bool false) := HQ0.out.cell 3
  have z4 : W0.cell? ⟨W.heap.size, 4, none⟩ = some (.string ⟨#[]⟩) := HQ0.out.cell 4
  have zf0 := HQ0.out.frozen 0
  have zf1 := HQ0.out.frozen 1
  have zf2 := HQ0.out.frozen 2
  have zf3 := HQ0.out.frozen 3
  have zf4 := HQ0.out.frozen 4
  have n1 : ¬ W.heap.size = b := by omega
  have n2 : ¬ b = W.heap.size := by omega
  have n3 : ¬ W.heap.size + 1 = b := by omega
  have n4 : ¬ b = W.heap.size + 1 := by omega
  have n5 : ¬ W.heap.size = W.heap.size + 1 := by omega
  have n6 : ¬ W.heap.size + 1 = W.heap.size := by omega
  go_wp2_with fail
  refine Calls.mono (HRUN.out _) ?_
  rintro e w1 ⟨rfl, hw⟩
  obtain rfl := hw.symm
  clear hw HRUN
  go_wp2_with fail
  go_loop [8] (fun v8 => ∃ k : Nat, v8 = .int .i64 k ∧ i + 2 ≤ k ∧ k ≤ K) (fun v8 => K - (intOf v8).toNat)
  case atStart => exact ⟨i + 2, by simp, Nat.le_refl _, hK1⟩
  case round =>
    obtain ⟨k, rfl, hk1, hk2⟩ := hrel
    by_cases hlt : k < K
    · have hlt1 : (k : Int) < (s.size : Int) := by omega
      have hlt2 : k < s.size := by omega
      have qk : (((s[k]).toNat : Int) == 125) = false := byte_ne s[k] 125 (HA.out k hlt2 hk1 hlt)
      go_wp2_with fail
      exact ⟨⟨k + 1, by simp, by omega, by omega⟩, by simp [intOf]; omega⟩
    · obtain rfl : k = K := by omega
      clear hlt HA
      go_wp2_with fail
      refine Calls.mono (HNA.out _) ?_
      rintro e w1 ⟨rfl, hw⟩
      obtain rfl := hw.symm
      clear hw HNA
      go_wp2_with fail
      refine bodyPost_ret (results_partR (p := 4) (u := 5) rfl _ _ W.heap.size _ rfl (Cel.put5 (((HQ0.out.other (by omega) _).other (by omega) _)) _ _ _ _ _) rfl) rfl ?_
      exact ⟨by rw [HNM.out]; rfl, (((HTL.out).other hlb (by omega) _ _).move (j' := k + 1) (by omega)).put5 hlb (Nat.le_refl _) _ _ _ _ _⟩
set_option maxRecDepth 100000 in
set_option maxHeartbeats 4000000 in
theorem dolR_nobrace {W : World} {b : Nat} {s : ByteArray} {i : Nat} {av : Value} (h : Lx W b s i 0 av) (q : Bool) (hs : s.size < 1099511627776) (hrun : ∀ w, Calls Tryd.prog 47 #[.string s, .int .i64 ((i : Int) + 1)] w fun e w' => e = .returned (.int .i64 ((i : Int) + 1)) ∧ w' = w) (hi : i + 1 < s.size) (hc : s[i + 1] = 123) (K : Nat) (hK1 : i + 2 ≤ K) (hK2 : K ≤ s.size) (hA : ∀ k (hk : k < s.size), i + 2 ≤ k → k < K → s[k] ≠ 125) (hKs : K < s.size) (hB : s[K] = 125) (hna : ∀ w, Calls Tryd.prog 17 #[.string (s.extract (i + 2) K)] w fun e w' => e = .returned (.bool false) ∧ w' = w) :
    Calls Tryd.prog 38 #[.pointer (some ⟨b, 0, none⟩), .bool q] W fun e w' => e = .returned (.tuple #[.agg zC, .bool false]) ∧ Flt W b s ⟨0, i⟩ w' := by
  have hlb := h.lt
  obtain ⟨W0, hW0, hL0, hT0, hz0, hq0, hp0⟩ := boxesR h q
  have HRUN : Hid _ := hrun
  have l1 : W.cell? ⟨b, 1, none⟩ = some (.int .i64 (i : Nat)) := h.cell 1
  have HW0 : Hid ((W.alloc (.cells zC 72)).alloc (.cells (pV i q) 72) = W0) := hW0.symm
  have HTL : Hid (TL W b s i av W0) := ⟨hL0, hT0⟩
  have HQ0 : Hid (Cel W0 W.heap.size 72 zC) := hq0
  have HP0 : Hid (Cel W0 (W.heap.size + 1) 72 (pV i q)) := hp0
  clear hrun hW0 hL0 hT0 hq0 hp0 h
  have hi1 : ¬ (s.size : Int) ≤ (i : Int) + 1 := by omega
  have hi2 : (i : Int) + 1 < (s.size : Int) := by omega
  have q0 : (((s[i + 1]).toNat : Int) == 123) = true := by rw [hc]; rfl
  clear hc
  have HA : Hid _ := hA
  clear hA
  have qK : (((s[K]).toNat : Int) == 125) = true := by rw [hB]; rfl
  have hK3 : (K : Int) < (s.size : Int) := by omega
  have hK5 : ¬ (s.size : Int) ≤ (K : Int) := by omega
  have hK4 : (i : Int) + 2 ≤ (K : Int) := by omega
  have HNA : Hid _ := hna
  clear hna hB
  go_enter Tryd.func38, Tryd.ntmps38
  go_upto_region 3 with fail
  rw [HW0.out]
  clear HW0 l1
  have l0 : W0.cell? ⟨b, 0, none⟩ = some (.string s) := HTL.out.1.cell 0
  have l1 : W0.cell? ⟨b, 1, none⟩ = some (.int .i64 (i : Nat)) := HTL.out.1.cell 1
  have lf := HTL.out.1.frozen 1
  have p0 : W0.cell? ⟨W.heap.size + 1, 0, none⟩ = some (.int .i64 3) := HP0.out.cell 0
  have p1 : W0.cell? ⟨W.heap.size + 1, 1, none⟩ = some (.int .i64 (i : Nat)) := HP0.out.cell 1
  have p2 : W0.cell? ⟨W.heap.size + 1, 2, none⟩ = some (.int .i64 0) := HP0.out.cell 2
  have p3 : W0.cell? ⟨W.heap.size + 1, 3, none⟩ = some (.bool q) := HP0.out.cell 3
  have p4 : W0.cell? ⟨W.heap.size + 1, 4, none⟩ = some (.string ⟨#[]⟩) := HP0.out.cell 4
  have pf0 := HP0.out.frozen 0
  have pf2 := HP0.out.frozen 2
  have pf4 := HP0.out.frozen 4
  have z0 : W0.cell? ⟨W.heap.size, 0, none⟩ = some (.int .i64 0) := HQ0.out.cell 0
  have z1 : W0.cell? ⟨W.heap.size, 1, none⟩ = some (.int .i64 0) := HQ0.out.cell 1
  have z2 : W0.cell? ⟨W.heap.size, 2, none⟩ = some (.int .i64 0) := HQ0.out.cell 2
  have z3 : W0.cell? ⟨W.heap.size, 3, none⟩ = some (.bool false) := HQ0.out.cell 3
  have z4 : W0.cell? ⟨W.heap.size, 4, none⟩ = some (.string ⟨#[]⟩) := HQ0.out.cell 4
  have zf0 := HQ0.out.frozen 0
  have zf1 := HQ0.out.frozen 1
  have zf2 := HQ0.out.frozen 2
  have zf3 := HQ0.out.frozen 3
  have zf4 := HQ0.out.frozen 4
  have n1 : ¬ W.heap.size = b := by omega
  have n2 : ¬ b = W.heap.size := by omega
  have n3 : ¬ W.heap.size + 1 = b := by omega
  have n4 : ¬ b = W.heap.size + 1 := by omega
  have n5 : ¬ W.heap.size = W.heap.size + 1 := by omega
  have n6 : ¬ W.heap.size + 1 = W.heap.size := by omega
  go_wp2_with fail
  refine Calls.mono (HRUN.out _) ?_
  rintro e w1 ⟨rfl, hw⟩
  obtain rfl := hw.symm
  clear hw HRUN
  go_wp2_with fail
  go_loop [8] (fun v8 => ∃ k : Nat, v8 = .int .i64 k ∧ i + 2 ≤ k ∧ k ≤ K) (fun v8 => K - (intOf v8).toNat)
  case atStart => exact ⟨i + 2, by simp, Nat.le_refl _, hK1⟩
  case round =>
    obtain ⟨k, rfl, hk1, hk2⟩ := hrel
    by_cases hlt : k < K
    · have hlt1 : (k : Int) < (s.size : Int) := by omega
      have hlt2 : k < s.size := by omega
      have qk : (((s[k]).toNat : Int) == 125) = false := byte_ne s[k] 125 (HA.out k hlt2 hk1 hlt)
      go_wp2_with fail
      exact ⟨⟨k + 1, by simp, by omega, by omega⟩, by simp [intOf]; omega⟩
    · obtain rfl : k = K := by omega
      clear hlt HA
      go_wp2_with fail
      refine Calls.mono (HNA.out _) ?_
      rintro e w1 ⟨rfl, hw⟩
      obtain rfl := hw.symm
      clear hw HNA
      go_wp2_with fail
      obtain ⟨X, hX⟩ : ∃ X, X = W0 := ⟨_, rfl⟩
      rw [← hX]
      have hTX : TL W b s i av X := by rw [hX]; exact HTL.out
      have hQX : Cel X W.heap.size 72 zC := by rw [hX]; exact HQ0.out
      have HFA : Hid _ := fail_any hTX.1 ⟨0, i⟩
      have HTX : Hid (TL W b s i av X) := hTX
      have HQX : Hid (Cel X W.heap.size 72 zC) := hQX
      clear hX hTX hQX HTL HQ0 HP0 l0 l1 lf p0 p1 p2 p3 p4 pf0 pf2 pf4 z0 z1 z2 z3 z4 zf0 zf1 zf2 zf3 zf4
      refine Calls.mono HFA.out ?_
      rintro e w2 ⟨rfl, hF⟩
      have HFL : Hid (Flt X b s ⟨0, i⟩ w2) := hF
      have HQ2 : Hid (Cel w2 W.heap.size 72 zC) := HQX.out.turn hF.turn (fun e => by omega)
      clear hF HFA
      have z0 : w2.cell? ⟨W.heap.size, 0, none⟩ = some (.int .i64 0) := HQ2.out.cell 0
      have z1 : w2.cell? ⟨W.heap.size, 1, none⟩ = some (.int .i64 0) := HQ2.out.cell 1
      have z2 : w2.cell? ⟨W.heap.size, 2, none⟩ = some (.int .i64 0) := HQ2.out.cell 2
      have z3 : w2.cell? ⟨W.heap.size, 3, none⟩ = some (.bool false) := HQ2.out.cell 3
      have z4 : w2.cell? ⟨W.heap.size, 4, none⟩ = some (.string ⟨#[]⟩) := HQ2.out.cell 4
      have zf0 := HQ2.out.frozen 0
      have zf1 := HQ2.out.frozen 1
      have zf2 := HQ2.out.frozen 2
      have zf3 := HQ2.out.frozen 3
      have zf4 := HQ2.out.frozen 4
      go_wp2_with fail
      refine bodyPost_ret (results_partR (p := 4) (u := 5) rfl _ _ W.heap.size _ rfl (Cel.put5 HQ2.out _ _ _ _ _) rfl) rfl ?_
      exact ⟨rfl, (HFL.out.lift HTX.out.2).put5 hlb HQX.out.lt (by omega) HFL.out HQX.out⟩
set_option maxRecDepth 100000 in
set_option maxHeartbeats 4000000 in
theorem dolR_unbraced {W : World} {b : Nat} {s : ByteArray} {i : Nat} {av : Value} (h : Lx W b s i 0 av) (q : Bool) (hs : s.size < 1099511627776) (hrun : ∀ w, Calls Tryd.prog 47 #[.string s, .int .i64 ((i : Int) + 1)] w fun e w' => e = .returned (.int .i64 ((i : Int) + 1)) ∧ w' = w) (hi : i + 1 < s.size) (hc : s[i + 1] = 123) (K : Nat) (hK1 : i + 2 ≤ K) (hK2 : K ≤ s.size) (hA : ∀ k (hk : k < s.size), i + 2 ≤ k → k < K → s[k] ≠ 125) (hKs : K = s.size) :
    Calls Tryd.prog 38 #[.pointer (some ⟨b, 0, none⟩), .bool q] W fun e w' => e = .returned (.tuple #[.agg zC, .bool false]) ∧ Flt W b s ⟨0, i⟩ w' := by
  have hlb := h.lt
  obtain ⟨W0, hW0, hL0, hT0, hz0, hq0, hp0⟩ := boxesR h q
  have HRUN : Hid _ := hrun
  have l1 : W.cell? ⟨b, 1, none⟩ = some (.int .i64 (i : Nat)) := h.cell 1
  have HW0 : Hid ((W.alloc (.cells zC 72)).alloc (.cells (pV i q) 72) = W0) := hW0.symm
  have HTL : Hid (TL W b s i av W0) := ⟨hL0, hT0⟩
  have HQ0 : Hid (Cel W0 W.heap.size 72 zC) := hq0
  have HP0 : Hid (Cel W0 (W.heap.size + 1) 72 (pV i q)) := hp0
  clear hrun hW0 hL0 hT0 hq0 hp0 h
  have hi1 : ¬ (s.size : Int) ≤ (i : Int) + 1 := by omega
  have hi2 : (i : Int) + 1 < (s.size : Int) := by omega
  have q0 : (((s[i + 1]).toNat : Int) == 123) = true := by rw [hc]; rfl
  clear hc
  have HA : Hid _ := hA
  clear hA
  go_enter Tryd.func38, Tryd.ntmps38
  go_upto_region 3 with fail
  rw [HW0.out]
  clear HW0 l1
  have l0 : W0.cell? ⟨b, 0, none⟩ = some (.string s) := HTL.out.1.cell 0
  have l1 : W0.cell? ⟨b, 1, none⟩ = some (.int .i64 (i : Nat)) := HTL.out.1.cell 1
  have lf := HTL.out.1.frozen 1
  have p0 : W0.cell? ⟨W.heap.size + 1, 0, none⟩ = some (.int .i64 3) := HP0.out.cell 0
  have p1 : W0.cell? ⟨W.heap.size + 1, 1, none⟩ = some (.int .i64 (i : Nat)) := HP0.out.cell 1
  have p2 : W0.cell? ⟨W.heap.size + 1, 2, none⟩ = some (.int .i64 0) := HP0.out.cell 2
  have p3 : W0.cell? ⟨W.heap.size + 1, 3, none⟩ = some (.bool q) := HP0.out.cell 3
  have p4 : W0.cell? ⟨W.heap.size + 1, 4, none⟩ = some (.string ⟨#[]⟩) := HP0.out.cell 4
  have pf0 := HP0.out.frozen 0
  have pf2 := HP0.out.frozen 2
  have pf4 := HP0.out.frozen 4
  have z0 : W0.cell? ⟨W.heap.size, 0, none⟩ = some (.int .i64 0) := HQ0.out.cell 0
  have z1 : W0.cell? ⟨W.heap.size, 1, none⟩ = some (.int .i64 0) := HQ0.out.cell 1
  have z2 : W0.cell? ⟨W.heap.size, 2, none⟩ = some (.int .i64 0) := HQ0.out.cell 2
  have z3 : W0.cell? ⟨W.heap.size, 3, none⟩ = some (.bool false) := HQ0.out.cell 3
  have z4 : W0.cell? ⟨W.heap.size, 4, none⟩ = some (.string ⟨#[]⟩) := HQ0.out.cell 4
  have zf0 := HQ0.out.frozen 0
  have zf1 := HQ0.out.frozen 1
  have zf2 := HQ0.out.frozen 2
  have zf3 := HQ0.out.frozen 3
  have zf4 := HQ0.out.frozen 4
  have n1 : ¬ W.heap.size = b := by omega
  have n2 : ¬ b = W.heap.size := by omega
  have n3 : ¬ W.heap.size + 1 = b := by omega
  have n4 : ¬ b = W.heap.size + 1 := by omega
  have n5 : ¬ W.heap.size = W.heap.size + 1 := by omega
  have n6 : ¬ W.heap.size + 1 = W.heap.size := by omega
  go_wp2_with fail
  refine Calls.mono (HRUN.out _) ?_
  rintro e w1 ⟨rfl, hw⟩
  obtain rfl := hw.symm
  clear hw HRUN
  go_wp2_with fail
  go_loop [8] (fun v8 => ∃ k : Nat, v8 = .int .i64 k ∧ i + 2 ≤ k ∧ k ≤ K) (fun v8 => K - (intOf v8).toNat)
  case atStart => exact ⟨i + 2, by simp, Nat.le_refl _, hK1⟩
  case round =>
    obtain ⟨k, rfl, hk1, hk2⟩ := hrel
    by_cases hlt : k < K
    · have hlt1 : (k : Int) < (s.size : Int) := by omega
      have hlt2 : k < s.size := by omega
      have qk : (((s[k]).toNat : Int) == 125) = false := byte_ne s[k] 125 (HA.out k hlt2 hk1 hlt)
      go_wp2_with fail
      exact ⟨⟨k + 1, by simp, by omega, by omega⟩, by simp [intOf]; omega⟩
    · obtain rfl : k = K := by omega
      clear hlt HA
      have hge : decide ((s.size : Int) ≤ (k : Int)) = true := decide_eq_true (by omega)
      have hnl : ¬ (k : Int) < (s.size : Int) := by omega
      go_wp2_with fail
      obtain ⟨X, hX⟩ : ∃ X, X = W0 := ⟨_, rfl⟩
      rw [← hX]
      have hTX : TL W b s i av X := by rw [hX]; exact HTL.out
      have hQX : Cel X W.heap.size 72 zC := by rw [hX]; exact HQ0.out
      have HFA : Hid _ := fail_any hTX.1 ⟨0, i⟩
      have HTX : Hid (TL W b s i av X) := hTX
      have HQX : Hid (Cel X W.heap.size 72 zC) := hQX
      clear hX hTX hQX HTL HQ0 HP0 l0 l1 lf p0 p1 p2 p3 p4 pf0 pf2 pf4 z0 z1 z2 z3 z4 zf0 zf1 zf2 zf3 zf4
      refine Calls.mono HFA.out ?_
      rintro e w2 ⟨rfl, hF⟩
      have HFL : Hid (Flt X b s ⟨0, i⟩ w2) := hF
      have HQ2 : Hid (Cel w2 W.heap.size 72 zC) := HQX.out.turn hF.turn (fun e => by omega)
      clear hF HFA
      have z0 : w2.cell? ⟨W.heap.size, 0, none⟩ = some (.int .i64 0) := HQ2.out.cell 0
      have z1 : w2.cell? ⟨W.heap.size, 1, none⟩ = some (.int .i64 0) := HQ2.out.cell 1
      have z2 : w2.cell? ⟨W.heap.size, 2, none⟩ = some (.int .i64 0) := HQ2.out.cell 2
      have z3 : w2.cell? ⟨W.heap.size, 3, none⟩ = some (.bool false) := HQ2.out.cell 3
      have z4 : w2.cell? ⟨W.heap.size, 4, none⟩ = some (.string ⟨#[]⟩) := HQ2.out.cell 4
      have zf0 := HQ2.out.frozen 0
      have zf1 := HQ2.out.frozen 1
      have zf2 := HQ2.out.frozen 2
      have zf3 := HQ2.out.frozen 3
      have zf4 := HQ2.out.frozen 4
      go_wp2_with fail
      refine bodyPost_ret (results_partR (p := 4) (u := 5) rfl _ _ W.heap.size _ rfl (Cel.put5 HQ2.out _ _ _ _ _) rfl) rfl ?_
      exact ⟨rfl, (HFL.out.lift HTX.out.2).put5 hlb HQX.out.lt (by omega) HFL.out HQX.out⟩
end Go.Proofs.YtlbdecohmjpgaaaDoor
