/- The errors in the variables; a part in memory; an error around its place; a bracket's part. -/
import Derived.Test.YtlihkblllakhmaaGreatDoorRd6
import Derived.Laws.ResultCell
namespace Go.Proofs.YtlihkblllakhmaaGreatDoor
open Go.RowKit
attribute [local go_sem] Oper.semAt_some

abbrev errV (a : Addr) : Value := .iface 195 (.pointer (some a))
/-- The errors lie in the first variables, and are others each; behind them lies some number of the library's own. -/
structure Env (W : World) (ea : Nat → Addr) : Prop where
  cell : ∀ i, i < 17 → W.cell? ⟨i, 0, none⟩ = some (errV (ea i))
  apart : ∀ i j, i < 17 → j < 17 → ea i = ea j → i = j
  row : ∀ i, i < 17 → ∃ c t, W.heap[(ea i).block]? = some (.cells c t (0, 0))
  glob : 18 ≤ (ea 64).block
  old : ∀ i, i < 17 → (ea i).block < (ea 64).block
  ml : ∃ m : Int, W.cell? ⟨17, 0, none⟩ = some (.int .i64 m)
theorem Env.lt {W : World} {ea : Nat → Addr} (h : Env W ea) {i : Nat} (hi : i < 17) : i < W.heap.size := World.block_lt_of_cell? W _ (h.cell i hi)
/-- Only blocks behind the first turned. -/
theorem Env.turn {W W' : World} {ea : Nat → Addr} {S : Nat → Prop} (h : Env W ea) (hT : Turn S W W') (hS : ∀ i, S i → (ea 64).block ≤ i) : Env W' ea where
  glob := h.glob
  cell i hi := (World.cell?_of_block (w := W) (a := ⟨i, 0, none⟩) (hT.block i (h.lt hi) (fun e => by have := hS i e; have := h.glob; omega))).trans (h.cell i hi)
  apart := h.apart
  row i hi := by
    obtain ⟨c, t, hc⟩ := h.row i hi
    have ho := h.old i hi
    exact ⟨c, t, (hT.block _ (Array.getElem?_eq_some_iff.1 hc).1 (fun e => by have := hS _ e; have := h.glob; omega)).trans hc⟩
  old := h.old
  ml := by
    obtain ⟨m, hc⟩ := h.ml
    exact ⟨m, (World.cell?_of_block (w := W) (a := ⟨17, 0, none⟩) (hT.block 17 (World.block_lt_of_cell? W _ hc) (fun e => by have := hS _ e; have := h.glob; omega))).trans hc⟩
theorem Env.below {W W' : World} {ea : Nat → Addr} (h : Env W ea) (hb : Below W.heap.size W W') : Env W' ea := h.turn (Turn.ofBelow (S := fun _ => False) hb) (fun _ e => e.elim)
theorem Env.stp {W W' : World} {ea : Nat → Addr} {b sb k : Nat} {s : ByteArray} (h : Env W ea) (hS : Stp W b sb s k W') (hb : (ea 64).block ≤ b) : Env W' ea := h.turn hS.turn (fun i e => by rw [e]; exact hb)
theorem Env.drewN {W : World} {ea : Nat → Addr} (h : Env W ea) (m : Nat) : Env (W.drewN m) ea := h.below ⟨rfl, rfl, rfl, Nat.le_refl _, fun _ _ => rfl⟩
theorem Turn.above {B : Nat} {w w' : World} (h : Below B w w') : Turn (fun i => B ≤ i) w w' := ⟨h.os, h.tape, h.output, h.size, fun i _ hs => h.block i (by omega)⟩
theorem Env.under {w w' : World} {ea : Nat → Addr} {B : Nat} (h : Env w ea) (hb : Below B w w') (hB : (ea 64).block ≤ B) : Env w' ea := h.turn (Turn.above hb) (fun i e => by omega)
theorem nrun_len (l : List UInt8) : (nrun l).length ≤ l.length := by
  cases l with
  | nil => simp [nrun]
  | cons c t =>
    rw [nrun]
    split
    · exact (List.takeWhile_sublist _).length_le
    · simp
/-! ### parts -/
abbrev ptC (p : Pt) : List Value := [.int .i64 (p.kind : Nat), .int .i64 (p.pos : Nat), .int .i64 (p.n : Nat), str p.s]
def ptZ : Pt := ⟨0, 0, 0, []⟩
abbrev zC : Array Value := #[.int .i64 0, .int .i64 0, .int .i64 0, .string ⟨#[]⟩]
theorem zC_eq : zC = (ptC ptZ).toArray := rfl
/-- Where an error lies among the variables. -/
def gOf : Nat → Nat
  | 0 => 6
  | 1 => 5
  | 2 => 2
  | 3 => 3
  | _ => 1
/-- An error around its place. -/
def AtEr (W : World) (ea : Nat → Addr) (v : Value) (x : Er) : Prop := ∃ q, v = .iface 119 (.pointer (some ⟨q, 0, none⟩)) ∧ Cel W q 121 #[.int .i64 (x.pos : Nat), errV (ea (gOf x.code))]
theorem AtEr.turn {W W' : World} {ea : Nat → Addr} {v : Value} {x : Er} {S : Nat → Prop} (h : AtEr W ea v x) (hT : Turn S W W') (hS : ∀ i, S i → ∀ cs, ¬ Cel W i 121 cs) : AtEr W' ea v x := by
  obtain ⟨q, h1, h2⟩ := h
  exact ⟨q, h1, h2.turn hT (fun e => hS q e _ h2)⟩
theorem AtEr.below {W W' : World} {ea : Nat → Addr} {v : Value} {x : Er} (h : AtEr W ea v x) (hb : Below W.heap.size W W') : AtEr W' ea v x := h.turn (Turn.ofBelow (S := fun _ => False) hb) (fun _ e => e.elim)
theorem fails_any (p : Nat) (a : Addr) (W : World) : Calls Tryz.prog 65 #[.int .i64 (p : Nat), errV a] W fun e w' => e = .returned (.iface 119 (.pointer (some ⟨W.heap.size, 0, none⟩))) ∧ Cel w' W.heap.size 121 #[.int .i64 (p : Nat), errV a] ∧ Below W.heap.size W w' := by
  go_enter Tryz.func65, Tryz.ntmps65
  go_wp2_with fail
  go_ret
  exact ⟨rfl, Cel.new W _ _, below_new W _⟩
theorem sizeP : (Tryz.prog.info? 59).map (·.size) = some 4 := by kernel_rfl
theorem results_part {fn : Func} {p u : Tmp} (h : fn.results = #[.cell p 59, .tmp u]) (tmps : Array Value) (w : World) (g : Nat) (cs : Array Value) (hp : tmps.getD p undef = .pointer (some ⟨g, 0, none⟩)) (hc : Cel w g 59 cs) (hz : cs.size = 4) :
    (results fn tmps).run Tryz.prog w = .ok (.tuple #[.agg cs, tmps.getD u undef]) w := by
  rw [results_cell_tmp h, hp]
  simp only [asAddr, Sem.run_pure, Result.andThen]
  rw [run_loadVar_row w g 59 59 cs (0, 0) _ hc Tryz.underlying59 rfl (by rw [hz]; exact sizeP)]
theorem results_one {fn : Func} {p : Tmp} (h : fn.results = #[.cell p 59]) (tmps : Array Value) (w : World) (g : Nat) (cs : Array Value) (hp : tmps.getD p undef = .pointer (some ⟨g, 0, none⟩)) (hc : Cel w g 59 cs) (hz : cs.size = 4) :
    (results fn tmps).run Tryz.prog w = .ok (.agg cs) w := results_cell_row h tmps w g 59 cs (0, 0) _ hp hc Tryz.underlying59 rfl (by rw [hz]; exact sizeP)
def putP (X : World) (g : Nat) (v0 v1 v2 v3 : Value) : World := (((X.setCell ⟨g, 0, none⟩ v0).setCell ⟨g, 1, none⟩ v1).setCell ⟨g, 2, none⟩ v2).setCell ⟨g, 3, none⟩ v3
theorem Cel.put4 {X : World} {g : Nat} {t : TypeId} {u0 u1 u2 u3 : Value} (h : Cel X g t #[u0, u1, u2, u3]) (v0 v1 v2 v3 : Value) : Cel (putP X g v0 v1 v2 v3) g t #[v0, v1, v2, v3] :=
  (((h.set (j := 0) v0).set (j := 1) v1).set (j := 2) v2).set (j := 3) v3
theorem Cel.away4 {X : World} {g c : Nat} {t : TypeId} {cs : Array Value} (h : Cel X c t cs) (hne : c ≠ g) (v0 v1 v2 v3 : Value) : Cel (putP X g v0 v1 v2 v3) c t cs :=
  (((h.other hne v0).other hne v1).other hne v2).other hne v3
theorem Cel.drew {W : World} {g : Nat} {t : TypeId} {cs : Array Value} (h : Cel W g t cs) : Cel W.drew g t cs := h
theorem Stp.other {W X : World} {b sb k g : Nat} {s : ByteArray} (h : Stp W b sb s k X) (hb : b < W.heap.size) (hsb : sb < W.heap.size) (hg : W.heap.size ≤ g) (j : Nat) (v : Value) : Stp W b sb s k (X.setCell ⟨g, j, none⟩ v) :=
  ⟨⟨h.at_.rd.other (by omega) v, h.at_.src.other (by omega) v⟩, h.turn.setCell (p := ⟨g, j, none⟩) (fun hlt => by have : g < W.heap.size := hlt; omega) v⟩
theorem Stp.put4 {W X : World} {b sb k g : Nat} {s : ByteArray} (h : Stp W b sb s k X) (hb : b < W.heap.size) (hsb : sb < W.heap.size) (hg : W.heap.size ≤ g) (v0 v1 v2 v3 : Value) : Stp W b sb s k (putP X g v0 v1 v2 v3) :=
  (((h.other hb hsb hg 0 v0).other hb hsb hg 1 v1).other hb hsb hg 2 v2).other hb hsb hg 3 v3
/-- A part, or an error; where the reader stands behind it. -/
def PartV (W : World) (b sb : Nat) (s : ByteArray) (ea : Nat → Addr) (R : Except Er (Pt × List UInt8)) (p : Pt) (ev : Value) (w' : World) : Prop := match R with
  | .ok q => p = q.1 ∧ ev = .nilIface ∧ ∃ j, Stp W b sb s j w' ∧ j ≤ s.size ∧ q.2 = s.data.toList.drop j
  | .error x => AtEr w' ea ev x ∧ ∃ j, Stp W b sb s j w'
theorem PartV.lift {W W0 w' : World} {b sb k : Nat} {s : ByteArray} {ea : Nat → Addr} {R : Except Er (Pt × List UInt8)} {p : Pt} {ev : Value} (h : PartV W0 b sb s ea R p ev w') (h0 : Stp W b sb s k W0) : PartV W b sb s ea R p ev w' := by
  cases R with
  | ok q =>
    obtain ⟨h1, h2, j, h3, h4, h5⟩ := h
    exact ⟨h1, h2, j, h0.trans h3, h4, h5⟩
  | error x =>
    obtain ⟨h1, j, h3⟩ := h
    exact ⟨h1, j, h0.trans h3⟩
theorem AtEr.put {w : World} {g : Nat} {cs : Array Value} {ea : Nat → Addr} {v : Value} {x : Er} (h : AtEr w ea v x) (hc : Cel w g 59 cs) (v0 v1 v2 v3 : Value) : AtEr (putP w g v0 v1 v2 v3) ea v x := by
  obtain ⟨q, h1, h2⟩ := h
  refine ⟨q, h1, h2.away4 (fun e => ?_) _ _ _ _⟩
  subst e
  have := (show w.heap[q]? = _ from h2).symm.trans hc
  simp at this
theorem PartV.put {W w : World} {b sb g : Nat} {s : ByteArray} {ea : Nat → Addr} {R : Except Er (Pt × List UInt8)} {p : Pt} {ev : Value} {cs : Array Value} (h : PartV W b sb s ea R p ev w) (hc : Cel w g 59 cs) (hb : b < W.heap.size) (hsb : sb < W.heap.size) (hg : W.heap.size ≤ g) (v0 v1 v2 v3 : Value) : PartV W b sb s ea R p ev (putP w g v0 v1 v2 v3) := by
  cases R with
  | ok q =>
    obtain ⟨h1, h2, j, h3, h4, h5⟩ := h
    exact ⟨h1, h2, j, h3.put4 hb hsb hg _ _ _ _, h4, h5⟩
  | error x =>
    obtain ⟨h1, j, h3⟩ := h
    exact ⟨h1.put hc _ _ _ _, j, h3.put4 hb hsb hg _ _ _ _⟩
theorem Cel.new2 (W : World) (o : Obj) (t : TypeId) (cs : Array Value) : Cel ((W.alloc o).alloc (.cells cs t)) (W.heap.size + 1) t cs := by
  have := Cel.new (W.alloc o) t cs
  simpa using this
theorem len_drop (s : ByteArray) (k : Nat) : (s.data.toList.drop k).length = s.size - k := by rw [List.length_drop]; simp
theorem cut_eq (s : ByteArray) (k j : Nat) (hkj : k < j) (hj : j ≤ s.size) : s.extract k (j - 1) = ⟨((s.data.toList.drop k).take ((s.data.toList.drop k).length - (s.data.toList.drop j).length - 1)).toArray⟩ := by
  rw [Lib.extract_eq, len_drop, len_drop, show s.size - k - (s.size - j) - 1 = j - 1 - k by omega]
theorem passB_lt : ∀ (f : Nat) (l u : List UInt8) (m : Nat), l.length ≤ f → passB m l = some u → u.length < l.length := by
  intro f
  induction f with
  | zero =>
    intro l u m h hp
    obtain rfl := List.eq_nil_of_length_eq_zero (Nat.le_zero.1 h)
    rw [passB_nil] at hp
    cases hp
  | succ f ih =>
    intro l u m h hp
    cases l with
    | nil => rw [passB_nil] at hp; cases hp
    | cons c t =>
      rw [List.length_cons] at h ⊢
      rw [passB_cons] at hp
      split at hp
      · have := ih t.tail u m (by rw [List.length_tail]; omega) hp
        rw [List.length_tail] at this
        omega
      · split at hp
        · have := ih t u _ (by omega) hp; omega
        · split at hp
          · split at hp
            · cases hp; omega
            · have := ih t u _ (by omega) hp; omega
          · have := ih t u _ (by omega) hp; omega
theorem passK_lt : ∀ (f : Nat) (l u : List UInt8) (n m : Nat), l.length ≤ f → passK n m l = some u → u.length < l.length := by
  intro f
  induction f with
  | zero =>
    intro l u n m h hp
    obtain rfl := List.eq_nil_of_length_eq_zero (Nat.le_zero.1 h)
    rw [passK_nil] at hp
    cases hp
  | succ f ih =>
    intro l u n m h hp
    cases l with
    | nil => rw [passK_nil] at hp; cases hp
    | cons c t =>
      rw [List.length_cons] at h ⊢
      rw [passK_cons] at hp
      split at hp
      · have := ih t.tail u n m (by rw [List.length_tail]; omega) hp
        rw [List.length_tail] at this
        omega
      · split at hp
        · have := ih t u _ _ (by omega) hp; omega
        · split at hp
          · have := ih t u _ _ (by omega) hp; omega
          · split at hp
            · have := ih t u _ _ (by omega) hp; omega
            · split at hp
              · split at hp
                · split at hp
                  · cases hp; omega
                  · have := ih t u _ _ (by omega) hp; omega
                · have := ih t u _ _ (by omega) hp; omega
              · have := ih t u _ _ (by omega) hp; omega
theorem partL_br (N : Nat) (e t : List UInt8) : partL N e (91 :: t) = (match passK 0 0 t with
    | none => .error ⟨1, N - (t.length + 1)⟩
    | some u => .ok (⟨3, N - (t.length + 1), 0, t.take (t.length - u.length - 1)⟩, u)) := by
  rw [partL, if_pos (show (91 :: t).head? = some 91 from rfl)]
  rfl
set_option maxRecDepth 100000 in
set_option maxHeartbeats 2000000 in
theorem bracket_any {W : World} {b sb k : Nat} {s : ByteArray} {ea : Nat → Addr} (e : List UInt8) (h : Rd W b sb s k) (hE : Env W ea) (hs : s.size < 1099511627776) (hk : k < s.size) (hc : s[k] = 91) (hb64 : (ea 64).block ≤ b) :
    Calls Tryz.prog 89 #[.pointer (some ⟨b, 0, none⟩)] W fun e' w' => ∃ p ev, e' = .returned (.tuple #[.agg (ptC p).toArray, ev]) ∧ PartV W b sb s ea (partL s.size e (s.data.toList.drop k)) p ev w' := by
  have hlb := h.rd.lt
  have hlsb := h.src.lt
  have hlen : s.size - ((s.data.toList.drop (k + 1)).length + 1) = k := by rw [len_drop]; omega
  rw [drop_cons s k hk, hc, partL_br, hlen]
  obtain ⟨W0, hW0⟩ : ∃ W0, W0 = W.alloc (.cells zC 59) := ⟨_, rfl⟩
  have HS0 : Hid (Stp W b sb s k W0) := by rw [hW0]; exact (Stp.refl h).alloc _
  have HQ0 : Hid (Cel W0 W.heap.size 59 zC) := by rw [hW0]; exact Cel.new W _ _
  have HE0 : Hid (Env W0 ea) := by rw [hW0]; exact hE.below (below_new W _)
  have HW0 : Hid (W.alloc (.cells zC 59) = W0) := hW0.symm
  have HN : Hid _ := passBrackets_any HS0.out.at_ hs hk hc
  have cW : W.cell? ⟨b, 1, none⟩ = some (.int .i64 (k : Nat)) := h.c1
  have hnb : ¬ W.heap.size = b := by omega
  have hbn : ¬ b = W.heap.size := by omega
  have hsn : ¬ sb = W.heap.size := by omega
  have hns : ¬ W.heap.size = sb := by omega
  clear h hE hW0 hlen
  cases hN : passK 0 0 (s.data.toList.drop (k + 1)) with
  | none =>
    rw [hN] at HN
    simp only
    clear hN
    go_enter Tryz.func89, Tryz.ntmps89
    go_wp2_with fail
    rw [HW0.out]
    refine Calls.mono HN.out ?_
    rintro e w1 ⟨rfl, jj, hS1, hj1, hj2, hL⟩
    have HS1 : Hid (Stp W b sb s jj w1) := HS0.out.trans hS1
    have HQ1 : Hid (Cel w1 W.heap.size 59 zC) := HQ0.out.turn hS1.turn (by omega)
    have hE1 := HE0.out.stp hS1 hb64
    have g0 := hE1.cell 5 (by omega)
    clear hS1 hL HQ0 HS0 HE0 HN hE1 cW
    go_wp2_with fail
    refine (fails_any k _ w1).mono ?_
    rintro e w2 ⟨rfl, hq, hb2⟩
    have HQ2 : Hid (Cel w2 W.heap.size 59 zC) := HQ1.out.below hb2 HQ1.out.lt
    have HX : Hid (AtEr w2 ea (.iface 119 (.pointer (some ⟨w1.heap.size, 0, none⟩))) ⟨1, k⟩) := ⟨_, rfl, hq⟩
    have HS2 : Hid (Stp W b sb s jj w2) := HS1.out.below hb2
    clear hq hb2 HQ1 HS1
    have z0 : w2.cell? ⟨W.heap.size, 0, none⟩ = some (.int .i64 0) := HQ2.out.cell 0
    have z1 : w2.cell? ⟨W.heap.size, 1, none⟩ = some (.int .i64 0) := HQ2.out.cell 1
    have z2 : w2.cell? ⟨W.heap.size, 2, none⟩ = some (.int .i64 0) := HQ2.out.cell 2
    have z3 : w2.cell? ⟨W.heap.size, 3, none⟩ = some (.string ⟨#[]⟩) := HQ2.out.cell 3
    have zf0 := HQ2.out.frozen 0
    have zf1 := HQ2.out.frozen 1
    have zf2 := HQ2.out.frozen 2
    have zf3 := HQ2.out.frozen 3
    go_wp2_with fail
    refine bodyPost_ret (results_part (p := 2) (u := 3) rfl _ _ W.heap.size _ rfl (HQ2.out.put4 _ _ _ _) rfl) rfl ?_
    exact ⟨ptZ, _, rfl, PartV.put (R := .error ⟨1, k⟩) ⟨HX.out, jj, HS2.out⟩ HQ2.out hlb hlsb (Nat.le_refl _) _ _ _ _⟩
  | some u =>
    rw [hN] at HN
    simp only
    have hult := passK_lt _ _ _ _ _ (Nat.le_refl _) hN
    rw [len_drop] at hult
    clear hN
    go_enter Tryz.func89, Tryz.ntmps89
    go_wp2_with fail
    rw [HW0.out]
    refine Calls.mono HN.out ?_
    rintro e w1 ⟨rfl, jj, hS1, hj1, hj2, hL⟩
    obtain ⟨rfl, hj3⟩ := hL u rfl
    rw [len_drop] at hult
    have hj4 : k + 1 < jj := by omega
    have HS1 : Hid (Stp W b sb s jj w1) := HS0.out.trans hS1
    have HQ1 : Hid (Cel w1 W.heap.size 59 zC) := HQ0.out.turn hS1.turn (by omega)
    have hjj : ((jj : Int) - 1) = ((jj - 1 : Nat) : Int) := by omega
    have HSL : Hid (∀ w, (w.cell? ⟨b, 0, none⟩ = some (.pointer (some ⟨sb, 0, none⟩)) ∧ w.cell? ⟨b, 1, none⟩ = some (.int .i64 (jj : Nat)) ∧ w.cell? ⟨sb, 0, none⟩ = some (.string s)) → Calls Tryz.prog 66 #[.pointer (some ⟨sb, 0, none⟩), .int .i64 ((k : Int) + 1), .int .i64 ((jj : Int) - 1)] w fun e w' => e = .returned (.string (s.extract (k + 1) (jj - 1))) ∧ w' = w) := fun w hw => by
      rw [hjj]
      exact slice_any sb s (k + 1) (jj - 1) w hw.2.2 (by omega) (by omega)
    have c0 := HS1.out.at_.c0
    have c1 := HS1.out.at_.c1
    have t0 := HS1.out.at_.t0
    have z0 : w1.cell? ⟨W.heap.size, 0, none⟩ = some (.int .i64 0) := HQ1.out.cell 0
    have z1 : w1.cell? ⟨W.heap.size, 1, none⟩ = some (.int .i64 0) := HQ1.out.cell 1
    have z2 : w1.cell? ⟨W.heap.size, 2, none⟩ = some (.int .i64 0) := HQ1.out.cell 2
    have z3 : w1.cell? ⟨W.heap.size, 3, none⟩ = some (.string ⟨#[]⟩) := HQ1.out.cell 3
    have zf0 := HQ1.out.frozen 0
    have zf1 := HQ1.out.frozen 1
    have zf2 := HQ1.out.frozen 2
    have zf3 := HQ1.out.frozen 3
    have hwr : IntKind.i64.wrap ((jj : Int) - 1) = (jj : Int) - 1 := by rw [IntKind.wrap_i64]; omega
    have hwr2 : IntKind.i64.wrap ((k : Int) + 1) = (k : Int) + 1 := by rw [IntKind.wrap_i64]; omega
    clear hS1 hL HQ0 HS0 HE0 HN hjj cW HW0
    go_wp2_with fail
    go_region_held3 (fun w' => w'.cell? ⟨b, 0, none⟩ = some (.pointer (some ⟨sb, 0, none⟩)) ∧ w'.cell? ⟨b, 1, none⟩ = some (.int .i64 (jj : Nat)) ∧ w'.cell? ⟨sb, 0, none⟩ = some (.string s)) (go_keep) (first | (go_at_call 66; refine Calls.mono (HSL.out _ (by assumption)) ?_; rintro e w2 ⟨rfl, rfl⟩))
    have HCE : Hid _ := cut_eq s (k + 1) jj hj4 hj3
    rw [HCE.out]
    obtain ⟨tx, HTX⟩ : ∃ tx, Hid ((s.data.toList.drop (k + 1)).take ((s.data.toList.drop (k + 1)).length - (s.data.toList.drop jj).length - 1) = tx) := ⟨_, rfl⟩
    rw [HTX.out]
    obtain ⟨W2, hW2⟩ : ∃ W2, W2 = ((((w1.setCell ⟨W.heap.size, 0, none⟩ (.int .i64 3)).setCell ⟨W.heap.size, 1, none⟩ (.int .i64 (k : Nat))).setCell ⟨W.heap.size, 2, none⟩ (.int .i64 0)).setCell ⟨W.heap.size, 3, none⟩ (str tx)).drew := ⟨_, rfl⟩
    have HQ2 : Hid (Cel W2 W.heap.size 59 #[.int .i64 3, .int .i64 (k : Nat), .int .i64 0, str tx]) := by rw [hW2]; exact Cel.drew (HQ1.out.put4 (.int .i64 3) (.int .i64 (k : Nat)) (.int .i64 0) (str tx))
    have HS2 : Hid (Stp W b sb s jj W2) := by rw [hW2]; exact (HS1.out.put4 hlb hlsb (Nat.le_refl _) (.int .i64 3) (.int .i64 (k : Nat)) (.int .i64 0) (str tx)).drew
    rw [← hW2]
    clear hW2 HS1 HQ1 HSL c0 c1 t0 z0 z1 z2 z3 zf0 zf1 zf2 zf3
    go_wp2_with fail
    refine bodyPost_ret (results_part (p := 2) (u := 3) rfl _ _ W.heap.size _ rfl HQ2.out rfl) rfl ?_
    exact ⟨⟨3, k, 0, tx⟩, _, rfl, by rw [HTX.out], rfl, jj, HS2.out, hj3, rfl⟩
end Go.Proofs.YtlihkblllakhmaaGreatDoor
