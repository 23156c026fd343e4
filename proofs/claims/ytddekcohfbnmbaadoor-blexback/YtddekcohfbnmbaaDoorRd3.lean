/- Tokens in memory; an error around its place; a word. -/
import Derived.Test.YtddekcohfbnmbaaDoorRd2
namespace Go.Proofs.YtddekcohfbnmbaaDoor
open Go.RowKit
attribute [local go_sem] Oper.semAt_some

theorem len_drop (s : ByteArray) (k : Nat) : (s.data.toList.drop k).length = s.size - k := by rw [List.length_drop]; simp
theorem Cel.drew {W : World} {g : Nat} {t : TypeId} {cs : Array Value} (h : Cel W g t cs) : Cel W.drew g t cs := h
abbrev tbC (t : Tb) : List Value := [.int .i64 (t.kind : Nat), .int .i64 (t.pos : Nat), .int .i64 (t.n : Nat), str t.s, .bool t.glue]
abbrev zT : Array Value := #[.int .i64 0, .int .i64 0, .int .i64 0, .string ⟨#[]⟩, .bool false]
/-- Where an error lies among the variables. -/
def gOf : Nat → Nat
  | 0 => 7
  | 1 => 5
  | 2 => 3
  | _ => 2
theorem gOf_lt (c : Nat) : gOf c < 18 ∧ gOf c ≠ 1 := by unfold gOf; split <;> decide
/-- An error around its place. -/
def AtEr (W : World) (ea : Nat → Addr) (v : Value) (x : Er) : Prop := ∃ q, v = .iface 81 (.pointer (some ⟨q, 0, none⟩)) ∧ Cel W q 83 #[.int .i64 (x.pos : Nat), errV (ea (gOf x.code))]
theorem AtEr.turn {W W' : World} {ea : Nat → Addr} {v : Value} {x : Er} {S : Nat → Prop} (h : AtEr W ea v x) (hT : Turn S W W') (hS : ∀ i, S i → ∀ cs, ¬ Cel W i 83 cs) : AtEr W' ea v x := by
  obtain ⟨q, h1, h2⟩ := h
  exact ⟨q, h1, h2.turn hT (fun e => hS q e _ h2)⟩
theorem AtEr.below {W W' : World} {ea : Nat → Addr} {v : Value} {x : Er} (h : AtEr W ea v x) (hb : Below W.heap.size W W') : AtEr W' ea v x := h.turn (Turn.ofBelow (S := fun _ => False) hb) (fun _ e => e.elim)
theorem sizeT : (Tryd.prog.info? 40).map (·.size) = some 5 := by kernel_rfl
theorem results_tok {fn : Func} {p u : Tmp} (h : fn.results = #[.cell p 40, .tmp u]) (tmps : Array Value) (w : World) (g : Nat) (cs : Array Value) (hp : tmps.getD p undef = .pointer (some ⟨g, 0, none⟩)) (hc : Cel w g 40 cs) (hz : cs.size = 5) :
    (results fn tmps).run Tryd.prog w = .ok (.tuple #[.agg cs, tmps.getD u undef]) w := by
  rw [results_cell_tmp h, hp]
  simp only [asAddr, Sem.run_pure, Result.andThen]
  rw [run_loadVar_row w g 40 40 cs (0, 0) _ hc Tryd.underlying40 rfl (by rw [hz]; exact sizeT)]
theorem results_one {fn : Func} {p : Tmp} (h : fn.results = #[.cell p 40]) (tmps : Array Value) (w : World) (g : Nat) (cs : Array Value) (hp : tmps.getD p undef = .pointer (some ⟨g, 0, none⟩)) (hc : Cel w g 40 cs) (hz : cs.size = 5) :
    (results fn tmps).run Tryd.prog w = .ok (.agg cs) w := results_cell_row h tmps w g 40 cs (0, 0) _ hp hc Tryd.underlying40 rfl (by rw [hz]; exact sizeT)
def putP (X : World) (g : Nat) (v0 v1 v2 v3 v4 : Value) : World := ((((X.setCell ⟨g, 0, none⟩ v0).setCell ⟨g, 1, none⟩ v1).setCell ⟨g, 2, none⟩ v2).setCell ⟨g, 3, none⟩ v3).setCell ⟨g, 4, none⟩ v4
theorem Cel.put5 {X : World} {g : Nat} {t : TypeId} {u0 u1 u2 u3 u4 : Value} (h : Cel X g t #[u0, u1, u2, u3, u4]) (v0 v1 v2 v3 v4 : Value) : Cel (putP X g v0 v1 v2 v3 v4) g t #[v0, v1, v2, v3, v4] :=
  ((((h.set (j := 0) v0).set (j := 1) v1).set (j := 2) v2).set (j := 3) v3).set (j := 4) v4
theorem Cel.away5 {X : World} {g c : Nat} {t : TypeId} {cs : Array Value} (h : Cel X c t cs) (hne : c ≠ g) (v0 v1 v2 v3 v4 : Value) : Cel (putP X g v0 v1 v2 v3 v4) c t cs :=
  ((((h.other hne v0).other hne v1).other hne v2).other hne v3).other hne v4
theorem below_put {W X : World} {B g : Nat} (h : Below B W X) (hg : B ≤ g) (v0 v1 v2 v3 v4 : Value) : Below B W (putP X g v0 v1 v2 v3 v4) :=
  ((((h.setCell (p := ⟨g, 0, none⟩) hg v0).setCell (p := ⟨g, 1, none⟩) hg v1).setCell (p := ⟨g, 2, none⟩) hg v2).setCell (p := ⟨g, 3, none⟩) hg v3).setCell (p := ⟨g, 4, none⟩) hg v4
theorem Stp.other {W X : World} {b sb k g : Nat} {s : ByteArray} (h : Stp W b sb s k X) (hb : b < W.heap.size) (hsb : sb < W.heap.size) (hg : W.heap.size ≤ g) (j : Nat) (v : Value) : Stp W b sb s k (X.setCell ⟨g, j, none⟩ v) :=
  ⟨⟨h.at_.rd.other (by omega) v, h.at_.src.other (by omega) v⟩, h.turn.setCell (p := ⟨g, j, none⟩) (fun hlt => by have : g < W.heap.size := hlt; omega) v⟩
theorem Stp.put5 {W X : World} {b sb k g : Nat} {s : ByteArray} (h : Stp W b sb s k X) (hb : b < W.heap.size) (hsb : sb < W.heap.size) (hg : W.heap.size ≤ g) (v0 v1 v2 v3 v4 : Value) : Stp W b sb s k (putP X g v0 v1 v2 v3 v4) :=
  ((((h.other hb hsb hg 0 v0).other hb hsb hg 1 v1).other hb hsb hg 2 v2).other hb hsb hg 3 v3).other hb hsb hg 4 v4
theorem AtEr.put {w : World} {g : Nat} {cs : Array Value} {ea : Nat → Addr} {v : Value} {x : Er} (h : AtEr w ea v x) (hc : Cel w g 40 cs) (v0 v1 v2 v3 v4 : Value) : AtEr (putP w g v0 v1 v2 v3 v4) ea v x := by
  obtain ⟨q, h1, h2⟩ := h
  refine ⟨q, h1, h2.away5 (fun e => ?_) _ _ _ _ _⟩
  subst e
  have := (show w.heap[q]? = _ from h2).symm.trans hc
  simp at this
theorem Cel.new2 (W : World) (o : Obj) (t : TypeId) (cs : Array Value) : Cel ((W.alloc o).alloc (.cells cs t)) (W.heap.size + 1) t cs := by
  have := Cel.new (W.alloc o) t cs
  simpa using this
theorem below_drew (B : Nat) (W : World) : Below B W W.drew := ⟨rfl, rfl, rfl, Nat.le_refl _, fun _ _ => rfl⟩
/-- A token, or an error; where the reader stands behind it. -/
def TokV (W : World) (b sb : Nat) (s : ByteArray) (ea : Nat → Addr) (R : Except Er (Tb × List UInt8)) (v ev : Value) (w' : World) : Prop := match R with
  | .ok q => v = .agg (tbC q.1).toArray ∧ ev = .nilIface ∧ ∃ j, Stp W b sb s j w' ∧ j ≤ s.size ∧ q.2 = s.data.toList.drop j
  | .error x => (∃ c, v = .agg (tbC c).toArray) ∧ AtEr w' ea ev x ∧ ∃ j, Stp W b sb s j w'
theorem TokV.lift {W W0 w' : World} {b sb k : Nat} {s : ByteArray} {ea : Nat → Addr} {R : Except Er (Tb × List UInt8)} {v ev : Value} (h : TokV W0 b sb s ea R v ev w') (h0 : Stp W b sb s k W0) : TokV W b sb s ea R v ev w' := by
  cases R with
  | ok q =>
    obtain ⟨h1, h2, j, h3, h4, h5⟩ := h
    exact ⟨h1, h2, j, h0.trans h3, h4, h5⟩
  | error x =>
    obtain ⟨h0', h1, j, h3⟩ := h
    exact ⟨h0', h1, j, h0.trans h3⟩
theorem TokV.put {W w : World} {b sb g : Nat} {s : ByteArray} {ea : Nat → Addr} {R : Except Er (Tb × List UInt8)} {v ev : Value} {cs : Array Value} (h : TokV W b sb s ea R v ev w) (hc : Cel w g 40 cs) (hb : b < W.heap.size) (hsb : sb < W.heap.size) (hg : W.heap.size ≤ g) (v0 v1 v2 v3 v4 : Value) : TokV W b sb s ea R v ev (putP w g v0 v1 v2 v3 v4) := by
  cases R with
  | ok q =>
    obtain ⟨h1, h2, j, h3, h4, h5⟩ := h
    exact ⟨h1, h2, j, h3.put5 hb hsb hg _ _ _ _ _, h4, h5⟩
  | error x =>
    obtain ⟨h0, h1, j, h3⟩ := h
    exact ⟨h0, h1.put hc _ _ _ _ _, j, h3.put5 hb hsb hg _ _ _ _ _⟩
theorem TokV.form {W w : World} {b sb : Nat} {s : ByteArray} {ea : Nat → Addr} {R : Except Er (Tb × List UInt8)} {v ev : Value} (h : TokV W b sb s ea R v ev w) : ∃ c : Tb, v = .agg (tbC c).toArray := by
  cases R with
  | ok q => exact ⟨q.1, h.1⟩
  | error x => exact h.1
theorem TokV.stp {W w : World} {b sb : Nat} {s : ByteArray} {ea : Nat → Addr} {R : Except Er (Tb × List UInt8)} {v ev : Value} (h : TokV W b sb s ea R v ev w) : ∃ j, Stp W b sb s j w := by
  cases R with
  | ok q => obtain ⟨_, _, j, h3, _⟩ := h; exact ⟨j, h3⟩
  | error x => obtain ⟨_, _, j, h3⟩ := h; exact ⟨j, h3⟩
set_option maxRecDepth 100000 in
set_option maxHeartbeats 2000000 in
theorem fails_any (t : Tb) (a : Addr) (W : World) : Calls Tryd.prog 46 #[.agg (tbC t).toArray, errV a] W fun e w' => ∃ q, e = .returned (.tuple #[.agg zT, .iface 81 (.pointer (some ⟨q, 0, none⟩))]) ∧ Cel w' q 83 #[.int .i64 (t.pos : Nat), errV a] ∧ Below W.heap.size W w' := by
  obtain ⟨W0, hW0⟩ : ∃ W0, W0 = (W.alloc (.cells (tbC t).toArray 40)).alloc (.cells zT 40) := ⟨_, rfl⟩
  have HB0 : Hid (Below W.heap.size W W0) := by rw [hW0]; exact (below_new W _).alloc (by simp) _
  have HQ0 : Hid (Cel W0 (W.heap.size + 1) 40 zT) := by rw [hW0]; exact Cel.new2 W _ _ _
  have HT0 : Hid (Cel W0 W.heap.size 40 (tbC t).toArray) := by rw [hW0]; exact (Cel.new W _ _).below (below_new _ _) (by simp)
  have HW0 : Hid ((W.alloc (.cells (tbC t).toArray 40)).alloc (.cells zT 40) = W0) := hW0.symm
  clear hW0
  go_enter Tryd.func46, Tryd.ntmps46
  go_upto_region 1 with fail
  rw [HW0.out]
  have c1 : W0.cell? ⟨W.heap.size, 1, none⟩ = some (.int .i64 (t.pos : Nat)) := HT0.out.cell 1
  have z0 : W0.cell? ⟨W.heap.size + 1, 0, none⟩ = some (.int .i64 0) := HQ0.out.cell 0
  have z1 : W0.cell? ⟨W.heap.size + 1, 1, none⟩ = some (.int .i64 0) := HQ0.out.cell 1
  have z2 : W0.cell? ⟨W.heap.size + 1, 2, none⟩ = some (.int .i64 0) := HQ0.out.cell 2
  have z3 : W0.cell? ⟨W.heap.size + 1, 3, none⟩ = some (.string ⟨#[]⟩) := HQ0.out.cell 3
  have z4 : W0.cell? ⟨W.heap.size + 1, 4, none⟩ = some (.bool false) := HQ0.out.cell 4
  have y0 := HQ0.out.frozen 0
  have y1 := HQ0.out.frozen 1
  have y2 := HQ0.out.frozen 2
  have y3 := HQ0.out.frozen 3
  have y4 := HQ0.out.frozen 4
  have hne : ¬ W.heap.size = W.heap.size + 1 := by omega
  have hql := HQ0.out.lt
  go_region
  obtain ⟨X, hX⟩ : ∃ X, X = putP W0 (W.heap.size + 1) (.int .i64 0) (.int .i64 0) (.int .i64 0) (.string ⟨#[]⟩) (.bool false) := ⟨_, rfl⟩
  have hXs : X.heap.size = W0.heap.size := by rw [hX]; simp [putP]
  have HQ1 : Hid (Cel X (W.heap.size + 1) 40 zT) := by rw [hX]; exact HQ0.out.put5 _ _ _ _ _
  have HB1 : Hid (Below W.heap.size W X) := by rw [hX]; exact below_put HB0.out (by omega) _ _ _ _ _
  have HX : Hid (((((W0.setCell ⟨W.heap.size + 1, 0, none⟩ (.int .i64 0)).setCell ⟨W.heap.size + 1, 1, none⟩ (.int .i64 0)).setCell ⟨W.heap.size + 1, 2, none⟩ (.int .i64 0)).setCell ⟨W.heap.size + 1, 3, none⟩ (.string ⟨#[]⟩)).setCell ⟨W.heap.size + 1, 4, none⟩ (.bool false) = X) := hX.symm
  rw [HX.out, ← hXs]
  obtain ⟨Y, hY⟩ : ∃ Y, Y = (X.alloc (.cells #[.int .i64 (t.pos : Nat), errV a] 83)).drew := ⟨_, rfl⟩
  have HQ2 : Hid (Cel Y (W.heap.size + 1) 40 zT) := by rw [hY]; exact Cel.drew (HQ1.out.below (below_new X _) HQ1.out.lt)
  have HA2 : Hid (Cel Y X.heap.size 83 #[.int .i64 (t.pos : Nat), errV a]) := by rw [hY]; exact Cel.new X _ _
  have HB2 : Hid (Below W.heap.size W Y) := by rw [hY]; exact (HB1.out.trans ((below_new X _).mono (by have := HB1.out.size; omega))).trans (below_drew _ _)
  rw [← hY]
  clear hY hX HX hXs HQ1 HB1 HQ0 HB0 HT0 c1 z0 z1 z2 z3 z4 y0 y1 y2 y3 y4 hql HW0
  go_wp2_with fail
  refine bodyPost_ret (results_tok (p := 4) (u := 5) rfl _ _ (W.heap.size + 1) _ rfl HQ2.out rfl) rfl ?_
  exact ⟨_, rfl, HA2.out, HB2.out⟩
theorem index_in (l : List UInt8) (c : UInt8) : decide (0 ≤ Lib.indexByte l c) = l.contains c := by
  induction l with
  | nil => rfl
  | cons b l ih =>
    have hg := Lib.indexByte_ge l c
    rw [List.contains_cons, ← ih, Lib.indexByte]
    by_cases h : b = c
    · subst h
      simp
    · have h1 : (b == c) = false := by simpa using h
      have h2 : (c == b) = false := by simpa using fun e => h e.symm
      rw [h1, h2]
      by_cases h3 : Lib.indexByte l c = -1
      · rw [h3]; rfl
      · have h4 : (Lib.indexByte l c == -1) = false := by simpa using h3
        rw [h4, Bool.eq_iff_iff]
        simp
        omega
theorem inW_of (c : UInt8) : (!(c == 32 || c == 9 || c == 10) && decide (Lib.indexByte [59, 38, 124, 40, 41, 123, 125, 60, 62, 94, 61, 33, 36, 96, 39, 35] c < 0)) = inW c := by
  unfold inW
  rw [← index_in]
  congr 1
  rw [Bool.eq_iff_iff]
  simp
set_option maxRecDepth 100000 in
set_option maxHeartbeats 2000000 in
theorem inWord_any {W : World} {b sb k : Nat} {s : ByteArray} (h : Rd W b sb s k) :
    Calls Tryd.prog 58 #[.pointer (some ⟨b, 0, none⟩)] W fun e w' => e = .returned (.bool ((s.data.toList[k]?).any inW)) ∧ ∃ m, w' = W.drewN m := by
  have c0 := h.c0
  have c1 := h.c1
  have HB : Hid (∀ m, Calls Tryd.prog 43 #[.pointer (some ⟨sb, 0, none⟩), .int .i64 (k : Nat)] (W.drewN m) fun e w' => e = .returned (.tuple (byteV s.data.toList[k]?)) ∧ w' = W.drewN m) := fun m => byte_any sb s k (W.drewN m) h.t0
  have HBL : Hid (∀ (c : UInt8) (w : World), Calls Tryd.prog 68 #[.int .u8 (c.toNat : Nat)] w fun e w' => e = .returned (.bool (c == 32 || c == 9 || c == 10)) ∧ w' = w) := blank_any
  have HIX : Hid (∀ (c : UInt8) (w : World), Calls Tryd.prog 69 #[.string ⟨#[59, 38, 124, 40, 41, 123, 125, 60, 62, 94, 61, 33, 36, 96, 39, 35]⟩, .int .u8 (c.toNat : Nat)] w fun e w' => e = .returned (.int .i64 (Lib.indexByte [59, 38, 124, 40, 41, 123, 125, 60, 62, 94, 61, 33, 36, 96, 39, 35] c)) ∧ w' = w) := fun c w => by
    have := Tryd.strings_IndexByte ⟨#[59, 38, 124, 40, 41, 123, 125, 60, 62, 94, 61, 33, 36, 96, 39, 35]⟩ (c.toNat : Nat) w
    rwa [show ((c.toNat : Nat) : Int).toNat.toUInt8 = c by simp] at this
  clear h
  cases ho : s.data.toList[k]? with
  | none =>
    rw [ho, byteV_none] at HB
    clear ho
    go_enter Tryd.func58, Tryd.ntmps58
    go_wp2_with fail
    go_quiet (first | (go_at_call 43; exact Calls.quiet_of_same (HB.out _)))
    go_wp2_with fail
    go_ret
    exact ⟨rfl, _, rfl⟩
  | some c =>
    rw [ho, byteV_some] at HB
    clear ho
    have HE : Hid _ := inW_of c
    cases hbl : (c == 32 || c == 9 || c == 10) with
    | true =>
      have HBL1 : Hid (∀ w : World, Calls Tryd.prog 68 #[.int .u8 (c.toNat : Nat)] w fun e w' => e = .returned (.bool true) ∧ w' = w) := fun w => by have := HBL.out c w; rwa [hbl] at this
      have HE2 : Hid (inW c = false) := by unfold Hid; rw [← HE.out, hbl]; rfl
      clear hbl HE
      go_enter Tryd.func58, Tryd.ntmps58
      go_wp2_with fail
      go_quiet (first | (go_at_call 43; exact Calls.quiet_of_same (HB.out _)))
      obtain ⟨W1, hW1⟩ : ∃ W1, W1 = W.drewN nq := ⟨_, rfl⟩
      have HW1 : Hid (W1 = W.drewN nq) := hW1
      rw [← hW1]
      clear hW1
      go_wp2_with fail
      refine Calls.mono (HBL1.out W1) ?_
      rintro e w1 ⟨rfl, hw⟩
      obtain rfl := hw.symm
      clear hw
      go_wp2_with fail
      go_ret
      exact ⟨ret_bool (by rw [Option.any_some, HE2.out]), _, HW1.out⟩
    | false =>
      have HBL1 : Hid (∀ w : World, Calls Tryd.prog 68 #[.int .u8 (c.toNat : Nat)] w fun e w' => e = .returned (.bool false) ∧ w' = w) := fun w => by have := HBL.out c w; rwa [hbl] at this
      have HE2 : Hid (inW c = decide (Lib.indexByte [59, 38, 124, 40, 41, 123, 125, 60, 62, 94, 61, 33, 36, 96, 39, 35] c < 0)) := by unfold Hid; rw [← HE.out, hbl]; rfl
      have HIX1 : Hid _ := HIX.out c
      clear hbl HE
      generalize Lib.indexByte [59, 38, 124, 40, 41, 123, 125, 60, 62, 94, 61, 33, 36, 96, 39, 35] c = ix at HIX1 HE2
      go_enter Tryd.func58, Tryd.ntmps58
      go_wp2_with fail
      go_quiet (first | (go_at_call 43; exact Calls.quiet_of_same (HB.out _)))
      obtain ⟨W1, hW1⟩ : ∃ W1, W1 = W.drewN nq := ⟨_, rfl⟩
      have HW1 : Hid (W1 = W.drewN nq) := hW1
      rw [← hW1]
      clear hW1
      go_wp2_with fail
      refine Calls.mono (HBL1.out W1) ?_
      rintro e w1 ⟨rfl, hw⟩
      obtain rfl := hw.symm
      clear hw
      go_wp2_with fail
      refine Calls.mono (HIX1.out W1) ?_
      rintro e w1 ⟨rfl, hw⟩
      obtain rfl := hw.symm
      clear hw
      go_wp2_with fail
      go_ret
      exact ⟨ret_bool (by rw [Option.any_some, HE2.out]), _, HW1.out⟩
theorem tw_take {q : UInt8 → Bool} (l : List UInt8) (j : Nat) (h : (l.take j).all q = true) (h2 : ∀ c, l[j]? = some c → q c = false) (hj : j ≤ l.length) : l.takeWhile q = l.take j ∧ l.dropWhile q = l.drop j := by
  induction l generalizing j with
  | nil => obtain rfl : j = 0 := by simpa using hj
           exact ⟨rfl, rfl⟩
  | cons c t ih =>
    cases j with
    | zero =>
      have hc := h2 c rfl
      rw [List.takeWhile_cons, List.dropWhile_cons, hc]
      exact ⟨rfl, rfl⟩
    | succ j =>
      rw [List.take_succ_cons, List.all_cons, Bool.and_eq_true] at h
      obtain ⟨i1, i2⟩ := ih j h.2 (fun d hd => h2 d (by simpa using hd)) (by simpa using hj)
      rw [List.takeWhile_cons, List.dropWhile_cons, h.1]
      simp [i1, i2]
set_option maxRecDepth 100000 in
set_option maxHeartbeats 4000000 in
theorem word_any {W : World} {b sb p : Nat} {s : ByteArray} (h : Rd W b sb s p) (g : Bool) (hs : s.size < 1099511627776) (hp : p ≤ s.size) :
    Calls Tryd.prog 47 #[.pointer (some ⟨b, 0, none⟩), .agg (tbC ⟨0, p, 0, [], g⟩).toArray] W fun e w' => e = .returned (.agg (tbC ⟨18, p, 0, (s.data.toList.drop p).takeWhile inW, g⟩).toArray) ∧ ∃ j, Stp W b sb s j w' ∧ j ≤ s.size ∧ (s.data.toList.drop p).dropWhile inW = s.data.toList.drop j := by
  have hlb := h.rd.lt
  have hlsb := h.src.lt
  obtain ⟨W0, hW0⟩ : ∃ W0, W0 = (W.alloc (.cells (tbC ⟨0, p, 0, [], g⟩).toArray 40)).alloc (.cells zT 40) := ⟨_, rfl⟩
  have HS0 : Hid (Stp W b sb s p W0) := by rw [hW0]; exact ((Stp.refl h).alloc _).alloc _
  have HT0 : Hid (Cel W0 W.heap.size 40 (tbC ⟨0, p, 0, [], g⟩).toArray) := by rw [hW0]; exact (Cel.new W _ _).below (below_new _ _) (by simp)
  have HQ0 : Hid (Cel W0 (W.heap.size + 1) 40 zT) := by rw [hW0]; exact Cel.new2 W _ _ _
  have HW0 : Hid ((W.alloc (.cells (tbC ⟨0, p, 0, [], g⟩).toArray 40)).alloc (.cells zT 40) = W0) := hW0.symm
  clear h hW0
  go_enter Tryd.func47, Tryd.ntmps47
  go_wp2_with fail
  rw [HW0.out]
  go_loopw [] (fun wr => ∃ j : Nat, p ≤ j ∧ j ≤ s.size ∧ Hid (((s.data.toList.drop p).take (j - p)).all inW = true) ∧ Hid (Stp W b sb s j wr) ∧ Hid (Cel wr W.heap.size 40 (tbC ⟨0, p, 0, [], g⟩).toArray) ∧ Hid (Cel wr (W.heap.size + 1) 40 zT)) (fun wr => s.size + 1 - posOf wr b)
  case atStart => exact ⟨p, Nat.le_refl _, hp, by simp [Hid], HS0.out, HT0.out, HQ0.out⟩
  case round =>
    obtain ⟨j, hpj, hj, HA, HS, HT, HQ⟩ := hrel
    clear HS0 HT0 HQ0 HW0
    have HPO : Hid (posOf wr b = j) := HS.out.at_.pos
    have HI : Hid _ := inWord_any HS.out.at_
    have hln := len_drop s p
    cases hiw : (s.data.toList[j]?).any inW with
    | true =>
      rw [hiw] at HI
      obtain ⟨c, hc, hcw⟩ : ∃ c, s.data.toList[j]? = some c ∧ inW c = true := by
        cases ho : s.data.toList[j]? with
        | none => rw [ho] at hiw; cases hiw
        | some c => rw [ho] at hiw; exact ⟨c, rfl, hiw⟩
      have hlt : j < s.size := by simpa using (List.getElem?_eq_some_iff.1 hc).1
      have HA2 : Hid (((s.data.toList.drop p).take (j + 1 - p)).all inW = true) := by
        unfold Hid
        rw [show j + 1 - p = (j - p) + 1 by omega, List.take_add_one, List.getElem?_drop, show p + (j - p) = j by omega, hc, List.all_append, HA.out]
        simp [hcw]
      clear hiw hc hcw HA
      go_wp2_with fail
      refine Calls.mono HI.out ?_
      rintro e w1 ⟨rfl, m, hw1⟩
      have HS1 : Hid (Stp W b sb s j w1) := by rw [hw1]; exact HS.out.drewN m
      have HT1 : Hid (Cel w1 W.heap.size 40 (tbC ⟨0, p, 0, [], g⟩).toArray) := by rw [hw1]; exact HT.out
      have HQ1 : Hid (Cel w1 (W.heap.size + 1) 40 zT) := by rw [hw1]; exact HQ.out
      have d1 := HS1.out.at_.c1
      have e1 := HS1.out.at_.f1
      clear hw1 HS HT HQ HI
      go_wp2_with fail
      have HS2 := set_step HS1.out ((j : Int) + 1) (j + 1) (by omega)
      refine ⟨⟨j + 1, by omega, by omega, HA2.out, HS2, HT1.out.other (by omega) _, HQ1.out.other (by omega) _⟩, ?_⟩
      rw [HS2.at_.pos, HPO.out]
      omega
    | false =>
      rw [hiw] at HI
      have htw := tw_take (q := inW) (s.data.toList.drop p) (j - p) HA.out (fun c hc => by
        rw [List.getElem?_drop, show p + (j - p) = j by omega] at hc
        rw [hc] at hiw
        exact hiw) (by rw [hln]; omega)
      rw [List.drop_drop, show p + (j - p) = j by omega] at htw
      have HTW : Hid ((s.data.toList.drop p).takeWhile inW = (s.extract p j).data.toList) := by
        unfold Hid
        rw [htw.1, Lib.extract_eq]
      have HDW : Hid ((s.data.toList.drop p).dropWhile inW = s.data.toList.drop j) := htw.2
      clear hiw htw HA HPO
      go_wp2_with fail
      refine Calls.mono HI.out ?_
      rintro e w1 ⟨rfl, m, hw1⟩
      have HS1 : Hid (Stp W b sb s j w1) := by rw [hw1]; exact HS.out.drewN m
      have HT1 : Hid (Cel w1 W.heap.size 40 (tbC ⟨0, p, 0, [], g⟩).toArray) := by rw [hw1]; exact HT.out
      have HQ1 : Hid (Cel w1 (W.heap.size + 1) 40 zT) := by rw [hw1]; exact HQ.out
      clear hw1 HS HT HQ HI
      have d0 := HS1.out.at_.c0
      have d1 := HS1.out.at_.c1
      have t0 := HS1.out.at_.t0
      have u0 : w1.cell? ⟨W.heap.size, 0, none⟩ = some (.int .i64 0) := HT1.out.cell 0
      have u1 : w1.cell? ⟨W.heap.size, 1, none⟩ = some (.int .i64 (p : Nat)) := HT1.out.cell 1
      have u2 : w1.cell? ⟨W.heap.size, 2, none⟩ = some (.int .i64 0) := HT1.out.cell 2
      have u3 : w1.cell? ⟨W.heap.size, 3, none⟩ = some (.string ⟨#[]⟩) := HT1.out.cell 3
      have u4 : w1.cell? ⟨W.heap.size, 4, none⟩ = some (.bool g) := HT1.out.cell 4
      have x0 := HT1.out.frozen 0
      have x3 := HT1.out.frozen 3
      have HSL : Hid (Calls Tryd.prog 56 #[.pointer (some ⟨sb, 0, none⟩), .int .i64 (p : Nat), .int .i64 (j : Nat)] w1.drew fun e w' => e = .returned (.string (s.extract p j)) ∧ w' = w1.drew) := slice_any sb s p j w1.drew t0 (by omega) (by omega)
      have HK1 : Hid ((w1.setCell ⟨W.heap.size, 0, none⟩ (.int .i64 18)).drew.cell? ⟨W.heap.size, 1, none⟩ = some (.int .i64 (p : Nat))) := (HT1.out.set (j := 0) (.int .i64 18)).cell 1
      have HK2 : Hid (((w1.setCell ⟨W.heap.size, 0, none⟩ (.int .i64 18)).setCell ⟨W.heap.size, 3, none⟩ (.string (s.extract p j))).drew.cell? ⟨W.heap.size, 1, none⟩ = some (.int .i64 (p : Nat))) := ((HT1.out.set (j := 0) (.int .i64 18)).set (j := 3) (.string (s.extract p j))).cell 1
      have hbn : ¬ b = W.heap.size := by omega
      have hnb : ¬ W.heap.size = b := by omega
      have hsn : ¬ sb = W.heap.size := by omega
      have hns : ¬ W.heap.size = sb := by omega
      go_wp2_with fail
      go_region_held3 (fun w' => w'.cell? ⟨b, 0, none⟩ = some (.pointer (some ⟨sb, 0, none⟩)) ∧ w'.cell? ⟨b, 1, none⟩ = some (.int .i64 (j : Nat)) ∧ w'.cell? ⟨W.heap.size, 1, none⟩ = some (.int .i64 (p : Nat))) (refine ⟨?_, ?_, ?_⟩ <;> first | with_reducible exact HK1.out | with_reducible exact HK2.out | (go_keep; done)) (first | (go_at_call 56; refine Calls.mono HSL.out ?_; rintro e w2 ⟨rfl, rfl⟩))
      obtain ⟨X, hX⟩ : ∃ X, X = ((w1.setCell ⟨W.heap.size, 0, none⟩ (.int .i64 18)).setCell ⟨W.heap.size, 3, none⟩ (.string (s.extract p j))).drew := ⟨_, rfl⟩
      have HSX : Hid (Stp W b sb s j X) := by rw [hX]; exact ((HS1.out.other hlb hlsb (Nat.le_refl _) 0 _).other hlb hlsb (Nat.le_refl _) 3 _).drew
      have HTX : Hid (Cel X W.heap.size 40 #[.int .i64 18, .int .i64 (p : Nat), .int .i64 0, .string (s.extract p j), .bool g]) := by rw [hX]; exact Cel.drew ((HT1.out.set (j := 0) (.int .i64 18)).set (j := 3) (.string (s.extract p j)))
      have HQX : Hid (Cel X (W.heap.size + 1) 40 zT) := by rw [hX]; exact Cel.drew ((HQ1.out.other (by omega) _).other (by omega) _)
      rw [← hX]
      clear hX HS1 HT1 HQ1 d0 d1 t0 u0 u1 u2 u3 u4 x0 x3 HSL HK1 HK2
      have v0 : X.cell? ⟨W.heap.size, 0, none⟩ = some (.int .i64 18) := HTX.out.cell 0
      have v1 : X.cell? ⟨W.heap.size, 1, none⟩ = some (.int .i64 (p : Nat)) := HTX.out.cell 1
      have v2 : X.cell? ⟨W.heap.size, 2, none⟩ = some (.int .i64 0) := HTX.out.cell 2
      have v3 : X.cell? ⟨W.heap.size, 3, none⟩ = some (.string (s.extract p j)) := HTX.out.cell 3
      have v4 : X.cell? ⟨W.heap.size, 4, none⟩ = some (.bool g) := HTX.out.cell 4
      have z0 : X.cell? ⟨W.heap.size + 1, 0, none⟩ = some (.int .i64 0) := HQX.out.cell 0
      have z1 : X.cell? ⟨W.heap.size + 1, 1, none⟩ = some (.int .i64 0) := HQX.out.cell 1
      have z2 : X.cell? ⟨W.heap.size + 1, 2, none⟩ = some (.int .i64 0) := HQX.out.cell 2
      have z3 : X.cell? ⟨W.heap.size + 1, 3, none⟩ = some (.string ⟨#[]⟩) := HQX.out.cell 3
      have z4 : X.cell? ⟨W.heap.size + 1, 4, none⟩ = some (.bool false) := HQX.out.cell 4
      have zf0 := HQX.out.frozen 0
      have zf1 := HQX.out.frozen 1
      have zf2 := HQX.out.frozen 2
      have zf3 := HQX.out.frozen 3
      have zf4 := HQX.out.frozen 4
      go_wp2_with fail
      refine bodyPost_ret (results_one (p := 4) rfl _ _ (W.heap.size + 1) _ rfl (HQX.out.put5 (.int .i64 18) (.int .i64 (p : Nat)) (.int .i64 0) (.string (s.extract p j)) (.bool g)) rfl) rfl ?_
      refine ⟨?_, j, HSX.out.put5 hlb hlsb (by omega) _ _ _ _ _, hj, HDW.out⟩
      rw [HTW.out]
      rfl
end Go.Proofs.YtddekcohfbnmbaaDoor
