/- A node ahead of its children, read. -/
import Derived.Test.YtaildeglikhkaaaGreatDoorNum
import Derived.Test.YtaildeglikhkaaaGreatDoorKindAll
import Derived.Test.YtaildeglikhkaaaGreatDoorUnquote
namespace Go.Proofs.YtaildeglikhkaaaGreatDoor
open Go.RowKit
attribute [local go_sem] Oper.semAt_some

theorem kindR_none : kindR none = #[.int .i64 0, .bool false] := rfl
theorem kindR_some (v : Nat) : kindR (some v) = #[.int .i64 (v : Nat), .bool true] := rfl
theorem kdG_le (m : List UInt8) : ∀ (l : List (List UInt8)) (i n : Nat), n ≤ m.length → (kdG m l i n).2 ≤ m.length
  | [], _, _, h => h
  | a :: l, i, n, h => by
    have := (shareN_le a m).2
    unfold kdG
    split
    · exact this
    · exact kdG_le m l (i + 1) _ (by omega)
theorem kdR_le (s : ByteArray) (k : Nat) (h : k ≤ s.size) : (kdR s k).2 ≤ s.size := by
  have := kdG_le (s.data.toList.drop k) kindL 0 0 (Nat.zero_le _)
  rw [List.length_drop] at this
  have hl : s.data.toList.length = s.size := by simp
  unfold kdR
  simp only
  omega
theorem size50 : (Tryz.prog.info? 50).map (·.size) = some 5 := by kernel_rfl
theorem Gone.other {W X : World} {b b' j : Nat} {t : TypeId} {s : ByteArray} {k : Nat} {r : List Value} (h : Gone W b t s k r X) (hb : b < W.heap.size) (hb' : W.heap.size ≤ b') (v : Value) : Gone W b t s k r (X.setCell ⟨b', j, none⟩ v) :=
  h.below hb ((Below.refl _ X).setCell (p := ⟨b', j, none⟩) hb' v)
theorem Gone.new {W X : World} {b : Nat} {t : TypeId} {s : ByteArray} {k : Nat} {r : List Value} (h : Gone W b t s k r X) (o : Obj) : Gone W b t s k r (X.alloc o) :=
  ⟨Cel.alloc h.at_ o, h.turn.alloc o⟩
/-- A node's five cells, written. -/
def put5 (X : World) (g : Nat) (v0 v1 v2 v3 v4 : Value) : World := ((((X.setCell ⟨g, 0, none⟩ v0).setCell ⟨g, 1, none⟩ v1).setCell ⟨g, 2, none⟩ v2).setCell ⟨g, 3, none⟩ v3).setCell ⟨g, 4, none⟩ v4
theorem Cel.put5 {X : World} {g : Nat} {t : TypeId} {u0 u1 u2 u3 u4 : Value} (h : Cel X g t #[u0, u1, u2, u3, u4]) (v0 v1 v2 v3 v4 : Value) : Cel (put5 X g v0 v1 v2 v3 v4) g t #[v0, v1, v2, v3, v4] :=
  ((((h.set (j := 0) v0).set (j := 1) v1).set (j := 2) v2).set (j := 3) v3).set (j := 4) v4
theorem Gone.put5 {W X : World} {b g : Nat} {t : TypeId} {s : ByteArray} {k : Nat} {r : List Value} (h : Gone W b t s k r X) (hb : b < W.heap.size) (hg : W.heap.size ≤ g) (v0 v1 v2 v3 v4 : Value) : Gone W b t s k r (put5 X g v0 v1 v2 v3 v4) :=
  ((((h.other hb hg v0).other hb hg v1).other hb hg v2).other hb hg v3).other hb hg v4
theorem results_node {fn : Func} {p u : Tmp} (h : fn.results = #[.cell p 50, .tmp u]) (tmps : Array Value) (w : World) (g : Nat) (cs : Array Value) (hp : tmps.getD p undef = .pointer (some ⟨g, 0, none⟩)) (hc : Cel w g 50 cs) (hz : cs.size = 5) :
    (results fn tmps).run Tryz.prog w = .ok (.tuple #[.agg cs, tmps.getD u undef]) w := by
  rw [results_cell_tmp h, hp]
  simp only [asAddr, Sem.run_pure, Result.andThen]
  rw [run_loadVar_row w g 50 50 cs (0, 0) _ hc Tryz.underlying50 rfl (by rw [hz]; exact size50)]
/-- A node ahead of its children, and where the reader stands behind it. -/
def noS (s : ByteArray) (kd : Nat) (n : Nat) (j : Nat) : Option Nd × Nat :=
  if strK kd then (if s.data.toList[j]? = some 32 then ((quR s (j + 1)).1.map (fun l => ⟨kd, n, 0, 0, l⟩), (quR s (j + 1)).2) else (none, j)) else (some ⟨kd, n, 0, 0, []⟩, j)
def noR (s : ByteArray) (k : Nat) : Option Nd × Nat := match (kdR s k).1 with
  | none => (none, (kdR s k).2)
  | some kd => noS s kd (nuR s (kdR s k).2).1 (nuR s (kdR s k).2).2
set_option maxHeartbeats 2000000 in
theorem node_none {W : World} {b : Nat} {t : TypeId} {s : ByteArray} {k : Nat} {r : List Value} (h : PlC W b t s k r) (hk0 : KnAt W) (hs : s.size < 8796093022208) (hk : k ≤ s.size) (ho : (kdR s k).1 = none) :
    Calls Tryz.prog 83 #[.pointer (some ⟨b, 0, none⟩)] W fun e w' => ∃ cs : Array Value, e = .returned (.tuple #[.agg cs, .bool (noR s k).1.isSome]) ∧ ((∃ m : Nd, cs = (ndC m).toArray) ∧ ∀ n, (noR s k).1 = some n → cs = (ndC n).toArray) ∧ Gone W b t s (noR s k).2 r w' := by
  have HR : Hid (noR s k = (none, (kdR s k).2)) := by unfold Hid noR; rw [ho]
  have hbl := h.at.lt
  have HG0 : Hid (Gone W b t s k r (W.alloc (.cells #[.int .i64 0, .int .i64 0, .int .i64 0, .int .i64 0, .string ⟨#[]⟩] 50))) := (Gone.refl h).new _
  have HC0 : Hid (Cel (W.alloc (.cells #[.int .i64 0, .int .i64 0, .int .i64 0, .int .i64 0, .string ⟨#[]⟩] 50)) W.heap.size 50 #[.int .i64 0, .int .i64 0, .int .i64 0, .int .i64 0, .string ⟨#[]⟩]) := Cel.new W 50 _
  have HK : Hid (KnAt (W.alloc (.cells #[.int .i64 0, .int .i64 0, .int .i64 0, .int .i64 0, .string ⟨#[]⟩] 50))) := KnAt.alloc hk0 _
  rw [HR.out]
  clear h hk0
  go_enter Tryz.func83, Tryz.ntmps83
  go_wp2_with fail
  generalize (W.alloc (.cells #[.int .i64 0, .int .i64 0, .int .i64 0, .int .i64 0, .string ⟨#[]⟩] 50)) = W0 at HG0 HC0 HK ⊢
  have HD : Hid (Calls Tryz.prog 94 #[.pointer (some ⟨b, 0, none⟩)] W0 fun e w' => e = .returned (.tuple #[.int .i64 0, .bool false]) ∧ Gone W0 b t s (kdR s k).2 r w') := by
    have := kind_any HG0.out.at_ HK.out hs hk
    rw [ho, kindR_none] at this
    exact this
  refine Calls.mono HD.out ?_
  rintro e w1 ⟨rfl, hg1⟩
  have HG1 : Hid (Gone W b t s (kdR s k).2 r w1) := HG0.out.trans hg1
  have hc1 : Cel w1 W.heap.size 50 #[.int .i64 0, .int .i64 0, .int .i64 0, .int .i64 0, .string ⟨#[]⟩] := Cel.turn HC0.out hg1.turn (by omega)
  have HC1 : Hid (Cel w1 W.heap.size 50 #[.int .i64 0, .int .i64 0, .int .i64 0, .int .i64 0, .string ⟨#[]⟩]) := hc1
  have a0 := hc1.cell 0
  have a1 := hc1.cell 1
  have a2 := hc1.cell 2
  have a3 := hc1.cell 3
  have a4 := hc1.cell 4
  have f0 := hc1.frozen 0
  have f1 := hc1.frozen 1
  have f2 := hc1.frozen 2
  have f3 := hc1.frozen 3
  have f4 := hc1.frozen 4
  clear hg1 HD HK HC0 HG0 hc1
  go_wp2_with fail
  refine bodyPost_ret (results_node (p := 2) (u := 3) rfl _ _ W.heap.size _ rfl (HC1.out.put5 _ _ _ _ _) rfl) rfl ?_
  exact ⟨_, rfl, ⟨⟨⟨0, 0, 0, 0, []⟩, rfl⟩, fun _ e => nomatch e⟩, HG1.out.put5 hbl (Nat.le_refl _) _ _ _ _ _⟩
theorem nuR_le (s : ByteArray) (k : Nat) (h : k ≤ s.size) : (nuR s k).2 ≤ s.size := by
  have hrun : ∀ (f q : Nat), q ≤ s.size → q + runN s q f ≤ s.size := by
    intro f
    induction f with
    | zero => intro q hq; exact hq
    | succ f ih =>
      intro q hq
      unfold runN
      split
      · rename_i hc
        have := ih (q + 1) (inB_lt s q _ _ hc)
        omega
      · exact hq
  unfold nuR
  split
  · rename_i hc
    simp only [Bool.and_eq_true] at hc
    have := hrun 8 (k + 1 + 1) (inB_lt s (k + 1) _ _ hc.2)
    simp only [dgN]
    omega
  · exact h
set_option maxHeartbeats 4000000 in
theorem node_some {W : World} {b : Nat} {t : TypeId} {s : ByteArray} {k : Nat} {r : List Value} (h : PlC W b t s k r) (hk0 : KnAt W) (hs : s.size < 8796093022208) (hk : k ≤ s.size) (kd : Nat) (ho : (kdR s k).1 = some kd) :
    Calls Tryz.prog 83 #[.pointer (some ⟨b, 0, none⟩)] W fun e w' => ∃ cs : Array Value, e = .returned (.tuple #[.agg cs, .bool (noR s k).1.isSome]) ∧ ((∃ m : Nd, cs = (ndC m).toArray) ∧ ∀ n, (noR s k).1 = some n → cs = (ndC n).toArray) ∧ Gone W b t s (noR s k).2 r w' := by
  have HR : Hid (noR s k = noS s kd (nuR s (kdR s k).2).1 (nuR s (kdR s k).2).2) := by unfold Hid noR; rw [ho]
  have hbl := h.at.lt
  have hk1 := kdR_le s k hk
  have hk2 := nuR_le s (kdR s k).2 hk1
  have HG0 : Hid (Gone W b t s k r (W.alloc (.cells #[.int .i64 0, .int .i64 0, .int .i64 0, .int .i64 0, .string ⟨#[]⟩] 50))) := (Gone.refl h).new _
  have HC0 : Hid (Cel (W.alloc (.cells #[.int .i64 0, .int .i64 0, .int .i64 0, .int .i64 0, .string ⟨#[]⟩] 50)) W.heap.size 50 #[.int .i64 0, .int .i64 0, .int .i64 0, .int .i64 0, .string ⟨#[]⟩]) := Cel.new W 50 _
  have HK : Hid (KnAt (W.alloc (.cells #[.int .i64 0, .int .i64 0, .int .i64 0, .int .i64 0, .string ⟨#[]⟩] 50))) := KnAt.alloc hk0 _
  have HD : Hid (∀ W0, PlC W0 b t s k r → KnAt W0 → Calls Tryz.prog 94 #[.pointer (some ⟨b, 0, none⟩)] W0 fun e w' => e = .returned (.tuple #[.int .i64 (kd : Nat), .bool true]) ∧ Gone W0 b t s (kdR s k).2 r w') := fun W0 h1 h2 => by
    have := kind_any h1 h2 hs hk
    rw [ho, kindR_some] at this
    exact this
  have HN : Hid (∀ w1, PlC w1 b t s (kdR s k).2 r → Calls Tryz.prog 95 #[.pointer (some ⟨b, 0, none⟩)] w1 fun e w' => e = .returned (.int .i64 ((nuR s (kdR s k).2).1 : Nat)) ∧ Gone w1 b t s (nuR s (kdR s k).2).2 r w') := fun w1 h1 => numberR_any h1 hs hk1
  rw [HR.out]
  clear h hk0 HR ho
  generalize (nuR s (kdR s k).2).1 = nn at HN ⊢
  generalize (nuR s (kdR s k).2).2 = k2 at HN hk2 ⊢
  generalize (kdR s k).2 = k1 at HD HN hk1
  have HH : Hid (∀ w, Calls Tryz.prog 62 #[.int .i64 (kd : Nat)] w fun e w' => e = .returned (.bool (strK kd)) ∧ w' = w) := fun w => hasString_any kd w
  cases hst : strK kd with
  | false =>
    have HS : Hid (noS s kd nn k2 = (some ⟨kd, nn, 0, 0, []⟩, k2)) := by unfold Hid noS; rw [hst]; rfl
    rw [hst] at HH
    rw [HS.out]
    clear hst HS
    go_enter Tryz.func83, Tryz.ntmps83
    go_wp2_with fail
    generalize (W.alloc (.cells #[.int .i64 0, .int .i64 0, .int .i64 0, .int .i64 0, .string ⟨#[]⟩] 50)) = W0 at HG0 HC0 HK ⊢
    refine Calls.mono (HD.out _ HG0.out.at_ HK.out) ?_
    rintro e w1 ⟨rfl, hg1⟩
    have HG1 : Hid (Gone W b t s k1 r w1) := HG0.out.trans hg1
    have HC1 : Hid (Cel w1 W.heap.size 50 #[.int .i64 0, .int .i64 0, .int .i64 0, .int .i64 0, .string ⟨#[]⟩]) := Cel.turn HC0.out hg1.turn (by omega)
    clear hg1 HD HK HC0 HG0
    go_wp2_with fail
    refine Calls.mono (HN.out _ HG1.out.at_) ?_
    rintro e w2 ⟨rfl, hg2⟩
    have HG2 : Hid (Gone W b t s k2 r (w2.alloc (.cells #[.int .i64 (kd : Nat), .int .i64 (nn : Nat), .int .i64 0, .int .i64 0, .string ⟨#[]⟩] 50))) := (HG1.out.trans hg2).new _
    have HC2 : Hid (Cel (w2.alloc (.cells #[.int .i64 (kd : Nat), .int .i64 (nn : Nat), .int .i64 0, .int .i64 0, .string ⟨#[]⟩] 50)) W.heap.size 50 #[.int .i64 0, .int .i64 0, .int .i64 0, .int .i64 0, .string ⟨#[]⟩]) := Cel.alloc (Cel.turn HC1.out hg2.turn (by omega)) _
    have HB2 : Hid (Cel (w2.alloc (.cells #[.int .i64 (kd : Nat), .int .i64 (nn : Nat), .int .i64 0, .int .i64 0, .string ⟨#[]⟩] 50)) w2.heap.size 50 #[.int .i64 (kd : Nat), .int .i64 (nn : Nat), .int .i64 0, .int .i64 0, .string ⟨#[]⟩]) := Cel.new w2 50 _
    have hw2 : W.heap.size < w2.heap.size := Cel.lt (Cel.turn HC1.out hg2.turn (by omega))
    clear hg2 HN HC1 HG1
    go_wp2_with fail
    generalize (w2.alloc (.cells #[.int .i64 (kd : Nat), .int .i64 (nn : Nat), .int .i64 0, .int .i64 0, .string ⟨#[]⟩] 50)) = w3 at HG2 HC2 HB2 ⊢
    refine Calls.mono (HH.out _) ?_
    rintro e w4 ⟨rfl, hw⟩
    have hw' := hw.symm
    subst hw'
    clear hw
    have a0 := HC2.out.cell 0
    have a1 := HC2.out.cell 1
    have a2 := HC2.out.cell 2
    have a3 := HC2.out.cell 3
    have a4 := HC2.out.cell 4
    have f0 := HC2.out.frozen 0
    have f1 := HC2.out.frozen 1
    have f2 := HC2.out.frozen 2
    have f3 := HC2.out.frozen 3
    have f4 := HC2.out.frozen 4
    have b0 := HB2.out.cell 0
    have b1 := HB2.out.cell 1
    have b2 := HB2.out.cell 2
    have b3 := HB2.out.cell 3
    have b4 := HB2.out.cell 4
    go_wp2_with fail
    refine bodyPost_ret (results_node (p := 2) (u := 3) rfl _ _ W.heap.size _ rfl (HC2.out.put5 _ _ _ _ _) rfl) rfl ?_
    exact ⟨_, rfl, ⟨⟨⟨_, _, _, _, _⟩, rfl⟩, fun _ e => by cases e; rfl⟩, HG2.out.put5 hbl (Nat.le_refl _) _ _ _ _ _⟩
  | true =>
    rw [hst] at HH
    have HS0 : Hid (noS s kd nn k2 = (if s.data.toList[k2]? = some 32 then ((quR s (k2 + 1)).1.map (fun l => ⟨kd, nn, 0, 0, l⟩), (quR s (k2 + 1)).2) else (none, k2))) := by unfold Hid noS; rw [hst]; rfl
    rw [HS0.out]
    clear hst HS0
    by_cases h32 : s.data.toList[k2]? = some 32
    · have hk3 : k2 + 1 ≤ s.size := Nat.succ_le_of_lt (by simpa using (List.getElem?_eq_some_iff.1 h32).1)
      have HQ : Hid (∀ w, PlC w b t s (k2 + 1) r → Calls Tryz.prog 25 #[.pointer (some ⟨b, 0, none⟩)] w fun e w' => e = .returned (.tuple (textR (quR s (k2 + 1)).1)) ∧ Gone w b t s (quR s (k2 + 1)).2 r w') := fun w h => quoted_any h hs hk3
      rw [if_pos h32]
      generalize (quR s (k2 + 1)).1 = o at HQ ⊢
      generalize (quR s (k2 + 1)).2 = k3 at HQ ⊢
      cases o with
      | none =>
        rw [textR_none] at HQ
        go_enter Tryz.func83, Tryz.ntmps83
        go_wp2_with fail
        generalize (W.alloc (.cells #[.int .i64 0, .int .i64 0, .int .i64 0, .int .i64 0, .string ⟨#[]⟩] 50)) = W0 at HG0 HC0 HK ⊢
        refine Calls.mono (HD.out _ HG0.out.at_ HK.out) ?_
        rintro e w1 ⟨rfl, hg1⟩
        have HG1 : Hid (Gone W b t s k1 r w1) := HG0.out.trans hg1
        have HC1 : Hid (Cel w1 W.heap.size 50 #[.int .i64 0, .int .i64 0, .int .i64 0, .int .i64 0, .string ⟨#[]⟩]) := Cel.turn HC0.out hg1.turn (by omega)
        clear hg1 HD HK HC0 HG0
        go_wp2_with fail
        refine Calls.mono (HN.out _ HG1.out.at_) ?_
        rintro e w2 ⟨rfl, hg2⟩
        have HG2 : Hid (Gone W b t s k2 r (w2.alloc (.cells #[.int .i64 (kd : Nat), .int .i64 (nn : Nat), .int .i64 0, .int .i64 0, .string ⟨#[]⟩] 50))) := (HG1.out.trans hg2).new _
        have HC2 : Hid (Cel (w2.alloc (.cells #[.int .i64 (kd : Nat), .int .i64 (nn : Nat), .int .i64 0, .int .i64 0, .string ⟨#[]⟩] 50)) W.heap.size 50 #[.int .i64 0, .int .i64 0, .int .i64 0, .int .i64 0, .string ⟨#[]⟩]) := Cel.alloc (Cel.turn HC1.out hg2.turn (by omega)) _
        have HB2 : Hid (Cel (w2.alloc (.cells #[.int .i64 (kd : Nat), .int .i64 (nn : Nat), .int .i64 0, .int .i64 0, .string ⟨#[]⟩] 50)) w2.heap.size 50 #[.int .i64 (kd : Nat), .int .i64 (nn : Nat), .int .i64 0, .int .i64 0, .string ⟨#[]⟩]) := Cel.new w2 50 _
        have hw2 : W.heap.size < w2.heap.size := Cel.lt (Cel.turn HC1.out hg2.turn (by omega))
        clear hg2 HN HC1 HG1
        go_wp2_with fail
        generalize (w2.alloc (.cells #[.int .i64 (kd : Nat), .int .i64 (nn : Nat), .int .i64 0, .int .i64 0, .string ⟨#[]⟩] 50)) = w3 at HG2 HC2 HB2 ⊢
        refine Calls.mono (HH.out _) ?_
        rintro e w4 ⟨rfl, hw⟩
        have hw' := hw.symm
        subst hw'
        clear hw
        go_wp2_with fail
        refine Calls.mono (take_yes HG2.out.at_.at 32 (by omega) h32) ?_
        rintro e w5 ⟨rfl, hw⟩
        have HG5 : Hid (Gone w3 b t s (k2 + 1) r w5) := by unfold Hid; rw [hw]; exact (Gone.refl HG2.out.at_).set (k2 + 1)
        clear hw
        go_wp2_with fail
        refine Calls.mono (HQ.out _ HG5.out.at_) ?_
        rintro e w6 ⟨rfl, hg6⟩
        have HG7 := HG5.out.trans hg6
        have HG6 : Hid (Gone W b t s k3 r w6) := HG2.out.trans HG7
        have HC6 : Hid (Cel w6 W.heap.size 50 #[.int .i64 0, .int .i64 0, .int .i64 0, .int .i64 0, .string ⟨#[]⟩]) := Cel.turn HC2.out HG7.turn (by omega)
        have HB6 : Hid (Cel w6 w2.heap.size 50 #[.int .i64 (kd : Nat), .int .i64 (nn : Nat), .int .i64 0, .int .i64 0, .string ⟨#[]⟩]) := Cel.turn HB2.out HG7.turn (by omega)
        clear hg6 HG7 HG5 HC2 HB2 HG2 HQ
        have a0 := HC6.out.cell 0
        have a1 := HC6.out.cell 1
        have a2 := HC6.out.cell 2
        have a3 := HC6.out.cell 3
        have a4 := HC6.out.cell 4
        have f0 := HC6.out.frozen 0
        have f1 := HC6.out.frozen 1
        have f2 := HC6.out.frozen 2
        have f3 := HC6.out.frozen 3
        have f4 := HC6.out.frozen 4
        have b0 := HB6.out.cell 0
        have b1 := HB6.out.cell 1
        have b2 := HB6.out.cell 2
        have b3 := HB6.out.cell 3
        have b4 := HB6.out.cell 4
        have bf := HB6.out.frozen 4
        go_wp2_with fail
        refine bodyPost_ret (results_node (p := 2) (u := 3) rfl _ _ W.heap.size _ rfl ((HC6.out.other (by omega) _).put5 _ _ _ _ _) rfl) rfl ?_
        exact ⟨_, rfl, ⟨⟨⟨_, _, _, _, []⟩, rfl⟩, fun _ e => by cases e⟩, (HG6.out.other hbl (by omega) _).put5 hbl (Nat.le_refl _) _ _ _ _ _⟩
      | some l =>
        rw [textR_some] at HQ
        go_enter Tryz.func83, Tryz.ntmps83
        go_wp2_with fail
        generalize (W.alloc (.cells #[.int .i64 0, .int .i64 0, .int .i64 0, .int .i64 0, .string ⟨#[]⟩] 50)) = W0 at HG0 HC0 HK ⊢
        refine Calls.mono (HD.out _ HG0.out.at_ HK.out) ?_
        rintro e w1 ⟨rfl, hg1⟩
        have HG1 : Hid (Gone W b t s k1 r w1) := HG0.out.trans hg1
        have HC1 : Hid (Cel w1 W.heap.size 50 #[.int .i64 0, .int .i64 0, .int .i64 0, .int .i64 0, .string ⟨#[]⟩]) := Cel.turn HC0.out hg1.turn (by omega)
        clear hg1 HD HK HC0 HG0
        go_wp2_with fail
        refine Calls.mono (HN.out _ HG1.out.at_) ?_
        rintro e w2 ⟨rfl, hg2⟩
        have HG2 : Hid (Gone W b t s k2 r (w2.alloc (.cells #[.int .i64 (kd : Nat), .int .i64 (nn : Nat), .int .i64 0, .int .i64 0, .string ⟨#[]⟩] 50))) := (HG1.out.trans hg2).new _
        have HC2 : Hid (Cel (w2.alloc (.cells #[.int .i64 (kd : Nat), .int .i64 (nn : Nat), .int .i64 0, .int .i64 0, .string ⟨#[]⟩] 50)) W.heap.size 50 #[.int .i64 0, .int .i64 0, .int .i64 0, .int .i64 0, .string ⟨#[]⟩]) := Cel.alloc (Cel.turn HC1.out hg2.turn (by omega)) _
        have HB2 : Hid (Cel (w2.alloc (.cells #[.int .i64 (kd : Nat), .int .i64 (nn : Nat), .int .i64 0, .int .i64 0, .string ⟨#[]⟩] 50)) w2.heap.size 50 #[.int .i64 (kd : Nat), .int .i64 (nn : Nat), .int .i64 0, .int .i64 0, .string ⟨#[]⟩]) := Cel.new w2 50 _
        have hw2 : W.heap.size < w2.heap.size := Cel.lt (Cel.turn HC1.out hg2.turn (by omega))
        clear hg2 HN HC1 HG1
        go_wp2_with fail
        generalize (w2.alloc (.cells #[.int .i64 (kd : Nat), .int .i64 (nn : Nat), .int .i64 0, .int .i64 0, .string ⟨#[]⟩] 50)) = w3 at HG2 HC2 HB2 ⊢
        refine Calls.mono (HH.out _) ?_
        rintro e w4 ⟨rfl, hw⟩
        have hw' := hw.symm
        subst hw'
        clear hw
        go_wp2_with fail
        refine Calls.mono (take_yes HG2.out.at_.at 32 (by omega) h32) ?_
        rintro e w5 ⟨rfl, hw⟩
        have HG5 : Hid (Gone w3 b t s (k2 + 1) r w5) := by unfold Hid; rw [hw]; exact (Gone.refl HG2.out.at_).set (k2 + 1)
        clear hw
        go_wp2_with fail
        refine Calls.mono (HQ.out _ HG5.out.at_) ?_
        rintro e w6 ⟨rfl, hg6⟩
        have HG7 := HG5.out.trans hg6
        have HG6 : Hid (Gone W b t s k3 r w6) := HG2.out.trans HG7
        have HC6 : Hid (Cel w6 W.heap.size 50 #[.int .i64 0, .int .i64 0, .int .i64 0, .int .i64 0, .string ⟨#[]⟩]) := Cel.turn HC2.out HG7.turn (by omega)
        have HB6 : Hid (Cel w6 w2.heap.size 50 #[.int .i64 (kd : Nat), .int .i64 (nn : Nat), .int .i64 0, .int .i64 0, .string ⟨#[]⟩]) := Cel.turn HB2.out HG7.turn (by omega)
        clear hg6 HG7 HG5 HC2 HB2 HG2 HQ
        have a0 := HC6.out.cell 0
        have a1 := HC6.out.cell 1
        have a2 := HC6.out.cell 2
        have a3 := HC6.out.cell 3
        have a4 := HC6.out.cell 4
        have f0 := HC6.out.frozen 0
        have f1 := HC6.out.frozen 1
        have f2 := HC6.out.frozen 2
        have f3 := HC6.out.frozen 3
        have f4 := HC6.out.frozen 4
        have b0 := HB6.out.cell 0
        have b1 := HB6.out.cell 1
        have b2 := HB6.out.cell 2
        have b3 := HB6.out.cell 3
        have b4 := HB6.out.cell 4
        have bf := HB6.out.frozen 4
        go_wp2_with fail
        refine bodyPost_ret (results_node (p := 2) (u := 3) rfl _ _ W.heap.size _ rfl ((HC6.out.other (by omega) _).put5 _ _ _ _ _) rfl) rfl ?_
        exact ⟨_, rfl, ⟨⟨⟨_, _, _, _, _⟩, rfl⟩, fun _ e => by cases e; rfl⟩, (HG6.out.other hbl (by omega) _).put5 hbl (Nat.le_refl _) _ _ _ _ _⟩
    · rw [if_neg h32]
      go_enter Tryz.func83, Tryz.ntmps83
      go_wp2_with fail
      generalize (W.alloc (.cells #[.int .i64 0, .int .i64 0, .int .i64 0, .int .i64 0, .string ⟨#[]⟩] 50)) = W0 at HG0 HC0 HK ⊢
      refine Calls.mono (HD.out _ HG0.out.at_ HK.out) ?_
      rintro e w1 ⟨rfl, hg1⟩
      have HG1 : Hid (Gone W b t s k1 r w1) := HG0.out.trans hg1
      have HC1 : Hid (Cel w1 W.heap.size 50 #[.int .i64 0, .int .i64 0, .int .i64 0, .int .i64 0, .string ⟨#[]⟩]) := Cel.turn HC0.out hg1.turn (by omega)
      clear hg1 HD HK HC0 HG0
      go_wp2_with fail
      refine Calls.mono (HN.out _ HG1.out.at_) ?_
      rintro e w2 ⟨rfl, hg2⟩
      have HG2 : Hid (Gone W b t s k2 r (w2.alloc (.cells #[.int .i64 (kd : Nat), .int .i64 (nn : Nat), .int .i64 0, .int .i64 0, .string ⟨#[]⟩] 50))) := (HG1.out.trans hg2).new _
      have HC2 : Hid (Cel (w2.alloc (.cells #[.int .i64 (kd : Nat), .int .i64 (nn : Nat), .int .i64 0, .int .i64 0, .string ⟨#[]⟩] 50)) W.heap.size 50 #[.int .i64 0, .int .i64 0, .int .i64 0, .int .i64 0, .string ⟨#[]⟩]) := Cel.alloc (Cel.turn HC1.out hg2.turn (by omega)) _
      have HB2 : Hid (Cel (w2.alloc (.cells #[.int .i64 (kd : Nat), .int .i64 (nn : Nat), .int .i64 0, .int .i64 0, .string ⟨#[]⟩] 50)) w2.heap.size 50 #[.int .i64 (kd : Nat), .int .i64 (nn : Nat), .int .i64 0, .int .i64 0, .string ⟨#[]⟩]) := Cel.new w2 50 _
      have hw2 : W.heap.size < w2.heap.size := Cel.lt (Cel.turn HC1.out hg2.turn (by omega))
      clear hg2 HN HC1 HG1
      go_wp2_with fail
      generalize (w2.alloc (.cells #[.int .i64 (kd : Nat), .int .i64 (nn : Nat), .int .i64 0, .int .i64 0, .string ⟨#[]⟩] 50)) = w3 at HG2 HC2 HB2 ⊢
      refine Calls.mono (HH.out _) ?_
      rintro e w4 ⟨rfl, hw⟩
      have hw' := hw.symm
      subst hw'
      clear hw
      go_wp2_with fail
      refine Calls.mono (take_no HG2.out.at_.at 32 (by omega) hk2 h32) ?_
      rintro e w5 ⟨rfl, hw⟩
      have hw' := hw.symm
      subst hw'
      clear hw
      have a0 := HC2.out.cell 0
      have a1 := HC2.out.cell 1
      have a2 := HC2.out.cell 2
      have a3 := HC2.out.cell 3
      have a4 := HC2.out.cell 4
      have f0 := HC2.out.frozen 0
      have f1 := HC2.out.frozen 1
      have f2 := HC2.out.frozen 2
      have f3 := HC2.out.frozen 3
      have f4 := HC2.out.frozen 4
      go_wp2_with fail
      refine bodyPost_ret (results_node (p := 2) (u := 3) rfl _ _ W.heap.size _ rfl (HC2.out.put5 _ _ _ _ _) rfl) rfl ?_
      exact ⟨_, rfl, ⟨⟨⟨0, 0, 0, 0, []⟩, rfl⟩, fun _ e => nomatch e⟩, HG2.out.put5 hbl (Nat.le_refl _) _ _ _ _ _⟩
theorem node_any {W : World} {b : Nat} {t : TypeId} {s : ByteArray} {k : Nat} {r : List Value} (h : PlC W b t s k r) (hk0 : KnAt W) (hs : s.size < 8796093022208) (hk : k ≤ s.size) :
    Calls Tryz.prog 83 #[.pointer (some ⟨b, 0, none⟩)] W fun e w' => ∃ cs : Array Value, e = .returned (.tuple #[.agg cs, .bool (noR s k).1.isSome]) ∧ ((∃ m : Nd, cs = (ndC m).toArray) ∧ ∀ n, (noR s k).1 = some n → cs = (ndC n).toArray) ∧ Gone W b t s (noR s k).2 r w' := by
  cases ho : (kdR s k).1 with
  | none => exact node_none h hk0 hs hk ho
  | some kd => exact node_some h hk0 hs hk kd ho
end Go.Proofs.YtaildeglikhkaaaGreatDoor
