/- What a pattern is made of. -/
import Derived.Test.YtfafhjglcaikoaaGreatDoorLAmong
namespace Go.Proofs.YtfafhjglcaikoaaGreatDoor
open Go.RowKit Go.Shelf

/-- A piece's cells. -/
def pcC (p : Pc) : List Value := [.bool p.1, wVL p.2 0, wVL p.2 1, wVL p.2 2, wVL p.2 3]
def pcCells (l : List Pc) : List Value := l.flatMap pcC
theorem pcCells_snoc (l : List Pc) (p : Pc) : pcCells (l ++ [p]) = pcCells l ++ pcC p := by simp [pcCells]
theorem info87 : (Tryz.prog.info? 313).map (fun i => (i.zero, i.size, i.bytes)) = some (some (.agg #[.bool false, .int .u64 0, .int .u64 0, .int .u64 0, .int .u64 0]), 5, 40) := by kernel_rfl

theorem pcs_star (L : List Lt) (i : Nat) (x : Lt) (hx : L[i]? = some x) (h : isL x 42 = true) : pcs (L.drop i) = (true, setNo) :: pcs (L.drop (i + 1)) := by
  rw [drop_consL hx, pcs]; simp [h]
theorem pcs_quest (L : List Lt) (i : Nat) (x : Lt) (hx : L[i]? = some x) (h : isL x 42 = false) (h2 : isL x 63 = true) : pcs (L.drop i) = (false, setNot setNo) :: pcs (L.drop (i + 1)) := by
  rw [drop_consL hx, pcs]; simp [h, h2]
theorem pcs_plain (L : List Lt) (i : Nat) (x : Lt) (hx : L[i]? = some x) (h : isL x 42 = false) (h2 : isL x 63 = false) (h3 : (isL x 91 && decide (i + 1 < lastOf L)) = false) : pcs (L.drop i) = (false, setAdd setNo x.1.toNat x.1.toNat) :: pcs (L.drop (i + 1)) := by
  have hc : closeIn x (L.drop (i + 1)) = none := by
    unfold closeIn
    by_cases h4 : isL x 91 = true
    · rw [if_pos h4, List.drop_drop, List.findIdx?_eq_none_iff]
      rw [h4] at h3
      have h5 : ¬ (i + 1 < lastOf L) := by simpa using h3
      rw [last_iff] at h5
      intro y hy
      cases h6 : isL y 93 with
      | false => rfl
      | true => exact absurd (List.any_eq_true.2 ⟨y, hy, h6⟩) h5
    · rw [if_neg h4]
  rw [drop_consL hx, pcs]; simp [h, h2, hc]
theorem pcs_set (L : List Lt) (i : Nat) (x : Lt) (hx : L[i]? = some x) (h : isL x 42 = false) (h2 : isL x 63 = false) (h3 : (isL x 91 && decide (i + 1 < lastOf L)) = true) :
    ∃ k, (L.drop (i + 2)).findIdx? (isL · 93) = some k ∧ i + 2 + k < L.length ∧ pcs (L.drop i) = (false, amongS ((L.drop (i + 1)).take (k + 1))) :: pcs (L.drop (i + 2 + k + 1)) := by
  rw [Bool.and_eq_true, decide_eq_true_eq, last_iff] at h3
  cases hf : (L.drop (i + 2)).findIdx? (isL · 93) with
  | none =>
    rw [List.findIdx?_eq_none_iff] at hf
    obtain ⟨y, hy, hq⟩ := List.any_eq_true.1 h3.2
    rw [hf y hy] at hq
    cases hq
  | some k =>
    have hk := (List.findIdx?_eq_some_iff_getElem.1 hf).1
    simp at hk
    refine ⟨k, rfl, by omega, ?_⟩
    have hc : closeIn x (L.drop (i + 1)) = some k := by
      unfold closeIn
      rw [if_pos h3.1, List.drop_drop]
      exact hf
    rw [drop_consL hx, pcs]
    simp only [h, h2, hc, Bool.false_eq_true, if_false]
    rw [List.drop_drop, show i + 1 + (k + 2) = i + 2 + k + 1 by omega]

theorem zero87 : (#[.bool false, .int .u64 0, .int .u64 0, .int .u64 0, .int .u64 0] : Array Value) = setV [.bool false] setNo := by
  unfold setV wVL
  rw [wordOf_no, wordOf_no, wordOf_no, wordOf_no]
  rfl
theorem set5 {W : World} {b : Nat} {t : TypeId} {m : Value} {g f : Nat → Bool} (h : Cel W b t (setV [m] g)) : Cel ((((W.setCell ⟨b, 1, none⟩ (.int .u64 (wordOf f 0))).setCell ⟨b, 2, none⟩ (.int .u64 (wordOf f 1))).setCell ⟨b, 3, none⟩ (.int .u64 (wordOf f 2))).setCell ⟨b, 4, none⟩ (.int .u64 (wordOf f 3))) b t (setV [m] f) :=
  (((h.set (j := 1) _).set (j := 2) _).set (j := 3) _).set (j := 4) _
theorem LtAt.take {W : World} {g o : Nat} {l : List Lt} (h : LtAt W g o l) (j : Nat) : LtAt W g o (l.take j) := fun k x hx => h k x (by
  by_cases hk : k < j
  · rw [List.getElem?_take_of_lt hk] at hx; exact hx
  · rw [List.getElem?_take_eq_none (by omega)] at hx; cases hx)
theorem among_n (g o n cap : Nat) (l : List Lt) (hn : l.length = n) (hl : l ≠ []) (hlen : l.length < 4294967296) (hcap : l.length ≤ cap) (w : World) (h : LtAt w g o l) :
    Calls Tryz.prog 256 #[.slice (some ⟨g, o, none⟩) n cap] w fun e w' => e = .returned (.agg #[.int .u64 (wordOf (amongS l) 0), .int .u64 (wordOf (amongS l) 1), .int .u64 (wordOf (amongS l) 2), .int .u64 (wordOf (amongS l) 3)]) ∧ Below w.heap.size w w' := by
  subst hn; exact among_any g o cap l hl hlen hcap w h
theorem star_cells : pcC (true, setNo) = [.bool true, .int .u64 0, .int .u64 0, .int .u64 0, .int .u64 0] := by
  unfold pcC wVL
  rw [wordOf_no, wordOf_no, wordOf_no, wordOf_no]
  rfl
theorem sz_set (W : World) (b j : Nat) (v : Value) : (W.setCell ⟨b, j, none⟩ v).heap.size = W.heap.size := by simp
/-- Where the loop stands: what is made so far, and what is left. -/
def PcRel (w : World) (T g _cap : Nat) (lv : Value) (L : List Lt) (v3 v5 : Value) (wr : World) : Prop :=
  ∃ (ps : List Pc) (i : Nat), v5 = .int .i64 i ∧ i ≤ L.length ∧ Hid (pcs L = ps ++ pcs (L.drop i)) ∧ ps.length ≤ i ∧ wr.ownsRow (T + 1) 313 5 v3 ps.length (pcCells ps) ∧
    Cel wr T 316 #[lv, .int .i64 (lastOf L)] ∧ Hid (LtAt wr g 0 L) ∧ Below w.heap.size w wr ∧ T < wr.heap.size

/-- What a round leaves, behind the append. -/
theorem PcRel.next {w W w1 : World} {T g cap : Nat} {lv v v' : Value} {L : List Lt} {ps : List Pc} {p : Pc} {i i' : Nat} {tmp : Obj} (hi : i' ≤ L.length) (hii : i < i') (hp : Hid (pcs L = ps ++ pcs (L.drop i))) (hpp : pcs (L.drop i) = p :: pcs (L.drop i')) (hpl : ps.length ≤ i)
    (ho : W.ownsRow (T + 1) 313 5 v ps.length (pcCells ps)) (hT : Cel W T 316 #[lv, .int .i64 (lastOf L)]) (hL : LtAt W g 0 L) (hb : Below w.heap.size w W) (hg : g < T) (hTw : w.heap.size ≤ T)
    (hown' : w1.ownsRow (T + 1) 313 5 v' (ps.length + 1) (pcCells ps ++ pcC p)) (hgrow : (W.alloc tmp).grownBy w1 v.ownBlock) :
    PcRel w T g cap lv L v' (.int .i64 ((i' : Nat) : Int)) w1 := by
  have hTl := hT.lt
  have hbase : ∀ k, v.ownBlock = some k → T + 1 ≤ k := fun k e => (ho.lt k e).1
  refine ⟨ps ++ [p], i', rfl, hi, ?_, by simp; omega, by rw [pcCells_snoc, List.length_append]; exact hown', (hT.alloc tmp).kept hgrow (hT.not_row (by decide) ho), ?_, (hb.alloc hb.size tmp).grown hgrow (by have := hb.size; simp; omega) (fun k e => by have := hbase k e; omega), ?_⟩
  · unfold Hid
    rw [hp.out, hpp]; simp
  · intro k x hx
    obtain ⟨q1, q2⟩ := hL k x hx
    have hgl := lt_of_cell q1
    have hblk : w1.heap[g]? = W.heap[g]? := (hgrow.block g (by simp; omega) (fun e => by have := hbase g e.symm; omega)).trans (Below.heap_alloc W tmp g hgl)
    exact ⟨(cell_of_block hblk _).trans q1, (cell_of_block hblk _).trans q2⟩
  · have := hgrow.size; simp at this; omega

set_option maxRecDepth 100000 in
set_option maxHeartbeats 8000000 in
theorem pieces_any (s : ByteArray) (hs : s.size < 4294967296) (w : World) :
    Calls Tryz.prog 218 #[.string s] w fun e w' => ∃ v, e = .returned v ∧ w'.ownsRow w.heap.size 313 5 v (pcs (letts s.data.toList)).length (pcCells (pcs (letts s.data.toList))) ∧ Below w.heap.size w w' := by
  obtain ⟨i0, hi0, hz0, hz1, hz2⟩ := info_parts info87
  obtain ⟨L, hL⟩ : ∃ L, letts s.data.toList = L := ⟨_, rfl⟩
  have hLs : L.length < 4294967296 := by rw [← hL]; exact Nat.lt_of_le_of_lt (letts_length_le _) (by simpa using hs)
  have HLE : Hid _ := hL
  rw [hL]
  clear hL
  go_enter Tryz.func218, Tryz.ntmps218
  go_wp2_with (go_at_call 251; refine (read_any s (by omega) _).mono ?_; rintro e w0 ⟨lv, rfl, hrow, hb0⟩; rw [HLE.out] at hrow ⊢; obtain ⟨lad, lcap, rfl⟩ := owns_slice hrow)
  obtain ⟨g, cap, hv1, hv2, hLt, hgb⟩ := LtAt.owned hrow
  have cT := Cel.new w0 316 #[.slice lad L.length lcap, .int .i64 (lastOf L)]
  have hB0 : Below w.heap.size w (w0.alloc (.cells #[.slice lad L.length lcap, .int .i64 (lastOf L)] 316)) := hb0.alloc hb0.size _
  obtain ⟨T, hT⟩ : ∃ T, w0.heap.size = T := ⟨_, rfl⟩
  have hTw : w.heap.size ≤ T := by rw [← hT]; exact hb0.size
  have hLt1 : L ≠ [] → LtAt (w0.alloc (.cells #[.slice lad L.length lcap, .int .i64 (lastOf L)] 316)) g 0 L := fun hne => LtAt.below hLt ((Below.refl w0.heap.size w0).alloc (Nat.le_refl _) _) (hgb hne).1
  have hLt2 : LtAt (w0.alloc (.cells #[.slice lad L.length lcap, .int .i64 (lastOf L)] 316)) g 0 L := by
    by_cases hne : L = []
    · subst hne; intro k x hx; simp at hx
    · exact hLt1 hne
  rw [hT] at cT ⊢
  have hsz : (w0.alloc (.cells #[.slice lad L.length lcap, .int .i64 (lastOf L)] 316)).heap.size = T + 1 := by rw [World.size_alloc, hT]
  have HSZ : Hid _ := hsz
  clear hsz
  go_loopw [3, 5, 6, 7, 8] (fun v3 v5 _ _ _ wr => PcRel w T g cap (.slice lad L.length lcap) L v3 v5 wr) (fun _ v5 _ _ _ _ => L.length - (intOf v5).toNat)
  case atStart => exact ⟨[], 0, rfl, by omega, by simp [Hid], Nat.le_refl _, World.ownsRow_nil _ _ _ _, cT, hLt2, hB0, by rw [HSZ.out]; omega⟩
  case round =>
    obtain ⟨ps, i, rfl, hil, hp, hpl, ho, cT, hLr, hw, hTr⟩ := hrel
    by_cases hlt : i < L.length
    · have hne : L ≠ [] := fun e => by rw [e] at hlt; simp at hlt
      obtain ⟨hva, hcap⟩ := hv1 hne
      obtain ⟨rfl, _, rfl⟩ : lad = some ⟨g, 0, none⟩ ∧ True ∧ lcap = cap := by simp at hva; exact ⟨hva.1, trivial, hva.2⟩
      have hgT : g < T := by rw [← hT]; exact (hgb hne).1
      clear hva hv1 hv2 hLt hgb hLt1 hLt2 hrow
      obtain ⟨x, hx⟩ : ∃ x, L[i]? = some x := ⟨_, List.getElem?_eq_getElem hlt⟩
      obtain ⟨q1, q2⟩ := hLr.out i x hx
      simp only [Nat.zero_add] at q1 q2
      have HX : Hid _ := hx
      clear hx
      have t0 : wr.cell? ⟨T, 0, none⟩ = some (.slice (some ⟨g, 0, none⟩) L.length lcap) := cT.cell 0
      have t1 : wr.cell? ⟨T, 1, none⟩ = some (.int .i64 (lastOf L)) := cT.cell 1
      have hwz := hw.size
      have hgr : g < wr.heap.size := by omega
      have cN1 := (Cel.new wr 313 #[.bool false, .int .u64 0, .int .u64 0, .int .u64 0, .int .u64 0]).alloc (.cells #[.int .u8 x.1.toNat, .bool x.2] 319)
      have cX1 := Cel.new (wr.alloc (.cells #[.bool false, .int .u64 0, .int .u64 0, .int .u64 0, .int .u64 0] 313)) 319 #[.int .u8 x.1.toNat, .bool x.2]
      rw [World.size_alloc] at cX1
      have cT1 := (cT.alloc (.cells #[.bool false, .int .u64 0, .int .u64 0, .int .u64 0, .int .u64 0] 313)).alloc (.cells #[.int .u8 x.1.toNat, .bool x.2] 319)
      have ho1 := (ho.alloc (.cells #[.bool false, .int .u64 0, .int .u64 0, .int .u64 0, .int .u64 0] 313)).alloc (.cells #[.int .u8 x.1.toNat, .bool x.2] 319)
      have hw1 : Below w.heap.size w ((wr.alloc (.cells #[.bool false, .int .u64 0, .int .u64 0, .int .u64 0, .int .u64 0] 313)).alloc (.cells #[.int .u8 x.1.toNat, .bool x.2] 319)) := (hw.alloc hwz _).alloc (by simp; omega) _
      have hL1 : LtAt ((wr.alloc (.cells #[.bool false, .int .u64 0, .int .u64 0, .int .u64 0, .int .u64 0] 313)).alloc (.cells #[.int .u8 x.1.toNat, .bool x.2] 319)) g 0 L := LtAt.below hLr.out (((Below.refl wr.heap.size wr).alloc (Nat.le_refl _) _).alloc (by simp) _) hgr
      have hgl1 : g < ((wr.alloc (.cells #[.bool false, .int .u64 0, .int .u64 0, .int .u64 0, .int .u64 0] 313)).alloc (.cells #[.int .u8 x.1.toNat, .bool x.2] 319)).heap.size := by simp; omega
      have hnw1 : wr.heap.size + 1 + 1 ≤ ((wr.alloc (.cells #[.bool false, .int .u64 0, .int .u64 0, .int .u64 0, .int .u64 0] 313)).alloc (.cells #[.int .u8 x.1.toNat, .bool x.2] 319)).heap.size := by simp
      have hvN : u3.ownBlock ≠ some wr.heap.size := fun e => by have := (ho.lt _ e).2; omega
      cases hq1 : isL x 42
      · cases hq2 : isL x 63
        · cases hq3 : (isL x 91 && decide (i + 1 < lastOf L))
          · go_wp2_with fail
            refine (is_below x 42 42 rfl _).mono ?_
            rintro e w2 ⟨rfl, hb2⟩
            rw [hq1]
            have cN2 := cN1.below hb2 cN1.lt
            have cX2 := cX1.below hb2 cX1.lt
            have cT2 := cT1.below hb2 cT1.lt
            have ho2 := owns_own ho1 (grownBy_of_below hb2) (fun r e => by cases e)
            have hL2 := LtAt.below hL1 hb2 hgl1
            have hw2 := hw1.trans (hb2.mono hw1.size)
            have hgl2 := Nat.lt_of_lt_of_le hgl1 hb2.size
            have hnw2 := Nat.le_trans hnw1 hb2.size
            have n2_0 : w2.cell? ⟨wr.heap.size, 0, none⟩ = some (.bool false) := cN2.cell 0
            have n2_f0 := cN2.frozen 0
            have n2_1 : w2.cell? ⟨wr.heap.size, 1, none⟩ = some (.int .u64 0) := cN2.cell 1
            have n2_f1 := cN2.frozen 1
            have n2_2 : w2.cell? ⟨wr.heap.size, 2, none⟩ = some (.int .u64 0) := cN2.cell 2
            have n2_f2 := cN2.frozen 2
            have n2_3 : w2.cell? ⟨wr.heap.size, 3, none⟩ = some (.int .u64 0) := cN2.cell 3
            have n2_f3 := cN2.frozen 3
            have n2_4 : w2.cell? ⟨wr.heap.size, 4, none⟩ = some (.int .u64 0) := cN2.cell 4
            have n2_f4 := cN2.frozen 4
            have x2_0 : w2.cell? ⟨wr.heap.size + 1, 0, none⟩ = some (.int .u8 x.1.toNat) := cX2.cell 0
            have x2_1 : w2.cell? ⟨wr.heap.size + 1, 1, none⟩ = some (.bool x.2) := cX2.cell 1
            have t2_0 : w2.cell? ⟨T, 0, none⟩ = some (.slice (some ⟨g, 0, none⟩) L.length lcap) := cT2.cell 0
            have t2_1 : w2.cell? ⟨T, 1, none⟩ = some (.int .i64 (lastOf L)) := cT2.cell 1
            go_wp2_with fail
            refine (is_below x 63 63 rfl _).mono ?_
            rintro e w3 ⟨rfl, hb3⟩
            rw [hq2]
            have cN3 := cN2.below hb3 cN2.lt
            have cX3 := cX2.below hb3 cX2.lt
            have cT3 := cT2.below hb3 cT2.lt
            have ho3 := owns_own ho2 (grownBy_of_below hb3) (fun r e => by cases e)
            have hL3 := LtAt.below hL2 hb3 hgl2
            have hw3 := hw2.trans (hb3.mono hw2.size)
            have hgl3 := Nat.lt_of_lt_of_le hgl2 hb3.size
            have hnw3 := Nat.le_trans hnw2 hb3.size
            have n3_0 : w3.cell? ⟨wr.heap.size, 0, none⟩ = some (.bool false) := cN3.cell 0
            have n3_f0 := cN3.frozen 0
            have n3_1 : w3.cell? ⟨wr.heap.size, 1, none⟩ = some (.int .u64 0) := cN3.cell 1
            have n3_f1 := cN3.frozen 1
            have n3_2 : w3.cell? ⟨wr.heap.size, 2, none⟩ = some (.int .u64 0) := cN3.cell 2
            have n3_f2 := cN3.frozen 2
            have n3_3 : w3.cell? ⟨wr.heap.size, 3, none⟩ = some (.int .u64 0) := cN3.cell 3
            have n3_f3 := cN3.frozen 3
            have n3_4 : w3.cell? ⟨wr.heap.size, 4, none⟩ = some (.int .u64 0) := cN3.cell 4
            have n3_f4 := cN3.frozen 4
            have x3_0 : w3.cell? ⟨wr.heap.size + 1, 0, none⟩ = some (.int .u8 x.1.toNat) := cX3.cell 0
            have x3_1 : w3.cell? ⟨wr.heap.size + 1, 1, none⟩ = some (.bool x.2) := cX3.cell 1
            have t3_0 : w3.cell? ⟨T, 0, none⟩ = some (.slice (some ⟨g, 0, none⟩) L.length lcap) := cT3.cell 0
            have t3_1 : w3.cell? ⟨T, 1, none⟩ = some (.int .i64 (lastOf L)) := cT3.cell 1
            go_wp2_with fail
            refine (opens_any g 0 lcap (lastOf L) L i x HX.out _ hL3 (by omega) hcap).mono ?_
            rintro e w4 ⟨rfl, hb4⟩
            rw [hq3]
            have cN4 := cN3.below hb4 cN3.lt
            have cX4 := cX3.below hb4 cX3.lt
            have cT4 := cT3.below hb4 cT3.lt
            have ho4 := owns_own ho3 (grownBy_of_below hb4) (fun r e => by cases e)
            have hL4 := LtAt.below hL3 hb4 hgl3
            have hw4 := hw3.trans (hb4.mono hw3.size)
            have hgl4 := Nat.lt_of_lt_of_le hgl3 hb4.size
            have hnw4 := Nat.le_trans hnw3 hb4.size
            have n4_0 : w4.cell? ⟨wr.heap.size, 0, none⟩ = some (.bool false) := cN4.cell 0
            have n4_f0 := cN4.frozen 0
            have n4_1 : w4.cell? ⟨wr.heap.size, 1, none⟩ = some (.int .u64 0) := cN4.cell 1
            have n4_f1 := cN4.frozen 1
            have n4_2 : w4.cell? ⟨wr.heap.size, 2, none⟩ = some (.int .u64 0) := cN4.cell 2
            have n4_f2 := cN4.frozen 2
            have n4_3 : w4.cell? ⟨wr.heap.size, 3, none⟩ = some (.int .u64 0) := cN4.cell 3
            have n4_f3 := cN4.frozen 3
            have n4_4 : w4.cell? ⟨wr.heap.size, 4, none⟩ = some (.int .u64 0) := cN4.cell 4
            have n4_f4 := cN4.frozen 4
            have x4_0 : w4.cell? ⟨wr.heap.size + 1, 0, none⟩ = some (.int .u8 x.1.toNat) := cX4.cell 0
            have x4_1 : w4.cell? ⟨wr.heap.size + 1, 1, none⟩ = some (.bool x.2) := cX4.cell 1
            have t4_0 : w4.cell? ⟨T, 0, none⟩ = some (.slice (some ⟨g, 0, none⟩) L.length lcap) := cT4.cell 0
            have t4_1 : w4.cell? ⟨T, 1, none⟩ = some (.int .i64 (lastOf L)) := cT4.cell 1
            go_wp2_with fail
            refine (add_any wr.heap.size 313 [.bool false] setNo x.1 x.1 _ (zero87 ▸ cN4)).mono ?_
            rintro e w5 ⟨rfl, cN5, hg5⟩
            have cT5 := cT4.kept hg5 (by intro e; cases e; omega)
            have ho5 := ho4.kept hg5 (.inr hvN)
            have hL5 := LtAt.grown hL4 hg5 (by omega)
            have hw5 := hw4.grown hg5 hw4.size (fun k e => by cases e; exact hwz)
            have hnw5 := Nat.le_trans hnw4 hg5.size
            have n5_0 : w5.cell? ⟨wr.heap.size, 0, none⟩ = some (.bool false) := cN5.cell 0
            have n5_1 : w5.cell? ⟨wr.heap.size, 1, none⟩ = some (.int .u64 (wordOf (setAdd setNo x.1.toNat x.1.toNat) 0)) := cN5.cell 1
            have n5_2 : w5.cell? ⟨wr.heap.size, 2, none⟩ = some (.int .u64 (wordOf (setAdd setNo x.1.toNat x.1.toNat) 1)) := cN5.cell 2
            have n5_3 : w5.cell? ⟨wr.heap.size, 3, none⟩ = some (.int .u64 (wordOf (setAdd setNo x.1.toNat x.1.toNat) 2)) := cN5.cell 3
            have n5_4 : w5.cell? ⟨wr.heap.size, 4, none⟩ = some (.int .u64 (wordOf (setAdd setNo x.1.toNat x.1.toNat) 3)) := cN5.cell 4
            go_wp2_with (at_builtin; refine wpList_append_own _ rfl _ _ 282 rfl (T + 1) 313 i0 (.agg #[.bool false, .int .u64 0, .int .u64 0, .int .u64 0, .int .u64 0]) 5 40 Tryz.underlying282 hi0 hz0 hz1 hz2 rfl (by decide) _ _ _ rfl (ho5.alloc _) ⟨w5.heap.size, 0, none⟩ 1 1 (pcC (false, setAdd setNo x.1.toNat x.1.toNat)) rfl rfl (cells_new _ (pcC (false, setAdd setNo x.1.toNat x.1.toNat)) 313) (by simp [Value.oneCell', pcC, wVL]) (by have := maxLen_big; omega) (by omega) (by simp; omega) ?_; intro v' wz hown' hgrow _)
            exact ⟨PcRel.next (W := w5) (p := (false, setAdd setNo x.1.toNat x.1.toNat)) (i' := i + 1) (by omega) (by omega) hp (pcs_plain L i x HX.out hq1 hq2 hq3) hpl ho5 cT5 hL5 hw5 hgT hTw hown' hgrow, by simp [intOf]; omega⟩
          · obtain ⟨k, hk1, hk2, hk3⟩ := pcs_set L i x HX.out hq1 hq2 hq3
            have HK1 : Hid _ := hk1
            have HK3 : Hid _ := hk3
            clear hk1 hk3
            obtain ⟨F, hF⟩ : ∃ F, amongS ((L.drop (i + 1)).take (k + 1)) = F := ⟨_, rfl⟩
            have HF : Hid _ := hF
            clear hF
            go_wp2_with fail
            refine (is_below x 42 42 rfl _).mono ?_
            rintro e w2 ⟨rfl, hb2⟩
            rw [hq1]
            have cN2 := cN1.below hb2 cN1.lt
            have cX2 := cX1.below hb2 cX1.lt
            have cT2 := cT1.below hb2 cT1.lt
            have ho2 := owns_own ho1 (grownBy_of_below hb2) (fun r e => by cases e)
            have hL2 := LtAt.below hL1 hb2 hgl1
            have hw2 := hw1.trans (hb2.mono hw1.size)
            have hgl2 := Nat.lt_of_lt_of_le hgl1 hb2.size
            have hnw2 := Nat.le_trans hnw1 hb2.size
            have n2_0 : w2.cell? ⟨wr.heap.size, 0, none⟩ = some (.bool false) := cN2.cell 0
            have n2_f0 := cN2.frozen 0
            have n2_1 : w2.cell? ⟨wr.heap.size, 1, none⟩ = some (.int .u64 0) := cN2.cell 1
            have n2_f1 := cN2.frozen 1
            have n2_2 : w2.cell? ⟨wr.heap.size, 2, none⟩ = some (.int .u64 0) := cN2.cell 2
            have n2_f2 := cN2.frozen 2
            have n2_3 : w2.cell? ⟨wr.heap.size, 3, none⟩ = some (.int .u64 0) := cN2.cell 3
            have n2_f3 := cN2.frozen 3
            have n2_4 : w2.cell? ⟨wr.heap.size, 4, none⟩ = some (.int .u64 0) := cN2.cell 4
            have n2_f4 := cN2.frozen 4
            have x2_0 : w2.cell? ⟨wr.heap.size + 1, 0, none⟩ = some (.int .u8 x.1.toNat) := cX2.cell 0
            have x2_1 : w2.cell? ⟨wr.heap.size + 1, 1, none⟩ = some (.bool x.2) := cX2.cell 1
            have t2_0 : w2.cell? ⟨T, 0, none⟩ = some (.slice (some ⟨g, 0, none⟩) L.length lcap) := cT2.cell 0
            have t2_1 : w2.cell? ⟨T, 1, none⟩ = some (.int .i64 (lastOf L)) := cT2.cell 1
            go_wp2_with fail
            refine (is_below x 63 63 rfl _).mono ?_
            rintro e w3 ⟨rfl, hb3⟩
            rw [hq2]
            have cN3 := cN2.below hb3 cN2.lt
            have cX3 := cX2.below hb3 cX2.lt
            have cT3 := cT2.below hb3 cT2.lt
            have ho3 := owns_own ho2 (grownBy_of_below hb3) (fun r e => by cases e)
            have hL3 := LtAt.below hL2 hb3 hgl2
            have hw3 := hw2.trans (hb3.mono hw2.size)
            have hgl3 := Nat.lt_of_lt_of_le hgl2 hb3.size
            have hnw3 := Nat.le_trans hnw2 hb3.size
            have n3_0 : w3.cell? ⟨wr.heap.size, 0, none⟩ = some (.bool false) := cN3.cell 0
            have n3_f0 := cN3.frozen 0
            have n3_1 : w3.cell? ⟨wr.heap.size, 1, none⟩ = some (.int .u64 0) := cN3.cell 1
            have n3_f1 := cN3.frozen 1
            have n3_2 : w3.cell? ⟨wr.heap.size, 2, none⟩ = some (.int .u64 0) := cN3.cell 2
            have n3_f2 := cN3.frozen 2
            have n3_3 : w3.cell? ⟨wr.heap.size, 3, none⟩ = some (.int .u64 0) := cN3.cell 3
            have n3_f3 := cN3.frozen 3
            have n3_4 : w3.cell? ⟨wr.heap.size, 4, none⟩ = some (.int .u64 0) := cN3.cell 4
            have n3_f4 := cN3.frozen 4
            have x3_0 : w3.cell? ⟨wr.heap.size + 1, 0, none⟩ = some (.int .u8 x.1.toNat) := cX3.cell 0
            have x3_1 : w3.cell? ⟨wr.heap.size + 1, 1, none⟩ = some (.bool x.2) := cX3.cell 1
            have t3_0 : w3.cell? ⟨T, 0, none⟩ = some (.slice (some ⟨g, 0, none⟩) L.length lcap) := cT3.cell 0
            have t3_1 : w3.cell? ⟨T, 1, none⟩ = some (.int .i64 (lastOf L)) := cT3.cell 1
            go_wp2_with fail
            refine (opens_any g 0 lcap (lastOf L) L i x HX.out _ hL3 (by omega) hcap).mono ?_
            rintro e w4 ⟨rfl, hb4⟩
            rw [hq3]
            have cN4 := cN3.below hb4 cN3.lt
            have cX4 := cX3.below hb4 cX3.lt
            have cT4 := cT3.below hb4 cT3.lt
            have ho4 := owns_own ho3 (grownBy_of_below hb4) (fun r e => by cases e)
            have hL4 := LtAt.below hL3 hb4 hgl3
            have hw4 := hw3.trans (hb4.mono hw3.size)
            have hgl4 := Nat.lt_of_lt_of_le hgl3 hb4.size
            have hnw4 := Nat.le_trans hnw3 hb4.size
            have n4_0 : w4.cell? ⟨wr.heap.size, 0, none⟩ = some (.bool false) := cN4.cell 0
            have n4_f0 := cN4.frozen 0
            have n4_1 : w4.cell? ⟨wr.heap.size, 1, none⟩ = some (.int .u64 0) := cN4.cell 1
            have n4_f1 := cN4.frozen 1
            have n4_2 : w4.cell? ⟨wr.heap.size, 2, none⟩ = some (.int .u64 0) := cN4.cell 2
            have n4_f2 := cN4.frozen 2
            have n4_3 : w4.cell? ⟨wr.heap.size, 3, none⟩ = some (.int .u64 0) := cN4.cell 3
            have n4_f3 := cN4.frozen 3
            have n4_4 : w4.cell? ⟨wr.heap.size, 4, none⟩ = some (.int .u64 0) := cN4.cell 4
            have n4_f4 := cN4.frozen 4
            have x4_0 : w4.cell? ⟨wr.heap.size + 1, 0, none⟩ = some (.int .u8 x.1.toNat) := cX4.cell 0
            have x4_1 : w4.cell? ⟨wr.heap.size + 1, 1, none⟩ = some (.bool x.2) := cX4.cell 1
            have t4_0 : w4.cell? ⟨T, 0, none⟩ = some (.slice (some ⟨g, 0, none⟩) L.length lcap) := cT4.cell 0
            have t4_1 : w4.cell? ⟨T, 1, none⟩ = some (.int .i64 (lastOf L)) := cT4.cell 1
            go_wp2_with fail
            refine (closing_any g lcap (lastOf L) L i k HK1.out _ hL4 (by omega) hLs hcap hgl4).mono ?_
            rintro e w5 ⟨rfl, hb5⟩
            have cN5 := cN4.below hb5 cN4.lt
            have cX5 := cX4.below hb5 cX4.lt
            have cT5 := cT4.below hb5 cT4.lt
            have ho5 := owns_own ho4 (grownBy_of_below hb5) (fun r e => by cases e)
            have hL5 := LtAt.below hL4 hb5 hgl4
            have hw5 := hw4.trans (hb5.mono hw4.size)
            have hgl5 := Nat.lt_of_lt_of_le hgl4 hb5.size
            have hnw5 := Nat.le_trans hnw4 hb5.size
            have n5_0 : w5.cell? ⟨wr.heap.size, 0, none⟩ = some (.bool false) := cN5.cell 0
            have n5_f0 := cN5.frozen 0
            have n5_1 : w5.cell? ⟨wr.heap.size, 1, none⟩ = some (.int .u64 0) := cN5.cell 1
            have n5_f1 := cN5.frozen 1
            have n5_2 : w5.cell? ⟨wr.heap.size, 2, none⟩ = some (.int .u64 0) := cN5.cell 2
            have n5_f2 := cN5.frozen 2
            have n5_3 : w5.cell? ⟨wr.heap.size, 3, none⟩ = some (.int .u64 0) := cN5.cell 3
            have n5_f3 := cN5.frozen 3
            have n5_4 : w5.cell? ⟨wr.heap.size, 4, none⟩ = some (.int .u64 0) := cN5.cell 4
            have n5_f4 := cN5.frozen 4
            have x5_0 : w5.cell? ⟨wr.heap.size + 1, 0, none⟩ = some (.int .u8 x.1.toNat) := cX5.cell 0
            have x5_1 : w5.cell? ⟨wr.heap.size + 1, 1, none⟩ = some (.bool x.2) := cX5.cell 1
            have t5_0 : w5.cell? ⟨T, 0, none⟩ = some (.slice (some ⟨g, 0, none⟩) L.length lcap) := cT5.cell 0
            have t5_1 : w5.cell? ⟨T, 1, none⟩ = some (.int .i64 (lastOf L)) := cT5.cell 1
            go_wp2_with fail
            refine (among_n g ((i + 1) * 2) _ (lcap - (i + 1)) ((L.drop (i + 1)).take (k + 1)) (by simp; omega) (by intro e; have := congrArg List.length e; simp at this; omega) (by simp; omega) (by simp; omega) _ (by have h := (hL5.drop (i + 1)).take (k + 1); rw [Nat.zero_add] at h; exact h)).mono ?_
            rintro e w6 ⟨rfl, hb6⟩
            rw [HF.out]
            have cN6 := cN5.below hb6 cN5.lt
            have cX6 := cX5.below hb6 cX5.lt
            have cT6 := cT5.below hb6 cT5.lt
            have ho6 := owns_own ho5 (grownBy_of_below hb6) (fun r e => by cases e)
            have hL6 := LtAt.below hL5 hb6 hgl5
            have hw6 := hw5.trans (hb6.mono hw5.size)
            have hgl6 := Nat.lt_of_lt_of_le hgl5 hb6.size
            have hnw6 := Nat.le_trans hnw5 hb6.size
            have n6_0 : w6.cell? ⟨wr.heap.size, 0, none⟩ = some (.bool false) := cN6.cell 0
            have n6_f0 := cN6.frozen 0
            have n6_1 : w6.cell? ⟨wr.heap.size, 1, none⟩ = some (.int .u64 0) := cN6.cell 1
            have n6_f1 := cN6.frozen 1
            have n6_2 : w6.cell? ⟨wr.heap.size, 2, none⟩ = some (.int .u64 0) := cN6.cell 2
            have n6_f2 := cN6.frozen 2
            have n6_3 : w6.cell? ⟨wr.heap.size, 3, none⟩ = some (.int .u64 0) := cN6.cell 3
            have n6_f3 := cN6.frozen 3
            have n6_4 : w6.cell? ⟨wr.heap.size, 4, none⟩ = some (.int .u64 0) := cN6.cell 4
            have n6_f4 := cN6.frozen 4
            have x6_0 : w6.cell? ⟨wr.heap.size + 1, 0, none⟩ = some (.int .u8 x.1.toNat) := cX6.cell 0
            have x6_1 : w6.cell? ⟨wr.heap.size + 1, 1, none⟩ = some (.bool x.2) := cX6.cell 1
            have t6_0 : w6.cell? ⟨T, 0, none⟩ = some (.slice (some ⟨g, 0, none⟩) L.length lcap) := cT6.cell 0
            have t6_1 : w6.cell? ⟨T, 1, none⟩ = some (.int .i64 (lastOf L)) := cT6.cell 1
            have hg7 : w6.grownBy ((((w6.setCell ⟨wr.heap.size, 1, none⟩ (.int .u64 (wordOf F 0))).setCell ⟨wr.heap.size, 2, none⟩ (.int .u64 (wordOf F 1))).setCell ⟨wr.heap.size, 3, none⟩ (.int .u64 (wordOf F 2))).setCell ⟨wr.heap.size, 4, none⟩ (.int .u64 (wordOf F 3))) (some wr.heap.size) := grown_trans (grown_trans (grown_trans (set_grown _ _ _ _) (set_grown _ _ _ _)) (set_grown _ _ _ _)) (set_grown _ _ _ _)
            go_wp2_with (at_builtin; refine wpList_append_own _ rfl _ _ 282 rfl (T + 1) 313 i0 (.agg #[.bool false, .int .u64 0, .int .u64 0, .int .u64 0, .int .u64 0]) 5 40 Tryz.underlying282 hi0 hz0 hz1 hz2 rfl (by decide) _ _ _ rfl ((ho6.kept hg7 (.inr hvN)).alloc _) ⟨w6.heap.size, 0, none⟩ 1 1 (pcC (false, F)) rfl rfl (by have h := cells_new ((((w6.setCell ⟨wr.heap.size, 1, none⟩ (.int .u64 (wordOf F 0))).setCell ⟨wr.heap.size, 2, none⟩ (.int .u64 (wordOf F 1))).setCell ⟨wr.heap.size, 3, none⟩ (.int .u64 (wordOf F 2))).setCell ⟨wr.heap.size, 4, none⟩ (.int .u64 (wordOf F 3))) (pcC (false, F)) 313; rw [sz_set, sz_set, sz_set, sz_set] at h; exact h) (by simp [Value.oneCell', pcC, wVL]) (by have := maxLen_big; omega) (by omega) (by simp; omega) ?_; intro v' wz hown' hgrow _)
            exact ⟨PcRel.next (W := ((((w6.setCell ⟨wr.heap.size, 1, none⟩ (.int .u64 (wordOf F 0))).setCell ⟨wr.heap.size, 2, none⟩ (.int .u64 (wordOf F 1))).setCell ⟨wr.heap.size, 3, none⟩ (.int .u64 (wordOf F 2))).setCell ⟨wr.heap.size, 4, none⟩ (.int .u64 (wordOf F 3)))) (p := (false, F)) (i' := i + 2 + k + 1) (by omega) (by omega) hp (by rw [HK3.out, HF.out]) hpl (ho6.kept hg7 (.inr hvN)) (cT6.kept hg7 (by intro e; cases e; omega)) (LtAt.grown hL6 hg7 (by omega)) (hw6.grown hg7 hw6.size (fun k e => by cases e; exact hwz)) hgT hTw hown' hgrow, by simp [intOf]; omega⟩
        · go_wp2_with fail
          refine (is_below x 42 42 rfl _).mono ?_
          rintro e w2 ⟨rfl, hb2⟩
          rw [hq1]
          have cN2 := cN1.below hb2 cN1.lt
          have cX2 := cX1.below hb2 cX1.lt
          have cT2 := cT1.below hb2 cT1.lt
          have ho2 := owns_own ho1 (grownBy_of_below hb2) (fun r e => by cases e)
          have hL2 := LtAt.below hL1 hb2 hgl1
          have hw2 := hw1.trans (hb2.mono hw1.size)
          have hgl2 := Nat.lt_of_lt_of_le hgl1 hb2.size
          have hnw2 := Nat.le_trans hnw1 hb2.size
          have n2_0 : w2.cell? ⟨wr.heap.size, 0, none⟩ = some (.bool false) := cN2.cell 0
          have n2_f0 := cN2.frozen 0
          have n2_1 : w2.cell? ⟨wr.heap.size, 1, none⟩ = some (.int .u64 0) := cN2.cell 1
          have n2_f1 := cN2.frozen 1
          have n2_2 : w2.cell? ⟨wr.heap.size, 2, none⟩ = some (.int .u64 0) := cN2.cell 2
          have n2_f2 := cN2.frozen 2
          have n2_3 : w2.cell? ⟨wr.heap.size, 3, none⟩ = some (.int .u64 0) := cN2.cell 3
          have n2_f3 := cN2.frozen 3
          have n2_4 : w2.cell? ⟨wr.heap.size, 4, none⟩ = some (.int .u64 0) := cN2.cell 4
          have n2_f4 := cN2.frozen 4
          have x2_0 : w2.cell? ⟨wr.heap.size + 1, 0, none⟩ = some (.int .u8 x.1.toNat) := cX2.cell 0
          have x2_1 : w2.cell? ⟨wr.heap.size + 1, 1, none⟩ = some (.bool x.2) := cX2.cell 1
          have t2_0 : w2.cell? ⟨T, 0, none⟩ = some (.slice (some ⟨g, 0, none⟩) L.length lcap) := cT2.cell 0
          have t2_1 : w2.cell? ⟨T, 1, none⟩ = some (.int .i64 (lastOf L)) := cT2.cell 1
          go_wp2_with fail
          refine (is_below x 63 63 rfl _).mono ?_
          rintro e w3 ⟨rfl, hb3⟩
          rw [hq2]
          have cN3 := cN2.below hb3 cN2.lt
          have cX3 := cX2.below hb3 cX2.lt
          have cT3 := cT2.below hb3 cT2.lt
          have ho3 := owns_own ho2 (grownBy_of_below hb3) (fun r e => by cases e)
          have hL3 := LtAt.below hL2 hb3 hgl2
          have hw3 := hw2.trans (hb3.mono hw2.size)
          have hgl3 := Nat.lt_of_lt_of_le hgl2 hb3.size
          have hnw3 := Nat.le_trans hnw2 hb3.size
          have n3_0 : w3.cell? ⟨wr.heap.size, 0, none⟩ = some (.bool false) := cN3.cell 0
          have n3_f0 := cN3.frozen 0
          have n3_1 : w3.cell? ⟨wr.heap.size, 1, none⟩ = some (.int .u64 0) := cN3.cell 1
          have n3_f1 := cN3.frozen 1
          have n3_2 : w3.cell? ⟨wr.heap.size, 2, none⟩ = some (.int .u64 0) := cN3.cell 2
          have n3_f2 := cN3.frozen 2
          have n3_3 : w3.cell? ⟨wr.heap.size, 3, none⟩ = some (.int .u64 0) := cN3.cell 3
          have n3_f3 := cN3.frozen 3
          have n3_4 : w3.cell? ⟨wr.heap.size, 4, none⟩ = some (.int .u64 0) := cN3.cell 4
          have n3_f4 := cN3.frozen 4
          have x3_0 : w3.cell? ⟨wr.heap.size + 1, 0, none⟩ = some (.int .u8 x.1.toNat) := cX3.cell 0
          have x3_1 : w3.cell? ⟨wr.heap.size + 1, 1, none⟩ = some (.bool x.2) := cX3.cell 1
          have t3_0 : w3.cell? ⟨T, 0, none⟩ = some (.slice (some ⟨g, 0, none⟩) L.length lcap) := cT3.cell 0
          have t3_1 : w3.cell? ⟨T, 1, none⟩ = some (.int .i64 (lastOf L)) := cT3.cell 1
          go_wp2_with fail
          refine (turn_any wr.heap.size 313 [.bool false] setNo _ (zero87 ▸ cN3)).mono ?_
          rintro e w4 ⟨rfl, cN4, hg4⟩
          have cT4 := cT3.kept hg4 (by intro e; cases e; omega)
          have ho4 := ho3.kept hg4 (.inr hvN)
          have hL4 := LtAt.grown hL3 hg4 (by omega)
          have hw4 := hw3.grown hg4 hw3.size (fun k e => by cases e; exact hwz)
          have hnw4 := Nat.le_trans hnw3 hg4.size
          have n4_0 : w4.cell? ⟨wr.heap.size, 0, none⟩ = some (.bool false) := cN4.cell 0
          have n4_1 : w4.cell? ⟨wr.heap.size, 1, none⟩ = some (.int .u64 (wordOf (setNot setNo) 0)) := cN4.cell 1
          have n4_2 : w4.cell? ⟨wr.heap.size, 2, none⟩ = some (.int .u64 (wordOf (setNot setNo) 1)) := cN4.cell 2
          have n4_3 : w4.cell? ⟨wr.heap.size, 3, none⟩ = some (.int .u64 (wordOf (setNot setNo) 2)) := cN4.cell 3
          have n4_4 : w4.cell? ⟨wr.heap.size, 4, none⟩ = some (.int .u64 (wordOf (setNot setNo) 3)) := cN4.cell 4
          go_wp2_with (at_builtin; refine wpList_append_own _ rfl _ _ 282 rfl (T + 1) 313 i0 (.agg #[.bool false, .int .u64 0, .int .u64 0, .int .u64 0, .int .u64 0]) 5 40 Tryz.underlying282 hi0 hz0 hz1 hz2 rfl (by decide) _ _ _ rfl (ho4.alloc _) ⟨w4.heap.size, 0, none⟩ 1 1 (pcC (false, setNot setNo)) rfl rfl (cells_new _ (pcC (false, setNot setNo)) 313) (by simp [Value.oneCell', pcC, wVL]) (by have := maxLen_big; omega) (by omega) (by simp; omega) ?_; intro v' wz hown' hgrow _)
          exact ⟨PcRel.next (W := w4) (p := (false, setNot setNo)) (i' := i + 1) (by omega) (by omega) hp (pcs_quest L i x HX.out hq1 hq2) hpl ho4 cT4 hL4 hw4 hgT hTw hown' hgrow, by simp [intOf]; omega⟩
      · go_wp2_with fail
        refine (is_below x 42 42 rfl _).mono ?_
        rintro e w2 ⟨rfl, hb2⟩
        rw [hq1]
        have cN2 := cN1.below hb2 cN1.lt
        have cX2 := cX1.below hb2 cX1.lt
        have cT2 := cT1.below hb2 cT1.lt
        have ho2 := owns_own ho1 (grownBy_of_below hb2) (fun r e => by cases e)
        have hL2 := LtAt.below hL1 hb2 hgl1
        have hw2 := hw1.trans (hb2.mono hw1.size)
        have hgl2 := Nat.lt_of_lt_of_le hgl1 hb2.size
        have hnw2 := Nat.le_trans hnw1 hb2.size
        have n2_0 : w2.cell? ⟨wr.heap.size, 0, none⟩ = some (.bool false) := cN2.cell 0
        have n2_f0 := cN2.frozen 0
        have n2_1 : w2.cell? ⟨wr.heap.size, 1, none⟩ = some (.int .u64 0) := cN2.cell 1
        have n2_f1 := cN2.frozen 1
        have n2_2 : w2.cell? ⟨wr.heap.size, 2, none⟩ = some (.int .u64 0) := cN2.cell 2
        have n2_f2 := cN2.frozen 2
        have n2_3 : w2.cell? ⟨wr.heap.size, 3, none⟩ = some (.int .u64 0) := cN2.cell 3
        have n2_f3 := cN2.frozen 3
        have n2_4 : w2.cell? ⟨wr.heap.size, 4, none⟩ = some (.int .u64 0) := cN2.cell 4
        have n2_f4 := cN2.frozen 4
        have x2_0 : w2.cell? ⟨wr.heap.size + 1, 0, none⟩ = some (.int .u8 x.1.toNat) := cX2.cell 0
        have x2_1 : w2.cell? ⟨wr.heap.size + 1, 1, none⟩ = some (.bool x.2) := cX2.cell 1
        have t2_0 : w2.cell? ⟨T, 0, none⟩ = some (.slice (some ⟨g, 0, none⟩) L.length lcap) := cT2.cell 0
        have t2_1 : w2.cell? ⟨T, 1, none⟩ = some (.int .i64 (lastOf L)) := cT2.cell 1
        go_wp2_with (at_builtin; refine wpList_append_own _ rfl _ _ 282 rfl (T + 1) 313 i0 (.agg #[.bool false, .int .u64 0, .int .u64 0, .int .u64 0, .int .u64 0]) 5 40 Tryz.underlying282 hi0 hz0 hz1 hz2 rfl (by decide) _ _ _ rfl ((ho2.kept (set_grown w2 wr.heap.size 0 (.bool true)) (.inr hvN)).alloc _) ⟨w2.heap.size, 0, none⟩ 1 1 [.bool true, .int .u64 0, .int .u64 0, .int .u64 0, .int .u64 0] rfl rfl (by have h := cells_new (w2.setCell ⟨wr.heap.size, 0, none⟩ (.bool true)) [.bool true, .int .u64 0, .int .u64 0, .int .u64 0, .int .u64 0] 313; rw [sz_set] at h; exact h) (by simp [Value.oneCell']) (by have := maxLen_big; omega) (by omega) (by simp; omega) ?_; intro v' wz hown' hgrow _)
        exact ⟨PcRel.next (W := (w2.setCell ⟨wr.heap.size, 0, none⟩ (.bool true))) (p := (true, setNo)) (i' := i + 1) (by omega) (by omega) hp (pcs_star L i x HX.out hq1) hpl (ho2.kept (set_grown w2 wr.heap.size 0 (.bool true)) (.inr hvN)) (cT2.other (by omega) _) (LtAt.grown hL2 (set_grown w2 wr.heap.size 0 (.bool true)) (by omega)) (hw2.setCell (p := ⟨wr.heap.size, 0, none⟩) hwz _) hgT hTw (by rw [star_cells]; exact hown') hgrow, by simp [intOf]; omega⟩
    · have hiL : i = L.length := by omega
      have hpF := hp.out
      rw [hiL, List.drop_length] at hpF
      have hpF' : pcs L = ps := by rw [hpF, pcs]; simp
      have t0 : wr.cell? ⟨T, 0, none⟩ = some (.slice lad L.length lcap) := cT.cell 0
      go_wp2
      go_ret
      exact ⟨_, rfl, by rw [hpF']; exact owns_base ho (by omega), hw⟩
end Go.Proofs.YtfafhjglcaikoaaGreatDoor
