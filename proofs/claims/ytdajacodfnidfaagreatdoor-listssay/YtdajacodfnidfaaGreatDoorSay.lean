/- ListsSay: lists, and what the document says of them. -/
import Derived.Test.YtdajacodfnidfaaGreatDoorRL7
import Derived.Test.YtdajacodfnidfaaGreatDoorRLC
import Derived.Test.YtdajacodfnidfaaGreatDoorRLB
import Derived.Test.YtdajacodfnidfaaGreatDoorFirst3
import Derived.Deep.RegionHeld
import Derived.OrdersHeld
namespace Go.Proofs.YtdajacodfnidfaaGreatDoor
open Go.RowKit Go.Shelf

theorem bound_len (l : List (List UInt8)) : (resL (bound l)).length < 4294967296 := by
  unfold bound
  split
  · rename_i h
    have := fits_length l h
    show l.length < _
    omega
  · exact Nat.zero_lt_succ _
theorem joinFrom_fits : ∀ (ls : List (List (List UInt8))) (m r : List (List UInt8)), joinFrom m ls = some r → fitsB r = true
  | [], m, r, h => by
    unfold joinFrom at h
    split at h
    · cases h
      assumption
    · cases h
  | l :: ls, m, r, h => by
    unfold joinFrom at h
    split at h
    · exact joinFrom_fits ls _ r h
    · cases h
theorem join_len (ls : List (List (List UInt8))) : (resL (joinB ls)).length < 4294967296 := by
  cases ls with
  | nil => decide
  | cons l ls =>
    cases h : joinB (l :: ls) with
    | none => exact Nat.zero_lt_succ _
    | some r =>
      have := fits_length r (joinFrom_fits ls _ r h)
      show r.length < _
      omega
theorem flat_len (l : List (List UInt8)) : (resL (flatB l)).length < 4294967296 := by
  unfold flatB
  split
  · show 1 < 4294967296
    omega
  · exact Nat.zero_lt_succ _
theorem itoa_nat (n : Nat) : Lib.itoa (n : Int) = Lib.decDigits n := by
  unfold Lib.itoa
  rw [if_neg (by omega)]
  rfl
def fitV (a : Addr) : Bool → Value
  | true => .nilIface
  | false => bigV a
set_option maxRecDepth 100000 in
set_option maxHeartbeats 40000000 in
theorem say_main (vl vm vn : Value) (ls : List (List (List UInt8))) (m ns : List (List UInt8)) (n : Int) (s : List UInt8) (ea : Nat → Addr) (W : World) (hl : Tss W vl ls) (hm : Tx W vm m) (hn : Tx W vn ns) (hll : ls.length ≤ 140737488355328) (hlz : ∀ l ∈ ls, l.length < 140737488355328) (hlzz : ∀ l ∈ ls, ∀ s ∈ l, s.length ≤ 140737488355328) (hml : m.length < 140737488355328) (hmz : ∀ s ∈ m, s.length ≤ 140737488355328) (hnl : ns.length < 140737488355328) (hnz : ∀ s ∈ ns, s.length ≤ 140737488355328) (hn0 : -9223372036854775808 ≤ n) (hn1 : n ≤ 9223372036854775807) (hs : s.length ≤ 9223372036854775807) (hE : Er17 W ea) (hP : ∀ W', Below W.heap.size W W' → Pow W') :
    Calls Tryz.prog 3 #[vl, vm, vn, .int .i64 n, .string ⟨s.toArray⟩] W fun e w' => e = .returned (.bool true) ∧ Below W.heap.size W w' := by
  have HTL : Hid (∀ W', Below W.heap.size W W' → Tss W' vl ls) := fun W' hb => hl.below hb (Nat.le_refl _)
  have HTM : Hid (∀ W', Below W.heap.size W W' → Tx W' vm m) := fun W' hb => hm.below hb (Nat.le_refl _)
  have HTN : Hid (∀ W', Below W.heap.size W W' → Tx W' vn ns) := fun W' hb => hn.below hb (Nat.le_refl _)
  have HE : Hid (∀ W', Below W.heap.size W W' → Er17 W' ea) := fun W' hb => hE.below hb
  have HP : Hid (∀ W', Below W.heap.size W W' → Pow W') := hP
  have HLZ : Hid (∀ l ∈ ls, l.length < 140737488355328) := hlz
  have HLZZ : Hid (∀ l ∈ ls, ∀ s ∈ l, s.length ≤ 140737488355328) := hlzz
  have HMN : Hid ((∀ l ∈ [m, ns], l.length < 140737488355328) ∧ ∀ l ∈ [m, ns], ∀ s ∈ l, s.length ≤ 140737488355328) := by
    refine ⟨fun l h => ?_, fun l h => ?_⟩
    · simp at h
      rcases h with rfl | rfl
      · exact hml
      · exact hnl
    · simp at h
      rcases h with rfl | rfl
      · exact hmz
      · exact hnz
  obtain ⟨_, _, adl, capl, rfl, _⟩ := hl
  obtain ⟨adm, capm, rfl⟩ := hm.form
  obtain ⟨adn, capn, rfl⟩ := hn.form
  have hss : (⟨s.toArray⟩ : ByteArray).size = s.length := str_size' s
  clear hm hn hlz hlzz hmz hnz hE hP
  go_enter Tryz.func3, Tryz.ntmps3
  go_wp2_with fail
  refine (first_any W (ea 0) (HE.out _ (Below.refl _ _)).big).mono ?_
  rintro e w1 ⟨rfl, hb1⟩
  have HB1 : Hid (Below W.heap.size W w1) := hb1
  clear hb1
  go_wp2_with fail
  refine (light_all _ ls _ (HTL.out _ HB1.out) (by omega) HLZ.out HLZZ.out).mono ?_
  rintro e w2 ⟨b, rfl, hw2, hbl⟩
  subst hw2
  cases b
  · clear hbl
    go_wp2_with fail
    go_ret
    exact ⟨rfl, HB1.out⟩
  have HL1 : Hid (ls.length ≤ 8 ∧ lightB ls = true) := hbl rfl
  clear hbl
  have HTW : Hid (Tss (w2.alloc (.cells #[.slice adm m.length capm, .slice adn ns.length capn] 23)) (.slice (some ⟨w2.heap.size, 0, none⟩) 2 2) [m, ns]) := Tss.two w2 _ _ m ns (HTM.out _ HB1.out) (HTN.out _ HB1.out)
  have HB2 : Hid (Below W.heap.size W (w2.alloc (.cells #[.slice adm m.length capm, .slice adn ns.length capn] 23))) := HB1.out.alloc HB1.out.size _
  go_wp2_with fail
  refine (light_all _ [m, ns] _ HTW.out (by simp) HMN.out.1 HMN.out.2).mono ?_
  rintro e w3 ⟨b, rfl, hw3, hbl⟩
  rw [← hw3] at HB2
  clear hw3
  have HB3 : Hid (Below W.heap.size W w3) := HB2.out
  cases b
  · clear hbl
    go_wp2_with fail
    go_ret
    exact ⟨rfl, HB3.out⟩
  have HL2 : Hid (lightB [m, ns] = true) := (hbl rfl).2
  clear hbl
  by_cases h3k : 3000 < s.length
  · go_wp2_with fail
    go_ret
    exact ⟨rfl, HB3.out⟩
  obtain ⟨b1, b2⟩ := light_bounds HL1.out.2
  obtain ⟨b3, b4⟩ := light_bounds HL2.out
  have HLS1 : Hid ((∀ l ∈ ls, l.length ≤ 130) ∧ ∀ l ∈ ls, ∀ s ∈ l, s.length ≤ 20000) := ⟨b1, b2⟩
  have hm130 : m.length ≤ 130 := b3 m (by simp)
  have hn130 : ns.length ≤ 130 := b3 ns (by simp)
  have HTMZ : Hid (∀ s ∈ m, s.length ≤ 20000) := b4 m (by simp)
  have HTNZ : Hid (∀ s ∈ ns, s.length ≤ 20000) := b4 ns (by simp)
  clear b1 b2 b3 b4
  have HOKM : Hid (Ok m) := ⟨by omega, fun s hs => Nat.lt_of_le_of_lt (HTMZ.out s hs) (by decide)⟩
  have HMZ6 : Hid (∀ s ∈ m, s.length ≤ 60000) := fun s hs => Nat.le_trans (HTMZ.out s hs) (by decide)
  have HNZ6 : Hid (∀ s ∈ ns, s.length ≤ 60000) := fun s hs => Nat.le_trans (HTNZ.out s hs) (by decide)
  have HMZ4 : Hid (∀ s ∈ m, s.length < 4294967296) := fun s hs => Nat.lt_of_le_of_lt (HTMZ.out s hs) (by decide)
  have HNZ4 : Hid (∀ s ∈ ns, s.length < 4294967296) := fun s hs => Nat.lt_of_le_of_lt (HTNZ.out s hs) (by decide)
  have HLS4 : Hid ((∀ l ∈ ls, l.length < 4294967296) ∧ (∀ l ∈ ls, ∀ s ∈ l, s.length < 4294967296) ∧ (∀ l ∈ ls, l.length ≤ 60000) ∧ ∀ l ∈ ls, ∀ s ∈ l, s.length ≤ 60000) := ⟨fun l h => Nat.lt_of_le_of_lt (HLS1.out.1 l h) (by decide), fun l h s hs => Nat.lt_of_le_of_lt (HLS1.out.2 l h s hs) (by decide), fun l h => Nat.le_trans (HLS1.out.1 l h) (by decide), fun l h s hs => Nat.le_trans (HLS1.out.2 l h s hs) (by decide)⟩
  have hl8 := HL1.out.1
  obtain ⟨r1, hr1⟩ : ∃ r, bound (gatAll id ls) = r := ⟨_, rfl⟩
  have HLr1 : Hid ((resL r1).length < 4294967296) := by unfold Hid; rw [← hr1]; exact bound_len _
  obtain ⟨r2, hr2⟩ : ∃ r, joinB ls = r := ⟨_, rfl⟩
  have HLr2 : Hid ((resL r2).length < 4294967296) := by unfold Hid; rw [← hr2]; exact join_len _
  obtain ⟨r3, hr3⟩ : ∃ r, bound (gatAll splitL m) = r := ⟨_, rfl⟩
  have HLr3 : Hid ((resL r3).length < 4294967296) := by unfold Hid; rw [← hr3]; exact bound_len _
  obtain ⟨r4, hr4⟩ : ∃ r, bound (m.map plainL) = r := ⟨_, rfl⟩
  have HLr4 : Hid ((resL r4).length < 4294967296) := by unfold Hid; rw [← hr4]; exact bound_len _
  obtain ⟨r5, hr5⟩ : ∃ r, bound (m.map escL) = r := ⟨_, rfl⟩
  have HLr5 : Hid ((resL r5).length < 4294967296) := by unfold Hid; rw [← hr5]; exact bound_len _
  obtain ⟨r6, hr6⟩ : ∃ r, flatB m = r := ⟨_, rfl⟩
  have HLr6 : Hid ((resL r6).length < 4294967296) := by unfold Hid; rw [← hr6]; exact flat_len _
  obtain ⟨r7, hr7⟩ : ∃ r, bound (gatAll (filesR ns) m) = r := ⟨_, rfl⟩
  have HLr7 : Hid ((resL r7).length < 4294967296) := by unfold Hid; rw [← hr7]; exact bound_len _
  have HC6 : Hid (∀ W', Below W.heap.size W W' → Calls Tryz.prog 6 #[.slice adl ls.length capl] W' fun e w' => PairP (ea 0) r1 e w' ∧ Below W'.heap.size W' w') := fun W' hb => by
    rw [← hr1]
    exact (cat_any _ ls W' (ea 0) (HTL.out _ hb) (by omega) HLS4.out.1 (HE.out _ hb).big).mono fun e w' h => ⟨h.1.pair, h.2⟩
  have HC7 : Hid (∀ W', Below W.heap.size W W' → Calls Tryz.prog 7 #[.slice adl ls.length capl] W' fun e w' => PairD r1 e w' ∧ Below W'.heap.size W' w') := fun W' hb => by
    rw [← hr1]
    exact (rcat_any _ ls W' (HTL.out _ hb) (by omega) HLS4.out.2.2.1 HLS4.out.2.1).mono fun e w' h => ⟨h.1.pair, h.2⟩
  have HC8 : Hid (∀ W', Below W.heap.size W W' → Calls Tryz.prog 8 #[.slice adl ls.length capl] W' fun e w' => PairP (ea 0) r2 e w' ∧ Below W'.heap.size W' w') := fun W' hb => by
    rw [← hr2]
    exact (join_any _ ls W' (ea 0) (HTL.out _ hb) (by omega) HLS4.out.1 HLS4.out.2.1 (HE.out _ hb).big).mono fun e w' h => ⟨h.1.pair, h.2⟩
  have HC9 : Hid (∀ W', Below W.heap.size W W' → Calls Tryz.prog 9 #[.slice adl ls.length capl] W' fun e w' => PairD r2 e w' ∧ Below W'.heap.size W' w') := fun W' hb => by
    rw [← hr2]
    exact (rjoin_any _ ls W' (HTL.out _ hb) (by omega) HLS4.out.2.2.1 HLS4.out.2.2.2).mono fun e w' h => ⟨h.1.pair, h.2⟩
  have HC11 : Hid (∀ W', Below W.heap.size W W' → Calls Tryz.prog 11 #[.slice adm m.length capm] W' fun e w' => PairP (ea 0) r3 e w' ∧ Below W'.heap.size W' w') := fun W' hb => by
    rw [← hr3]
    exact (split_all _ m W' (ea 0) (HTM.out _ hb) HOKM.out (fun s hs => Nat.lt_of_le_of_lt (HTMZ.out s hs) (by decide)) (HE.out _ hb).big).mono fun e w' h => ⟨h.1.pair, h.2⟩
  have HC12 : Hid (∀ W', Below W.heap.size W W' → Calls Tryz.prog 12 #[.slice adm m.length capm] W' fun e w' => PairD r3 e w' ∧ Below W'.heap.size W' w') := fun W' hb => by
    rw [← hr3]
    exact (rsplitAll_any _ m W' (HTM.out _ hb) (by omega) HMZ6.out).mono fun e w' h => ⟨h.1.pair, h.2⟩
  have HC13 : Hid (∀ W', Below W.heap.size W W' → Calls Tryz.prog 13 #[.slice adm m.length capm] W' fun e w' => PairP (ea 0) r4 e w' ∧ Below W'.heap.size W' w') := fun W' hb => by
    rw [← hr4]
    exact (plain_all _ m W' (ea 0) (HTM.out _ hb) HOKM.out (HE.out _ hb).big).mono fun e w' h => ⟨h.1.pair, h.2⟩
  have HC14 : Hid (∀ W', Below W.heap.size W W' → Calls Tryz.prog 14 #[.slice adm m.length capm, .bool false] W' fun e w' => PairD r4 e w' ∧ Below W'.heap.size W' w') := fun W' hb => by
    rw [← hr4]
    exact (reach_plain _ m W' (HTM.out _ hb) (by omega) HMZ6.out).mono fun e w' h => ⟨h.1.pair, h.2⟩
  have HC15 : Hid (∀ W', Below W.heap.size W W' → Calls Tryz.prog 15 #[.slice adm m.length capm] W' fun e w' => PairP (ea 0) r5 e w' ∧ Below W'.heap.size W' w') := fun W' hb => by
    rw [← hr5]
    exact (esc_all _ m W' (ea 0) (HTM.out _ hb) HOKM.out (HE.out _ hb).big).mono fun e w' h => ⟨h.1.pair, h.2⟩
  have HC14t : Hid (∀ W', Below W.heap.size W W' → Calls Tryz.prog 14 #[.slice adm m.length capm, .bool true] W' fun e w' => PairD r5 e w' ∧ Below W'.heap.size W' w') := fun W' hb => by
    rw [← hr5]
    exact (reach_esc _ m W' (HTM.out _ hb) (by omega) HMZ6.out).mono fun e w' h => ⟨h.1.pair, h.2⟩
  have HC16 : Hid (∀ W', Below W.heap.size W W' → Calls Tryz.prog 16 #[.slice adm m.length capm] W' fun e w' => PairP (ea 0) r6 e w' ∧ Below W'.heap.size W' w') := fun W' hb => by
    rw [← hr6]
    exact (flat_any _ m W' (ea 0) (HTM.out _ hb) HOKM.out (HE.out _ hb).big).mono fun e w' h => ⟨h.1.pair, h.2⟩
  have HC17 : Hid (∀ W', Below W.heap.size W W' → Calls Tryz.prog 17 #[.slice adm m.length capm] W' fun e w' => PairD r6 e w' ∧ Below W'.heap.size W' w') := fun W' hb => by
    rw [← hr6]
    exact (rflat_any _ m W' (HTM.out _ hb) (by omega) HMZ6.out).mono fun e w' h => ⟨h.1.pair, h.2⟩
  have HC18 : Hid (∀ W', Below W.heap.size W W' → Calls Tryz.prog 18 #[.slice adm m.length capm, .slice adn ns.length capn] W' fun e w' => PairP (ea 0) r7 e w' ∧ Below W'.heap.size W' w') := fun W' hb => by
    rw [← hr7]
    exact (glob_any _ _ m ns W' (ea 0) (HTM.out _ hb) (HTN.out _ hb) (by omega) (by omega) HNZ4.out HMZ4.out (HE.out _ hb).big).mono fun e w' h => ⟨h.1.pair, h.2⟩
  have HC19 : Hid (∀ W', Below W.heap.size W W' → Calls Tryz.prog 19 #[.slice adm m.length capm, .slice adn ns.length capn] W' fun e w' => PairD r7 e w' ∧ Below W'.heap.size W' w') := fun W' hb => by
    rw [← hr7]
    exact (rglob_any _ _ m ns W' (HTM.out _ hb) (HTN.out _ hb) (by omega) (by omega) HMZ6.out HNZ6.out).mono fun e w' h => ⟨h.1.pair, h.2⟩
  have HSM : Hid (∀ W' r ad1 ad2 q1 q2 cap1 cap2, Below W.heap.size W W' → Tx W' (.slice ad1 q1 cap1) (resL r) → Tx W' (.slice ad2 q2 cap2) (resL r) → (resL r).length < 4294967296 → Calls Tryz.prog 10 #[.slice ad1 q1 cap1, resV (ea 0) r, .slice ad2 q2 cap2, .bool r.isSome] W' fun e w' => e = .returned (.bool true) ∧ Below W'.heap.size W' w') := fun W' r ad1 ad2 q1 q2 cap1 cap2 hb h1 h2 hl => sameP_any W' ea (HE.out _ hb) r ad1 ad2 q1 q2 cap1 cap2 h1 h2 hl
  have HST : Hid (∀ W' L ad1 ad2 q1 q2 cap1 cap2, Tx W' (.slice ad1 q1 cap1) L → Tx W' (.slice ad2 q2 cap2) L → L.length < 4294967296 → Calls Tryz.prog 20 #[.slice ad1 q1 cap1, .slice ad2 q2 cap2] W' fun e w' => e = .returned (.bool true) ∧ Below W'.heap.size W' w') := fun W' L ad1 ad2 q1 q2 cap1 cap2 h1 h2 hl => by
    have := sameTexts_any _ _ L L W' h1.texts h2.texts hl hl
    rw [show decide (L = L) = true from decide_eq_true rfl] at this
    exact this
  obtain ⟨T, hT⟩ : ∃ T, Lib.decDigits m.length = T := ⟨_, rfl⟩
  have HCN : Hid (∀ W', Below W.heap.size W W' → Calls Tryz.prog 21 #[.slice adm m.length capm] W' fun e w' => ∃ ad cap, e = .returned (.slice ad 1 cap) ∧ Tx w' (.slice ad 1 cap) [T] ∧ Below W'.heap.size W' w') := fun W' hb => by
    rw [← hT, ← itoa_nat]
    exact count_any _ m W' (HTM.out _ hb) (by omega) (HP.out _ hb)
  have HNU : Hid (∀ W', Calls Tryz.prog 22 #[.int .i64 (m.length : Nat)] W' fun e w' => e = .returned (.string ⟨T.toArray⟩) ∧ Below W'.heap.size W' w') := fun W' => by
    rw [← hT]
    exact rnum_pos m.length m.length (Nat.le_refl _) (by omega) W'
  obtain ⟨PK, hPK⟩ : ∃ PK, pickL m n = PK := ⟨_, rfl⟩
  have HPK : Hid (pickL m n = PK) := hPK
  have HPL : Hid (PK.length < 4294967296) := by
    unfold Hid
    rw [← hPK]
    unfold pickL
    split <;> simp
  have HPC : Hid (∀ W', Below W.heap.size W W' → Calls Tryz.prog 23 #[.slice adm m.length capm, .int .i64 n] W' fun e w' => ∃ ad q cap, e = .returned (.slice ad q cap) ∧ Tx w' (.slice ad q cap) PK ∧ Below W'.heap.size W' w') := fun W' hb => by
    rw [← hPK]
    exact pickP_any _ m n W' (HTM.out _ hb) (by omega) hn0 hn1
  obtain ⟨tr, htr⟩ : ∃ tr, Lib.trimRightB s 10 = tr := ⟨_, rfl⟩
  have HTR : Hid (∀ W', Calls Tryz.prog 24 #[.string ⟨s.toArray⟩] W' fun e w' => e = .returned (.string ⟨tr.toArray⟩) ∧ w' = W') := fun W' => by
    rw [← htr]
    exact trim_any ⟨s.toArray⟩ (by rw [hss]; omega) W'
  have HTR2 : Hid (∀ W', Calls Tryz.prog 25 #[.string ⟨s.toArray⟩] W' fun e w' => e = .returned (.string ⟨tr.toArray⟩) ∧ w' = W') := fun W' => by
    rw [← htr]
    exact rtrim_any s (by omega) W'
  obtain ⟨bb, hbb⟩ : ∃ bb, decide (m = ns) = bb := ⟨_, rfl⟩
  have HLS : Hid (∀ W', Below W.heap.size W W' → Calls Tryz.prog 26 #[.slice adm m.length capm, .slice adn ns.length capn] W' fun e w' => e = .returned (.bool bb) ∧ Below W'.heap.size W' w') := fun W' hb => by
    rw [← hbb]
    exact sameL_any _ _ m ns W' (HTM.out _ hb) (HTN.out _ hb) (by omega) (by omega)
  have HLT : Hid (∀ W', Below W.heap.size W W' → Calls Tryz.prog 20 #[.slice adm m.length capm, .slice adn ns.length capn] W' fun e w' => e = .returned (.bool bb) ∧ Below W'.heap.size W' w') := fun W' hb => by
    rw [← hbb]
    exact sameTexts_any _ _ m ns W' (HTM.out _ hb).texts (HTN.out _ hb).texts (by omega) (by omega)
  obtain ⟨ff, hff⟩ : ∃ ff, fitsB m = ff := ⟨_, rfl⟩
  have HFR : Hid (∀ W', Below W.heap.size W W' → Calls Tryz.prog 28 #[.slice adm m.length capm] W' fun e w' => e = .returned (.bool ff) ∧ w' = W') := fun W' hb => by
    rw [← hff]
    exact rFits_any _ m W' (HTM.out _ hb) HMZ4.out (by omega)
  have HFT : Hid (∀ W', Below W.heap.size W W' → Calls Tryz.prog 27 #[.slice adm m.length capm] W' fun e w' => e = .returned (fitV (ea 0) ff) ∧ Below W'.heap.size W' w') := fun W' hb => by
    cases ff
    · exact fits_no _ m W' (ea 0) (HTM.out _ hb) (by omega) hff (HE.out _ hb).big
    · exact fits_yes _ m W' (HTM.out _ hb) hff
  clear hr1 hr2 hr3 hr4 hr5 hr6 hr7 hT hPK htr hbb hff hl8
  go_wp2_with fail
  go_loopw [12, 13] (fun v12 vi wr => ∃ (k : Nat) (bs : Bool), v12 = .bool bs ∧ vi = .int .i64 k ∧ k ≤ ns.length ∧ w3 = wr) (fun _ vi _ => ns.length - (intOf vi).toNat)
  case atStart => exact ⟨0, true, rfl, rfl, Nat.zero_le _, rfl⟩
  case round =>
    obtain ⟨k, bs, rfl, rfl, hk, hwr⟩ := hrel
    subst hwr
    by_cases hkl : k < ns.length
    · obtain ⟨x, hx⟩ : ∃ x, ns[k]? = some x := ⟨_, List.getElem?_eq_getElem hkl⟩
      obtain ⟨g, o, cap', hv, _, _, hc⟩ := (HTN.out _ HB3.out).inRow (fun e => by rw [e] at hkl; simp at hkl)
      cases hv
      have e1 := hc k x hx
      have hxz := HTNZ.out x (List.mem_of_getElem? hx)
      have hsz : (⟨x.toArray⟩ : ByteArray).size = x.length := str_size' x
      clear hc hx
      cases bs
      · go_wp2_with fail
        exact ⟨⟨k + 1, _, rfl, by simp, by omega, trivial⟩, by simp [intOf]; omega⟩
      · by_cases hx4 : x.length ≤ 40
        · have hx4' : (x.length : Int) ≤ 40 := by omega
          go_wp2_with fail
          exact ⟨⟨k + 1, _, rfl, by simp, by omega, trivial⟩, by simp [intOf]; omega⟩
        · have hx4' : ¬ (x.length : Int) ≤ 40 := by omega
          go_wp2_with fail
          exact ⟨⟨k + 1, _, rfl, by simp, by omega, trivial⟩, by simp [intOf]; omega⟩
    · obtain rfl : k = ns.length := by omega
      go_wp2_with fail
      go_loopw [12, 14] (fun v12 vi wr => ∃ (k : Nat) (bs : Bool), v12 = .bool bs ∧ vi = .int .i64 k ∧ k ≤ m.length ∧ w3 = wr) (fun _ vi _ => m.length - (intOf vi).toNat)
      case atStart => exact ⟨0, bs, rfl, rfl, Nat.zero_le _, rfl⟩
      case round =>
        obtain ⟨k, bs, rfl, rfl, hk, hwr⟩ := hrel
        subst hwr
        by_cases hkl : k < m.length
        · obtain ⟨x, hx⟩ : ∃ x, m[k]? = some x := ⟨_, List.getElem?_eq_getElem hkl⟩
          obtain ⟨g, o, cap', hv, _, _, hc⟩ := (HTM.out _ HB3.out).inRow (fun e => by rw [e] at hkl; simp at hkl)
          cases hv
          have e1 := hc k x hx
          have hxz := HTMZ.out x (List.mem_of_getElem? hx)
          have hsz : (⟨x.toArray⟩ : ByteArray).size = x.length := str_size' x
          clear hc hx
          cases bs
          · go_wp2_with fail
            exact ⟨⟨k + 1, _, rfl, by simp, by omega, trivial⟩, by simp [intOf]; omega⟩
          · by_cases hx4 : x.length ≤ 200
            · have hx4' : (x.length : Int) ≤ 200 := by omega
              go_wp2_with fail
              exact ⟨⟨k + 1, _, rfl, by simp, by omega, trivial⟩, by simp [intOf]; omega⟩
            · have hx4' : ¬ (x.length : Int) ≤ 200 := by omega
              go_wp2_with fail
              exact ⟨⟨k + 1, _, rfl, by simp, by omega, trivial⟩, by simp [intOf]; omega⟩
        · obtain rfl : k = m.length := by omega
          go_wp2_with fail
          go_wp2_with fail
          refine Calls.mono (HC6.out _ HB3.out) ?_
          rintro e w4 ⟨⟨ad4, q4, cap4, rfl, t4⟩, hb'⟩
          have HB4 : Hid (Below W.heap.size W w4) := HB3.out.trans (hb'.mono HB3.out.size)
          have HT4 : Hid (∀ W', Below w4.heap.size w4 W' → Tx W' (.slice ad4 q4 cap4) (resL r1)) := fun W' h => t4.below h (Nat.le_refl _)
          clear t4 hb'
          go_wp2_with fail
          refine Calls.mono (HC7.out _ HB4.out) ?_
          rintro e w5 ⟨⟨ad5, q5, cap5, rfl, t5⟩, hb'⟩
          have HB5 : Hid (Below W.heap.size W w5) := HB4.out.trans (hb'.mono HB4.out.size)
          have HT' : Hid (∀ W', Below w5.heap.size w5 W' → Tx W' (.slice ad4 q4 cap4) (resL r1)) := fun W' h => HT4.out W' (hb'.trans (h.mono hb'.size))
          clear HT4
          have HT4 := HT'
          clear HT'
          have HT5 : Hid (∀ W', Below w5.heap.size w5 W' → Tx W' (.slice ad5 q5 cap5) (resL r1)) := fun W' h => t5.below h (Nat.le_refl _)
          clear t5 hb'
          go_wp2_with fail
          refine Calls.mono (HC8.out _ HB5.out) ?_
          rintro e w6 ⟨⟨ad6, q6, cap6, rfl, t6⟩, hb'⟩
          have HB6 : Hid (Below W.heap.size W w6) := HB5.out.trans (hb'.mono HB5.out.size)
          have HT' : Hid (∀ W', Below w6.heap.size w6 W' → Tx W' (.slice ad4 q4 cap4) (resL r1)) := fun W' h => HT4.out W' (hb'.trans (h.mono hb'.size))
          clear HT4
          have HT4 := HT'
          clear HT'
          have HT' : Hid (∀ W', Below w6.heap.size w6 W' → Tx W' (.slice ad5 q5 cap5) (resL r1)) := fun W' h => HT5.out W' (hb'.trans (h.mono hb'.size))
          clear HT5
          have HT5 := HT'
          clear HT'
          have HT6 : Hid (∀ W', Below w6.heap.size w6 W' → Tx W' (.slice ad6 q6 cap6) (resL r2)) := fun W' h => t6.below h (Nat.le_refl _)
          clear t6 hb'
          go_wp2_with fail
          refine Calls.mono (HC9.out _ HB6.out) ?_
          rintro e w7 ⟨⟨ad7, q7, cap7, rfl, t7⟩, hb'⟩
          have HB7 : Hid (Below W.heap.size W w7) := HB6.out.trans (hb'.mono HB6.out.size)
          have HT' : Hid (∀ W', Below w7.heap.size w7 W' → Tx W' (.slice ad4 q4 cap4) (resL r1)) := fun W' h => HT4.out W' (hb'.trans (h.mono hb'.size))
          clear HT4
          have HT4 := HT'
          clear HT'
          have HT' : Hid (∀ W', Below w7.heap.size w7 W' → Tx W' (.slice ad5 q5 cap5) (resL r1)) := fun W' h => HT5.out W' (hb'.trans (h.mono hb'.size))
          clear HT5
          have HT5 := HT'
          clear HT'
          have HT' : Hid (∀ W', Below w7.heap.size w7 W' → Tx W' (.slice ad6 q6 cap6) (resL r2)) := fun W' h => HT6.out W' (hb'.trans (h.mono hb'.size))
          clear HT6
          have HT6 := HT'
          clear HT'
          have HT7 : Hid (∀ W', Below w7.heap.size w7 W' → Tx W' (.slice ad7 q7 cap7) (resL r2)) := fun W' h => t7.below h (Nat.le_refl _)
          clear t7 hb'
          go_wp2_with fail
          refine Calls.mono (HSM.out _ r1 _ _ _ _ _ _ HB7.out (HT4.out _ (Below.refl _ _)) (HT5.out _ (Below.refl _ _)) HLr1.out) ?_
          rintro e w8 ⟨rfl, hb'⟩
          have HB8 : Hid (Below W.heap.size W w8) := HB7.out.trans (hb'.mono HB7.out.size)
          have HT' : Hid (∀ W', Below w8.heap.size w8 W' → Tx W' (.slice ad6 q6 cap6) (resL r2)) := fun W' h => HT6.out W' (hb'.trans (h.mono hb'.size))
          clear HT6
          have HT6 := HT'
          clear HT'
          have HT' : Hid (∀ W', Below w8.heap.size w8 W' → Tx W' (.slice ad7 q7 cap7) (resL r2)) := fun W' h => HT7.out W' (hb'.trans (h.mono hb'.size))
          clear HT7
          have HT7 := HT'
          clear HT'
          clear hb'
          clear HT4 HT5
          go_wp2_with fail
          refine Calls.mono (HSM.out _ r2 _ _ _ _ _ _ HB8.out (HT6.out _ (Below.refl _ _)) (HT7.out _ (Below.refl _ _)) HLr2.out) ?_
          rintro e w9 ⟨rfl, hb'⟩
          have HB9 : Hid (Below W.heap.size W w9) := HB8.out.trans (hb'.mono HB8.out.size)
          clear hb'
          clear HT6 HT7
          go_wp2_with fail
          refine Calls.mono (HC11.out _ HB9.out) ?_
          rintro e w10 ⟨⟨ad10, q10, cap10, rfl, t10⟩, hb'⟩
          have HB10 : Hid (Below W.heap.size W w10) := HB9.out.trans (hb'.mono HB9.out.size)
          have HT10 : Hid (∀ W', Below w10.heap.size w10 W' → Tx W' (.slice ad10 q10 cap10) (resL r3)) := fun W' h => t10.below h (Nat.le_refl _)
          clear t10 hb'
          go_wp2_with fail
          refine Calls.mono (HC12.out _ HB10.out) ?_
          rintro e w11 ⟨⟨ad11, q11, cap11, rfl, t11⟩, hb'⟩
          have HB11 : Hid (Below W.heap.size W w11) := HB10.out.trans (hb'.mono HB10.out.size)
          have HT' : Hid (∀ W', Below w11.heap.size w11 W' → Tx W' (.slice ad10 q10 cap10) (resL r3)) := fun W' h => HT10.out W' (hb'.trans (h.mono hb'.size))
          clear HT10
          have HT10 := HT'
          clear HT'
          have HT11 : Hid (∀ W', Below w11.heap.size w11 W' → Tx W' (.slice ad11 q11 cap11) (resL r3)) := fun W' h => t11.below h (Nat.le_refl _)
          clear t11 hb'
          go_wp2_with fail
          refine Calls.mono (HC13.out _ HB11.out) ?_
          rintro e w12 ⟨⟨ad12, q12, cap12, rfl, t12⟩, hb'⟩
          have HB12 : Hid (Below W.heap.size W w12) := HB11.out.trans (hb'.mono HB11.out.size)
          have HT' : Hid (∀ W', Below w12.heap.size w12 W' → Tx W' (.slice ad10 q10 cap10) (resL r3)) := fun W' h => HT10.out W' (hb'.trans (h.mono hb'.size))
          clear HT10
          have HT10 := HT'
          clear HT'
          have HT' : Hid (∀ W', Below w12.heap.size w12 W' → Tx W' (.slice ad11 q11 cap11) (resL r3)) := fun W' h => HT11.out W' (hb'.trans (h.mono hb'.size))
          clear HT11
          have HT11 := HT'
          clear HT'
          have HT12 : Hid (∀ W', Below w12.heap.size w12 W' → Tx W' (.slice ad12 q12 cap12) (resL r4)) := fun W' h => t12.below h (Nat.le_refl _)
          clear t12 hb'
          go_wp2_with fail
          refine Calls.mono (HC14.out _ HB12.out) ?_
          rintro e w13 ⟨⟨ad13, q13, cap13, rfl, t13⟩, hb'⟩
          have HB13 : Hid (Below W.heap.size W w13) := HB12.out.trans (hb'.mono HB12.out.size)
          have HT' : Hid (∀ W', Below w13.heap.size w13 W' → Tx W' (.slice ad10 q10 cap10) (resL r3)) := fun W' h => HT10.out W' (hb'.trans (h.mono hb'.size))
          clear HT10
          have HT10 := HT'
          clear HT'
          have HT' : Hid (∀ W', Below w13.heap.size w13 W' → Tx W' (.slice ad11 q11 cap11) (resL r3)) := fun W' h => HT11.out W' (hb'.trans (h.mono hb'.size))
          clear HT11
          have HT11 := HT'
          clear HT'
          have HT' : Hid (∀ W', Below w13.heap.size w13 W' → Tx W' (.slice ad12 q12 cap12) (resL r4)) := fun W' h => HT12.out W' (hb'.trans (h.mono hb'.size))
          clear HT12
          have HT12 := HT'
          clear HT'
          have HT13 : Hid (∀ W', Below w13.heap.size w13 W' → Tx W' (.slice ad13 q13 cap13) (resL r4)) := fun W' h => t13.below h (Nat.le_refl _)
          clear t13 hb'
          go_wp2_with fail
          refine Calls.mono (HSM.out _ r3 _ _ _ _ _ _ HB13.out (HT10.out _ (Below.refl _ _)) (HT11.out _ (Below.refl _ _)) HLr3.out) ?_
          rintro e w14 ⟨rfl, hb'⟩
          have HB14 : Hid (Below W.heap.size W w14) := HB13.out.trans (hb'.mono HB13.out.size)
          have HT' : Hid (∀ W', Below w14.heap.size w14 W' → Tx W' (.slice ad12 q12 cap12) (resL r4)) := fun W' h => HT12.out W' (hb'.trans (h.mono hb'.size))
          clear HT12
          have HT12 := HT'
          clear HT'
          have HT' : Hid (∀ W', Below w14.heap.size w14 W' → Tx W' (.slice ad13 q13 cap13) (resL r4)) := fun W' h => HT13.out W' (hb'.trans (h.mono hb'.size))
          clear HT13
          have HT13 := HT'
          clear HT'
          clear hb'
          clear HT10 HT11
          go_wp2_with fail
          refine Calls.mono (HSM.out _ r4 _ _ _ _ _ _ HB14.out (HT12.out _ (Below.refl _ _)) (HT13.out _ (Below.refl _ _)) HLr4.out) ?_
          rintro e w15 ⟨rfl, hb'⟩
          have HB15 : Hid (Below W.heap.size W w15) := HB14.out.trans (hb'.mono HB14.out.size)
          clear hb'
          clear HT12 HT13
          go_wp2_with fail
          refine Calls.mono (HC15.out _ HB15.out) ?_
          rintro e w16 ⟨⟨ad16, q16, cap16, rfl, t16⟩, hb'⟩
          have HB16 : Hid (Below W.heap.size W w16) := HB15.out.trans (hb'.mono HB15.out.size)
          have HT16 : Hid (∀ W', Below w16.heap.size w16 W' → Tx W' (.slice ad16 q16 cap16) (resL r5)) := fun W' h => t16.below h (Nat.le_refl _)
          clear t16 hb'
          go_wp2_with fail
          refine Calls.mono (HC14t.out _ HB16.out) ?_
          rintro e w17 ⟨⟨ad17, q17, cap17, rfl, t17⟩, hb'⟩
          have HB17 : Hid (Below W.heap.size W w17) := HB16.out.trans (hb'.mono HB16.out.size)
          have HT' : Hid (∀ W', Below w17.heap.size w17 W' → Tx W' (.slice ad16 q16 cap16) (resL r5)) := fun W' h => HT16.out W' (hb'.trans (h.mono hb'.size))
          clear HT16
          have HT16 := HT'
          clear HT'
          have HT17 : Hid (∀ W', Below w17.heap.size w17 W' → Tx W' (.slice ad17 q17 cap17) (resL r5)) := fun W' h => t17.below h (Nat.le_refl _)
          clear t17 hb'
          go_wp2_with fail
          refine Calls.mono (HC16.out _ HB17.out) ?_
          rintro e w18 ⟨⟨ad18, q18, cap18, rfl, t18⟩, hb'⟩
          have HB18 : Hid (Below W.heap.size W w18) := HB17.out.trans (hb'.mono HB17.out.size)
          have HT' : Hid (∀ W', Below w18.heap.size w18 W' → Tx W' (.slice ad16 q16 cap16) (resL r5)) := fun W' h => HT16.out W' (hb'.trans (h.mono hb'.size))
          clear HT16
          have HT16 := HT'
          clear HT'
          have HT' : Hid (∀ W', Below w18.heap.size w18 W' → Tx W' (.slice ad17 q17 cap17) (resL r5)) := fun W' h => HT17.out W' (hb'.trans (h.mono hb'.size))
          clear HT17
          have HT17 := HT'
          clear HT'
          have HT18 : Hid (∀ W', Below w18.heap.size w18 W' → Tx W' (.slice ad18 q18 cap18) (resL r6)) := fun W' h => t18.below h (Nat.le_refl _)
          clear t18 hb'
          go_wp2_with fail
          refine Calls.mono (HC17.out _ HB18.out) ?_
          rintro e w19 ⟨⟨ad19, q19, cap19, rfl, t19⟩, hb'⟩
          have HB19 : Hid (Below W.heap.size W w19) := HB18.out.trans (hb'.mono HB18.out.size)
          have HT' : Hid (∀ W', Below w19.heap.size w19 W' → Tx W' (.slice ad16 q16 cap16) (resL r5)) := fun W' h => HT16.out W' (hb'.trans (h.mono hb'.size))
          clear HT16
          have HT16 := HT'
          clear HT'
          have HT' : Hid (∀ W', Below w19.heap.size w19 W' → Tx W' (.slice ad17 q17 cap17) (resL r5)) := fun W' h => HT17.out W' (hb'.trans (h.mono hb'.size))
          clear HT17
          have HT17 := HT'
          clear HT'
          have HT' : Hid (∀ W', Below w19.heap.size w19 W' → Tx W' (.slice ad18 q18 cap18) (resL r6)) := fun W' h => HT18.out W' (hb'.trans (h.mono hb'.size))
          clear HT18
          have HT18 := HT'
          clear HT'
          have HT19 : Hid (∀ W', Below w19.heap.size w19 W' → Tx W' (.slice ad19 q19 cap19) (resL r6)) := fun W' h => t19.below h (Nat.le_refl _)
          clear t19 hb'
          go_wp2_with fail
          refine Calls.mono (HSM.out _ r5 _ _ _ _ _ _ HB19.out (HT16.out _ (Below.refl _ _)) (HT17.out _ (Below.refl _ _)) HLr5.out) ?_
          rintro e w20 ⟨rfl, hb'⟩
          have HB20 : Hid (Below W.heap.size W w20) := HB19.out.trans (hb'.mono HB19.out.size)
          have HT' : Hid (∀ W', Below w20.heap.size w20 W' → Tx W' (.slice ad18 q18 cap18) (resL r6)) := fun W' h => HT18.out W' (hb'.trans (h.mono hb'.size))
          clear HT18
          have HT18 := HT'
          clear HT'
          have HT' : Hid (∀ W', Below w20.heap.size w20 W' → Tx W' (.slice ad19 q19 cap19) (resL r6)) := fun W' h => HT19.out W' (hb'.trans (h.mono hb'.size))
          clear HT19
          have HT19 := HT'
          clear HT'
          clear hb'
          clear HT16 HT17
          go_wp2_with fail
          refine Calls.mono (HSM.out _ r6 _ _ _ _ _ _ HB20.out (HT18.out _ (Below.refl _ _)) (HT19.out _ (Below.refl _ _)) HLr6.out) ?_
          rintro e w21 ⟨rfl, hb'⟩
          have HB21 : Hid (Below W.heap.size W w21) := HB20.out.trans (hb'.mono HB20.out.size)
          clear hb'
          clear HT18 HT19
          cases bs
          · by_cases hp1 : n < 1
            · as_aux_lemma =>
                have hg1 : ¬ (1 : Int) ≤ n := by omega
                have HPE : Hid (pickL m n = []) := by unfold Hid pickL; rw [if_neg (by omega)]
                have HTP : Hid (∀ W', Below w21.heap.size w21 W' → Tx W' (.slice none 0 0) PK) := fun W' _ => by rw [← HPK.out, HPE.out]; exact .inl ⟨rfl, rfl⟩
                have HBp := HB21
                go_wp2_with fail
                refine wp_region_held (S := (fun _ : World => True)) (by kernel_rfl) ?_
                change wpAnyH _ _ _ _ _ _ _ _ (World.drew _)
                have hS0 : (fun _ : World => True) (w21.drew) := trivial
                have HBA : Hid (Below W.heap.size W w21.drew) := HBp.out.drew
                have HTQ : Hid (∀ W', Below w21.drew.heap.size w21.drew W' → Tx W' (.slice none 0 0) PK) := fun W' h => HTP.out W' (((Below.refl _ w21).drew).trans h)
                have hbA : Below w21.drew.heap.size w21.drew w21.drew := Below.refl _ _
                refine wpAnyH_take (i := 0) (v := .slice adm m.length capm) rfl (by kernel_rfl) (by kernel_rfl) (by kernel_rfl) (fun _ _ _ h => h) (Yields.yieldsIf (Or.inl ⟨by rfl, by intro wz; go_simp⟩)) hS0 ?_
                try simp only [Act.put, List.getElem_toArray, List.getElem_cons_zero, List.setIfInBounds_toArray, List.set_cons_zero, List.set_cons_succ]
                refine wpAnyH_take (i := 2) (v := .slice adm m.length capm) rfl (by kernel_rfl) (by kernel_rfl) (by kernel_rfl) (fun _ _ _ h => h) (Yields.yieldsIf (Or.inl ⟨by rfl, by intro wz; go_simp⟩)) hS0 ?_
                try simp only [Act.put, List.getElem_toArray, List.getElem_cons_succ, List.getElem_cons_zero, List.setIfInBounds_toArray, List.set_cons_zero, List.set_cons_succ]
                refine wpAnyH_take (i := 3) (v := .int .i64 (m.length : Nat)) rfl (by kernel_rfl) (by kernel_rfl) (by kernel_rfl) (fun _ _ _ h => h) (Yields.yieldsIf (Or.inl ⟨by rfl, by intro wz; go_simp⟩)) hS0 ?_
                try simp only [Act.put, List.getElem_toArray, List.getElem_cons_succ, List.getElem_cons_zero, List.setIfInBounds_toArray, List.set_cons_zero, List.set_cons_succ]
                refine wpAnyH_ready (rs := [1]) (by kernel_rfl) (by simp) ?_
                refine AllReadyH.cons rfl (fun K' hK => ?_) AllReadyH.nil
                go_simp
                refine (HCN.out _ HBA.out).mono ?_
                rintro e x1 ⟨adc, capc, rfl, tc, hb'⟩
                have HB1 : Hid (Below W.heap.size W x1) := HBA.out.trans (hb'.mono HBA.out.size)
                have hb1 := hbA.trans (hb'.mono hbA.size)
                have HTC : Hid (∀ W', Below x1.heap.size x1 W' → Tx W' (.slice adc 1 capc) [T]) := fun W' h => tc.below h (Nat.le_refl _)
                clear tc
                clear hb'
                refine hK.out _ _ trivial (fun _ => ?_)
                clear hK K'
                try simp only [Act.put, List.getElem_toArray, List.getElem_cons_succ, List.getElem_cons_zero, List.setIfInBounds_toArray, List.set_cons_zero, List.set_cons_succ]
                refine wpAnyH_ready (rs := [4]) (by kernel_rfl) (by simp) ?_
                refine AllReadyH.cons rfl (fun K' hK => ?_) AllReadyH.nil
                go_simp
                refine (HNU.out _).mono ?_
                rintro e x2 ⟨rfl, hb'⟩
                have HB2 : Hid (Below W.heap.size W x2) := HB1.out.trans (hb'.mono HB1.out.size)
                have hb2 := hb1.trans (hb'.mono hb1.size)
                have HTC' : Hid (∀ W', Below x2.heap.size x2 W' → Tx W' (.slice adc 1 capc) [T]) := fun W' h => HTC.out W' (hb'.trans (h.mono hb'.size))
                clear HTC
                clear hb'
                refine hK.out _ _ trivial (fun _ => ?_)
                clear hK K'
                try simp only [Act.put, List.getElem_toArray, List.getElem_cons_succ, List.getElem_cons_zero, List.setIfInBounds_toArray, List.set_cons_zero, List.set_cons_succ]
                refine wpAnyH_ready (rs := [5]) (by kernel_rfl) (by simp) ?_
                refine AllReadyH.cons rfl (fun K' hK => ?_) AllReadyH.nil
                have HT3 : Hid (Tx (x2.alloc (.cells #[.string ⟨T.toArray⟩] 9)) (.slice (some ⟨x2.heap.size, 0, none⟩) 1 1) [T]) := Tx.one x2 T
                have hb' := below_new x2 (.cells #[.string ⟨T.toArray⟩] 9)
                have HTC2 : Hid (Tx (x2.alloc (.cells #[.string ⟨T.toArray⟩] 9)) (.slice adc 1 capc) [T]) := HTC'.out _ hb'
                have HB3 : Hid (Below W.heap.size W (x2.alloc (.cells #[.string ⟨T.toArray⟩] 9))) := HB2.out.trans (hb'.mono HB2.out.size)
                have hb3 := hb2.trans (hb'.mono hb2.size)
                clear hb'
                go_simp
                refine hK.out _ _ trivial (fun _ => ?_)
                clear hK K'
                try simp only [Act.put, List.getElem_toArray, List.getElem_cons_succ, List.getElem_cons_zero, List.setIfInBounds_toArray, List.set_cons_zero, List.set_cons_succ]
                refine wpAnyH_ready (rs := [6]) (by kernel_rfl) (by simp) ?_
                refine AllReadyH.cons rfl (fun K' hK => ?_) AllReadyH.nil
                go_simp
                refine (HST.out _ [T] _ _ _ _ _ _ HTC2.out HT3.out (by simp)).mono ?_
                rintro e x4 ⟨rfl, hb'⟩
                have HB4 : Hid (Below W.heap.size W x4) := HB3.out.trans (hb'.mono HB3.out.size)
                have hb4 := hb3.trans (hb'.mono hb3.size)
                clear hb'
                refine hK.out _ _ trivial (fun _ => ?_)
                clear hK K'
                try simp only [Act.put, List.getElem_toArray, List.getElem_cons_succ, List.getElem_cons_zero, List.setIfInBounds_toArray, List.set_cons_zero, List.set_cons_succ]
                refine wpAnyH_take (i := 7) (v := .bool true) rfl (by kernel_rfl) (by kernel_rfl) (by kernel_rfl) (fun _ _ _ h => h) (Yields.yieldsIf (Or.inl ⟨by rfl, by intro wz; go_simp⟩)) hS0 ?_
                try simp only [Act.put, List.getElem_toArray, List.getElem_cons_succ, List.getElem_cons_zero, List.setIfInBounds_toArray, List.set_cons_zero, List.set_cons_succ]
                refine wpAnyH_take (i := 8) (v := .slice adm m.length capm) rfl (by kernel_rfl) (by kernel_rfl) (by kernel_rfl) (fun _ _ _ h => h) (Yields.yieldsIf (Or.inl ⟨by rfl, by intro wz; go_simp⟩)) hS0 ?_
                try simp only [Act.put, List.getElem_toArray, List.getElem_cons_succ, List.getElem_cons_zero, List.setIfInBounds_toArray, List.set_cons_zero, List.set_cons_succ]
                refine wpAnyH_take (i := 9) (v := .int .i64 n) rfl (by kernel_rfl) (by kernel_rfl) (by kernel_rfl) (fun _ _ _ h => h) (Yields.yieldsIf (Or.inl ⟨by rfl, by intro wz; go_simp⟩)) hS0 ?_
                try simp only [Act.put, List.getElem_toArray, List.getElem_cons_succ, List.getElem_cons_zero, List.setIfInBounds_toArray, List.set_cons_zero, List.set_cons_succ]
                refine wpAnyH_take (i := 11) (v := .slice none 0 0) rfl (by kernel_rfl) (by kernel_rfl) (by kernel_rfl) (fun _ _ _ h => h) (Yields.yieldsIf (Or.inl ⟨by rfl, by intro wz; go_simp⟩)) hS0 ?_
                try simp only [Act.put, List.getElem_toArray, List.getElem_cons_succ, List.getElem_cons_zero, List.setIfInBounds_toArray, List.set_cons_zero, List.set_cons_succ]
                refine wpAnyH_ready (rs := [10]) (by kernel_rfl) (by simp) ?_
                refine AllReadyH.cons rfl (fun K' hK => ?_) AllReadyH.nil
                go_simp
                refine (HPC.out _ HB4.out).mono ?_
                rintro e x5 ⟨adq, qq, capq, rfl, tq, hb'⟩
                have HB5 : Hid (Below W.heap.size W x5) := HB4.out.trans (hb'.mono HB4.out.size)
                have hb5 := hb4.trans (hb'.mono hb4.size)
                have HTK : Hid (Tx x5 (.slice adq qq capq) PK) := tq
                clear tq
                clear hb'
                refine hK.out _ _ trivial (fun _ => ?_)
                clear hK K'
                try simp only [Act.put, List.getElem_toArray, List.getElem_cons_succ, List.getElem_cons_zero, List.setIfInBounds_toArray, List.set_cons_zero, List.set_cons_succ]
                refine wpAnyH_ready (rs := [12]) (by kernel_rfl) (by simp) ?_
                refine AllReadyH.cons rfl (fun K' hK => ?_) AllReadyH.nil
                go_simp
                refine (HST.out _ PK _ _ _ _ _ _ HTK.out (HTQ.out _ hb5) HPL.out).mono ?_
                rintro e x6 ⟨rfl, hb'⟩
                have HB6 : Hid (Below W.heap.size W x6) := HB5.out.trans (hb'.mono HB5.out.size)
                have hb6 := hb5.trans (hb'.mono hb5.size)
                clear hb'
                refine hK.out _ _ trivial (fun _ => ?_)
                clear hK K'
                try simp only [Act.put, List.getElem_toArray, List.getElem_cons_succ, List.getElem_cons_zero, List.setIfInBounds_toArray, List.set_cons_zero, List.set_cons_succ]
                refine wpAnyH_take (i := 13) (v := .bool true) rfl (by kernel_rfl) (by kernel_rfl) (by kernel_rfl) (fun _ _ _ h => h) (Yields.yieldsIf (Or.inl ⟨by rfl, by intro wz; go_simp⟩)) hS0 ?_
                try simp only [Act.put, List.getElem_toArray, List.getElem_cons_succ, List.getElem_cons_zero, List.setIfInBounds_toArray, List.set_cons_zero, List.set_cons_succ]
                refine wpAnyH_take (i := 14) (v := .bool true) rfl (by kernel_rfl) (by kernel_rfl) (by kernel_rfl) (fun _ _ _ h => h) (Yields.yieldsIf (Or.inl ⟨by rfl, by intro wz; go_simp⟩)) hS0 ?_
                try simp only [Act.put, List.getElem_toArray, List.getElem_cons_succ, List.getElem_cons_zero, List.setIfInBounds_toArray, List.set_cons_zero, List.set_cons_succ]
                refine wpAnyH_take (i := 15) (v := .string ⟨s.toArray⟩) rfl (by kernel_rfl) (by kernel_rfl) (by kernel_rfl) (fun _ _ _ h => h) (Yields.yieldsIf (Or.inl ⟨by rfl, by intro wz; go_simp⟩)) hS0 ?_
                try simp only [Act.put, List.getElem_toArray, List.getElem_cons_succ, List.getElem_cons_zero, List.setIfInBounds_toArray, List.set_cons_zero, List.set_cons_succ]
                refine wpAnyH_take (i := 17) (v := .string ⟨s.toArray⟩) rfl (by kernel_rfl) (by kernel_rfl) (by kernel_rfl) (fun _ _ _ h => h) (Yields.yieldsIf (Or.inl ⟨by rfl, by intro wz; go_simp⟩)) hS0 ?_
                try simp only [Act.put, List.getElem_toArray, List.getElem_cons_succ, List.getElem_cons_zero, List.setIfInBounds_toArray, List.set_cons_zero, List.set_cons_succ]
                refine wpAnyH_ready (rs := [16]) (by kernel_rfl) (by simp) ?_
                refine AllReadyH.cons rfl (fun K' hK => ?_) AllReadyH.nil
                go_simp
                refine (HTR.out _).mono ?_
                rintro e x7 ⟨rfl, hx7⟩
                subst hx7
                refine hK.out _ _ trivial (fun _ => ?_)
                clear hK K'
                try simp only [Act.put, List.getElem_toArray, List.getElem_cons_succ, List.getElem_cons_zero, List.setIfInBounds_toArray, List.set_cons_zero, List.set_cons_succ]
                refine wpAnyH_ready (rs := [18]) (by kernel_rfl) (by simp) ?_
                refine AllReadyH.cons rfl (fun K' hK => ?_) AllReadyH.nil
                go_simp
                refine (HTR2.out _).mono ?_
                rintro e x8 ⟨rfl, hx8⟩
                subst hx8
                refine hK.out _ _ trivial (fun _ => ?_)
                clear hK K'
                try simp only [Act.put, List.getElem_toArray, List.getElem_cons_succ, List.getElem_cons_zero, List.setIfInBounds_toArray, List.set_cons_zero, List.set_cons_succ]
                refine wpAnyH_take (i := 19) (v := .bool true) rfl (by kernel_rfl) (by kernel_rfl) (by kernel_rfl) (fun _ _ _ h => h) (Yields.yieldsIf (Or.inl ⟨by rfl, by intro wz; go_simp⟩)) hS0 ?_
                try simp only [Act.put, List.getElem_toArray, List.getElem_cons_succ, List.getElem_cons_zero, List.setIfInBounds_toArray, List.set_cons_zero, List.set_cons_succ]
                refine wpAnyH_take (i := 20) (v := .bool true) rfl (by kernel_rfl) (by kernel_rfl) (by kernel_rfl) (fun _ _ _ h => h) (Yields.yieldsIf (Or.inl ⟨by rfl, by intro wz; go_simp⟩)) hS0 ?_
                try simp only [Act.put, List.getElem_toArray, List.getElem_cons_succ, List.getElem_cons_zero, List.setIfInBounds_toArray, List.set_cons_zero, List.set_cons_succ]
                refine wpAnyH_take (i := 21) (v := .bool true) rfl (by kernel_rfl) (by kernel_rfl) (by kernel_rfl) (fun _ _ _ h => h) (Yields.yieldsIf (Or.inl ⟨by rfl, by intro wz; go_simp⟩)) hS0 ?_
                try simp only [Act.put, List.getElem_toArray, List.getElem_cons_succ, List.getElem_cons_zero, List.setIfInBounds_toArray, List.set_cons_zero, List.set_cons_succ]
                refine wpAnyH_take (i := 22) (v := .slice adm m.length capm) rfl (by kernel_rfl) (by kernel_rfl) (by kernel_rfl) (fun _ _ _ h => h) (Yields.yieldsIf (Or.inl ⟨by rfl, by intro wz; go_simp⟩)) hS0 ?_
                try simp only [Act.put, List.getElem_toArray, List.getElem_cons_succ, List.getElem_cons_zero, List.setIfInBounds_toArray, List.set_cons_zero, List.set_cons_succ]
                refine wpAnyH_take (i := 23) (v := .slice adn ns.length capn) rfl (by kernel_rfl) (by kernel_rfl) (by kernel_rfl) (fun _ _ _ h => h) (Yields.yieldsIf (Or.inl ⟨by rfl, by intro wz; go_simp⟩)) hS0 ?_
                try simp only [Act.put, List.getElem_toArray, List.getElem_cons_succ, List.getElem_cons_zero, List.setIfInBounds_toArray, List.set_cons_zero, List.set_cons_succ]
                refine wpAnyH_take (i := 25) (v := .slice adm m.length capm) rfl (by kernel_rfl) (by kernel_rfl) (by kernel_rfl) (fun _ _ _ h => h) (Yields.yieldsIf (Or.inl ⟨by rfl, by intro wz; go_simp⟩)) hS0 ?_
                try simp only [Act.put, List.getElem_toArray, List.getElem_cons_succ, List.getElem_cons_zero, List.setIfInBounds_toArray, List.set_cons_zero, List.set_cons_succ]
                refine wpAnyH_take (i := 26) (v := .slice adn ns.length capn) rfl (by kernel_rfl) (by kernel_rfl) (by kernel_rfl) (fun _ _ _ h => h) (Yields.yieldsIf (Or.inl ⟨by rfl, by intro wz; go_simp⟩)) hS0 ?_
                try simp only [Act.put, List.getElem_toArray, List.getElem_cons_succ, List.getElem_cons_zero, List.setIfInBounds_toArray, List.set_cons_zero, List.set_cons_succ]
                refine wpAnyH_ready (rs := [24]) (by kernel_rfl) (by simp) ?_
                refine AllReadyH.cons rfl (fun K' hK => ?_) AllReadyH.nil
                go_simp
                refine (HLS.out _ HB6.out).mono ?_
                rintro e x9 ⟨rfl, hb'⟩
                have HB9 : Hid (Below W.heap.size W x9) := HB6.out.trans (hb'.mono HB6.out.size)
                have hb9 := hb6.trans (hb'.mono hb6.size)
                clear hb'
                refine hK.out _ _ trivial (fun _ => ?_)
                clear hK K'
                try simp only [Act.put, List.getElem_toArray, List.getElem_cons_succ, List.getElem_cons_zero, List.setIfInBounds_toArray, List.set_cons_zero, List.set_cons_succ]
                refine wpAnyH_ready (rs := [27]) (by kernel_rfl) (by simp) ?_
                refine AllReadyH.cons rfl (fun K' hK => ?_) AllReadyH.nil
                go_simp
                refine (HLT.out _ HB9.out).mono ?_
                rintro e x10 ⟨rfl, hb'⟩
                have HB10 : Hid (Below W.heap.size W x10) := HB9.out.trans (hb'.mono HB9.out.size)
                have hb10 := hb9.trans (hb'.mono hb9.size)
                clear hb'
                refine hK.out _ _ trivial (fun _ => ?_)
                clear hK K'
                try simp only [Act.put, List.getElem_toArray, List.getElem_cons_succ, List.getElem_cons_zero, List.setIfInBounds_toArray, List.set_cons_zero, List.set_cons_succ]
                refine wpAnyH_take (i := 28) (v := .bool true) rfl (by kernel_rfl) (by kernel_rfl) (by kernel_rfl) (fun _ _ _ h => h) (Yields.yieldsIf (Or.inl ⟨by rfl, by intro wz; go_simp⟩)) hS0 ?_
                try simp only [Act.put, List.getElem_toArray, List.getElem_cons_succ, List.getElem_cons_zero, List.setIfInBounds_toArray, List.set_cons_zero, List.set_cons_succ]
                refine wpAnyH_take (i := 29) (v := .bool true) rfl (by kernel_rfl) (by kernel_rfl) (by kernel_rfl) (fun _ _ _ h => h) (Yields.yieldsIf (Or.inl ⟨by rfl, by intro wz; go_simp⟩)) hS0 ?_
                try simp only [Act.put, List.getElem_toArray, List.getElem_cons_succ, List.getElem_cons_zero, List.setIfInBounds_toArray, List.set_cons_zero, List.set_cons_succ]
                refine wpAnyH_take (i := 30) (v := .bool true) rfl (by kernel_rfl) (by kernel_rfl) (by kernel_rfl) (fun _ _ _ h => h) (Yields.yieldsIf (Or.inl ⟨by rfl, by intro wz; go_simp⟩)) hS0 ?_
                try simp only [Act.put, List.getElem_toArray, List.getElem_cons_succ, List.getElem_cons_zero, List.setIfInBounds_toArray, List.set_cons_zero, List.set_cons_succ]
                refine wpAnyH_take (i := 31) (v := .slice adm m.length capm) rfl (by kernel_rfl) (by kernel_rfl) (by kernel_rfl) (fun _ _ _ h => h) (Yields.yieldsIf (Or.inl ⟨by rfl, by intro wz; go_simp⟩)) hS0 ?_
                try simp only [Act.put, List.getElem_toArray, List.getElem_cons_succ, List.getElem_cons_zero, List.setIfInBounds_toArray, List.set_cons_zero, List.set_cons_succ]
                refine wpAnyH_take (i := 34) (v := .slice adm m.length capm) rfl (by kernel_rfl) (by kernel_rfl) (by kernel_rfl) (fun _ _ _ h => h) (Yields.yieldsIf (Or.inl ⟨by rfl, by intro wz; go_simp⟩)) hS0 ?_
                try simp only [Act.put, List.getElem_toArray, List.getElem_cons_succ, List.getElem_cons_zero, List.setIfInBounds_toArray, List.set_cons_zero, List.set_cons_succ]
                refine wpAnyH_ready (rs := [32]) (by kernel_rfl) (by simp) ?_
                refine AllReadyH.cons rfl (fun K' hK => ?_) AllReadyH.nil
                go_simp
                refine (HFT.out _ HB10.out).mono ?_
                rintro e x11 ⟨rfl, hb'⟩
                have HB11 : Hid (Below W.heap.size W x11) := HB10.out.trans (hb'.mono HB10.out.size)
                have hb11 := hb10.trans (hb'.mono hb10.size)
                clear hb'
                refine hK.out _ _ trivial (fun _ => ?_)
                clear hK K'
                try simp only [Act.put, List.getElem_toArray, List.getElem_cons_succ, List.getElem_cons_zero, List.setIfInBounds_toArray, List.set_cons_zero, List.set_cons_succ]
                cases ff
                · rw [show fitV (ea 0) false = bigV (ea 0) from rfl]
                  refine wpAnyH_take (i := 33) (v := .bool false) rfl (by kernel_rfl) (by kernel_rfl) (by kernel_rfl) (fun _ _ _ h => h) (Yields.yieldsIf (Or.inl ⟨by rfl, by intro wz; go_simp⟩)) hS0 ?_
                  try simp only [Act.put, List.getElem_toArray, List.getElem_cons_succ, List.getElem_cons_zero, List.setIfInBounds_toArray, List.set_cons_zero, List.set_cons_succ]
                  refine wpAnyH_ready (rs := [35]) (by kernel_rfl) (by simp) ?_
                  refine AllReadyH.cons rfl (fun K' hK => ?_) AllReadyH.nil
                  go_simp
                  refine (HFR.out _ HB11.out).mono ?_
                  rintro e x12 ⟨rfl, hx12⟩
                  subst hx12
                  refine hK.out _ _ trivial (fun _ => ?_)
                  clear hK K'
                  try simp only [Act.put, List.getElem_toArray, List.getElem_cons_succ, List.getElem_cons_zero, List.setIfInBounds_toArray, List.set_cons_zero, List.set_cons_succ]
                  refine wpAnyH_take (i := 36) (v := .bool true) rfl (by kernel_rfl) (by kernel_rfl) (by kernel_rfl) (fun _ _ _ h => h) (Yields.yieldsIf (Or.inl ⟨by rfl, by intro wz; go_simp⟩)) hS0 ?_
                  try simp only [Act.put, List.getElem_toArray, List.getElem_cons_succ, List.getElem_cons_zero, List.setIfInBounds_toArray, List.set_cons_zero, List.set_cons_succ]
                  refine wpAnyH_take (i := 37) (v := .bool true) rfl (by kernel_rfl) (by kernel_rfl) (by kernel_rfl) (fun _ _ _ h => h) (Yields.yieldsIf (Or.inl ⟨by rfl, by intro wz; go_simp⟩)) hS0 ?_
                  try simp only [Act.put, List.getElem_toArray, List.getElem_cons_succ, List.getElem_cons_zero, List.setIfInBounds_toArray, List.set_cons_zero, List.set_cons_succ]
                  refine wpAnyH_take (i := 38) (v := .bool true) rfl (by kernel_rfl) (by kernel_rfl) (by kernel_rfl) (fun _ _ _ h => h) (Yields.yieldsIf (Or.inl ⟨by rfl, by intro wz; go_simp⟩)) hS0 ?_
                  try simp only [Act.put, List.getElem_toArray, List.getElem_cons_succ, List.getElem_cons_zero, List.setIfInBounds_toArray, List.set_cons_zero, List.set_cons_succ]
                  refine wpAnyH_done (by kernel_rfl) ?_ _
                  clear hS0
                  go_wp2_with fail
                  go_ret
                  exact ⟨rfl, HB11.out⟩
                · rw [show fitV (ea 0) true = .nilIface from rfl]
                  refine wpAnyH_take (i := 33) (v := .bool true) rfl (by kernel_rfl) (by kernel_rfl) (by kernel_rfl) (fun _ _ _ h => h) (Yields.yieldsIf (Or.inl ⟨by rfl, by intro wz; go_simp⟩)) hS0 ?_
                  try simp only [Act.put, List.getElem_toArray, List.getElem_cons_succ, List.getElem_cons_zero, List.setIfInBounds_toArray, List.set_cons_zero, List.set_cons_succ]
                  refine wpAnyH_ready (rs := [35]) (by kernel_rfl) (by simp) ?_
                  refine AllReadyH.cons rfl (fun K' hK => ?_) AllReadyH.nil
                  go_simp
                  refine (HFR.out _ HB11.out).mono ?_
                  rintro e x12 ⟨rfl, hx12⟩
                  subst hx12
                  refine hK.out _ _ trivial (fun _ => ?_)
                  clear hK K'
                  try simp only [Act.put, List.getElem_toArray, List.getElem_cons_succ, List.getElem_cons_zero, List.setIfInBounds_toArray, List.set_cons_zero, List.set_cons_succ]
                  refine wpAnyH_take (i := 36) (v := .bool true) rfl (by kernel_rfl) (by kernel_rfl) (by kernel_rfl) (fun _ _ _ h => h) (Yields.yieldsIf (Or.inl ⟨by rfl, by intro wz; go_simp⟩)) hS0 ?_
                  try simp only [Act.put, List.getElem_toArray, List.getElem_cons_succ, List.getElem_cons_zero, List.setIfInBounds_toArray, List.set_cons_zero, List.set_cons_succ]
                  refine wpAnyH_take (i := 37) (v := .bool true) rfl (by kernel_rfl) (by kernel_rfl) (by kernel_rfl) (fun _ _ _ h => h) (Yields.yieldsIf (Or.inl ⟨by rfl, by intro wz; go_simp⟩)) hS0 ?_
                  try simp only [Act.put, List.getElem_toArray, List.getElem_cons_succ, List.getElem_cons_zero, List.setIfInBounds_toArray, List.set_cons_zero, List.set_cons_succ]
                  refine wpAnyH_take (i := 38) (v := .bool true) rfl (by kernel_rfl) (by kernel_rfl) (by kernel_rfl) (fun _ _ _ h => h) (Yields.yieldsIf (Or.inl ⟨by rfl, by intro wz; go_simp⟩)) hS0 ?_
                  try simp only [Act.put, List.getElem_toArray, List.getElem_cons_succ, List.getElem_cons_zero, List.setIfInBounds_toArray, List.set_cons_zero, List.set_cons_succ]
                  refine wpAnyH_done (by kernel_rfl) ?_ _
                  clear hS0
                  go_wp2_with fail
                  go_ret
                  exact ⟨rfl, HB11.out⟩
            by_cases hp2 : (m.length : Int) < n
            · as_aux_lemma =>
                have hg1 : (1 : Int) ≤ n := by omega
                have hg2 : ¬ n ≤ (m.length : Int) := by omega
                have HPE : Hid (pickL m n = []) := by unfold Hid pickL; rw [if_neg (by omega)]
                have HTP : Hid (∀ W', Below w21.heap.size w21 W' → Tx W' (.slice none 0 0) PK) := fun W' _ => by rw [← HPK.out, HPE.out]; exact .inl ⟨rfl, rfl⟩
                have HBp := HB21
                go_wp2_with fail
                refine wp_region_held (S := (fun _ : World => True)) (by kernel_rfl) ?_
                change wpAnyH _ _ _ _ _ _ _ _ (World.drew _)
                have hS0 : (fun _ : World => True) (w21.drew) := trivial
                have HBA : Hid (Below W.heap.size W w21.drew) := HBp.out.drew
                have HTQ : Hid (∀ W', Below w21.drew.heap.size w21.drew W' → Tx W' (.slice none 0 0) PK) := fun W' h => HTP.out W' (((Below.refl _ w21).drew).trans h)
                have hbA : Below w21.drew.heap.size w21.drew w21.drew := Below.refl _ _
                refine wpAnyH_take (i := 0) (v := .slice adm m.length capm) rfl (by kernel_rfl) (by kernel_rfl) (by kernel_rfl) (fun _ _ _ h => h) (Yields.yieldsIf (Or.inl ⟨by rfl, by intro wz; go_simp⟩)) hS0 ?_
                try simp only [Act.put, List.getElem_toArray, List.getElem_cons_zero, List.setIfInBounds_toArray, List.set_cons_zero, List.set_cons_succ]
                refine wpAnyH_take (i := 2) (v := .slice adm m.length capm) rfl (by kernel_rfl) (by kernel_rfl) (by kernel_rfl) (fun _ _ _ h => h) (Yields.yieldsIf (Or.inl ⟨by rfl, by intro wz; go_simp⟩)) hS0 ?_
                try simp only [Act.put, List.getElem_toArray, List.getElem_cons_succ, List.getElem_cons_zero, List.setIfInBounds_toArray, List.set_cons_zero, List.set_cons_succ]
                refine wpAnyH_take (i := 3) (v := .int .i64 (m.length : Nat)) rfl (by kernel_rfl) (by kernel_rfl) (by kernel_rfl) (fun _ _ _ h => h) (Yields.yieldsIf (Or.inl ⟨by rfl, by intro wz; go_simp⟩)) hS0 ?_
                try simp only [Act.put, List.getElem_toArray, List.getElem_cons_succ, List.getElem_cons_zero, List.setIfInBounds_toArray, List.set_cons_zero, List.set_cons_succ]
                refine wpAnyH_ready (rs := [1]) (by kernel_rfl) (by simp) ?_
                refine AllReadyH.cons rfl (fun K' hK => ?_) AllReadyH.nil
                go_simp
                refine (HCN.out _ HBA.out).mono ?_
                rintro e x1 ⟨adc, capc, rfl, tc, hb'⟩
                have HB1 : Hid (Below W.heap.size W x1) := HBA.out.trans (hb'.mono HBA.out.size)
                have hb1 := hbA.trans (hb'.mono hbA.size)
                have HTC : Hid (∀ W', Below x1.heap.size x1 W' → Tx W' (.slice adc 1 capc) [T]) := fun W' h => tc.below h (Nat.le_refl _)
                clear tc
                clear hb'
                refine hK.out _ _ trivial (fun _ => ?_)
                clear hK K'
                try simp only [Act.put, List.getElem_toArray, List.getElem_cons_succ, List.getElem_cons_zero, List.setIfInBounds_toArray, List.set_cons_zero, List.set_cons_succ]
                refine wpAnyH_ready (rs := [4]) (by kernel_rfl) (by simp) ?_
                refine AllReadyH.cons rfl (fun K' hK => ?_) AllReadyH.nil
                go_simp
                refine (HNU.out _).mono ?_
                rintro e x2 ⟨rfl, hb'⟩
                have HB2 : Hid (Below W.heap.size W x2) := HB1.out.trans (hb'.mono HB1.out.size)
                have hb2 := hb1.trans (hb'.mono hb1.size)
                have HTC' : Hid (∀ W', Below x2.heap.size x2 W' → Tx W' (.slice adc 1 capc) [T]) := fun W' h => HTC.out W' (hb'.trans (h.mono hb'.size))
                clear HTC
                clear hb'
                refine hK.out _ _ trivial (fun _ => ?_)
                clear hK K'
                try simp only [Act.put, List.getElem_toArray, List.getElem_cons_succ, List.getElem_cons_zero, List.setIfInBounds_toArray, List.set_cons_zero, List.set_cons_succ]
                refine wpAnyH_ready (rs := [5]) (by kernel_rfl) (by simp) ?_
                refine AllReadyH.cons rfl (fun K' hK => ?_) AllReadyH.nil
                have HT3 : Hid (Tx (x2.alloc (.cells #[.string ⟨T.toArray⟩] 9)) (.slice (some ⟨x2.heap.size, 0, none⟩) 1 1) [T]) := Tx.one x2 T
                have hb' := below_new x2 (.cells #[.string ⟨T.toArray⟩] 9)
                have HTC2 : Hid (Tx (x2.alloc (.cells #[.string ⟨T.toArray⟩] 9)) (.slice adc 1 capc) [T]) := HTC'.out _ hb'
                have HB3 : Hid (Below W.heap.size W (x2.alloc (.cells #[.string ⟨T.toArray⟩] 9))) := HB2.out.trans (hb'.mono HB2.out.size)
                have hb3 := hb2.trans (hb'.mono hb2.size)
                clear hb'
                go_simp
                refine hK.out _ _ trivial (fun _ => ?_)
                clear hK K'
                try simp only [Act.put, List.getElem_toArray, List.getElem_cons_succ, List.getElem_cons_zero, List.setIfInBounds_toArray, List.set_cons_zero, List.set_cons_succ]
                refine wpAnyH_ready (rs := [6]) (by kernel_rfl) (by simp) ?_
                refine AllReadyH.cons rfl (fun K' hK => ?_) AllReadyH.nil
                go_simp
                refine (HST.out _ [T] _ _ _ _ _ _ HTC2.out HT3.out (by simp)).mono ?_
                rintro e x4 ⟨rfl, hb'⟩
                have HB4 : Hid (Below W.heap.size W x4) := HB3.out.trans (hb'.mono HB3.out.size)
                have hb4 := hb3.trans (hb'.mono hb3.size)
                clear hb'
                refine hK.out _ _ trivial (fun _ => ?_)
                clear hK K'
                try simp only [Act.put, List.getElem_toArray, List.getElem_cons_succ, List.getElem_cons_zero, List.setIfInBounds_toArray, List.set_cons_zero, List.set_cons_succ]
                refine wpAnyH_take (i := 7) (v := .bool true) rfl (by kernel_rfl) (by kernel_rfl) (by kernel_rfl) (fun _ _ _ h => h) (Yields.yieldsIf (Or.inl ⟨by rfl, by intro wz; go_simp⟩)) hS0 ?_
                try simp only [Act.put, List.getElem_toArray, List.getElem_cons_succ, List.getElem_cons_zero, List.setIfInBounds_toArray, List.set_cons_zero, List.set_cons_succ]
                refine wpAnyH_take (i := 8) (v := .slice adm m.length capm) rfl (by kernel_rfl) (by kernel_rfl) (by kernel_rfl) (fun _ _ _ h => h) (Yields.yieldsIf (Or.inl ⟨by rfl, by intro wz; go_simp⟩)) hS0 ?_
                try simp only [Act.put, List.getElem_toArray, List.getElem_cons_succ, List.getElem_cons_zero, List.setIfInBounds_toArray, List.set_cons_zero, List.set_cons_succ]
                refine wpAnyH_take (i := 9) (v := .int .i64 n) rfl (by kernel_rfl) (by kernel_rfl) (by kernel_rfl) (fun _ _ _ h => h) (Yields.yieldsIf (Or.inl ⟨by rfl, by intro wz; go_simp⟩)) hS0 ?_
                try simp only [Act.put, List.getElem_toArray, List.getElem_cons_succ, List.getElem_cons_zero, List.setIfInBounds_toArray, List.set_cons_zero, List.set_cons_succ]
                refine wpAnyH_take (i := 11) (v := .slice none 0 0) rfl (by kernel_rfl) (by kernel_rfl) (by kernel_rfl) (fun _ _ _ h => h) (Yields.yieldsIf (Or.inl ⟨by rfl, by intro wz; go_simp⟩)) hS0 ?_
                try simp only [Act.put, List.getElem_toArray, List.getElem_cons_succ, List.getElem_cons_zero, List.setIfInBounds_toArray, List.set_cons_zero, List.set_cons_succ]
                refine wpAnyH_ready (rs := [10]) (by kernel_rfl) (by simp) ?_
                refine AllReadyH.cons rfl (fun K' hK => ?_) AllReadyH.nil
                go_simp
                refine (HPC.out _ HB4.out).mono ?_
                rintro e x5 ⟨adq, qq, capq, rfl, tq, hb'⟩
                have HB5 : Hid (Below W.heap.size W x5) := HB4.out.trans (hb'.mono HB4.out.size)
                have hb5 := hb4.trans (hb'.mono hb4.size)
                have HTK : Hid (Tx x5 (.slice adq qq capq) PK) := tq
                clear tq
                clear hb'
                refine hK.out _ _ trivial (fun _ => ?_)
                clear hK K'
                try simp only [Act.put, List.getElem_toArray, List.getElem_cons_succ, List.getElem_cons_zero, List.setIfInBounds_toArray, List.set_cons_zero, List.set_cons_succ]
                refine wpAnyH_ready (rs := [12]) (by kernel_rfl) (by simp) ?_
                refine AllReadyH.cons rfl (fun K' hK => ?_) AllReadyH.nil
                go_simp
                refine (HST.out _ PK _ _ _ _ _ _ HTK.out (HTQ.out _ hb5) HPL.out).mono ?_
                rintro e x6 ⟨rfl, hb'⟩
                have HB6 : Hid (Below W.heap.size W x6) := HB5.out.trans (hb'.mono HB5.out.size)
                have hb6 := hb5.trans (hb'.mono hb5.size)
                clear hb'
                refine hK.out _ _ trivial (fun _ => ?_)
                clear hK K'
                try simp only [Act.put, List.getElem_toArray, List.getElem_cons_succ, List.getElem_cons_zero, List.setIfInBounds_toArray, List.set_cons_zero, List.set_cons_succ]
                refine wpAnyH_take (i := 13) (v := .bool true) rfl (by kernel_rfl) (by kernel_rfl) (by kernel_rfl) (fun _ _ _ h => h) (Yields.yieldsIf (Or.inl ⟨by rfl, by intro wz; go_simp⟩)) hS0 ?_
                try simp only [Act.put, List.getElem_toArray, List.getElem_cons_succ, List.getElem_cons_zero, List.setIfInBounds_toArray, List.set_cons_zero, List.set_cons_succ]
                refine wpAnyH_take (i := 14) (v := .bool true) rfl (by kernel_rfl) (by kernel_rfl) (by kernel_rfl) (fun _ _ _ h => h) (Yields.yieldsIf (Or.inl ⟨by rfl, by intro wz; go_simp⟩)) hS0 ?_
                try simp only [Act.put, List.getElem_toArray, List.getElem_cons_succ, List.getElem_cons_zero, List.setIfInBounds_toArray, List.set_cons_zero, List.set_cons_succ]
                refine wpAnyH_take (i := 15) (v := .string ⟨s.toArray⟩) rfl (by kernel_rfl) (by kernel_rfl) (by kernel_rfl) (fun _ _ _ h => h) (Yields.yieldsIf (Or.inl ⟨by rfl, by intro wz; go_simp⟩)) hS0 ?_
                try simp only [Act.put, List.getElem_toArray, List.getElem_cons_succ, List.getElem_cons_zero, List.setIfInBounds_toArray, List.set_cons_zero, List.set_cons_succ]
                refine wpAnyH_take (i := 17) (v := .string ⟨s.toArray⟩) rfl (by kernel_rfl) (by kernel_rfl) (by kernel_rfl) (fun _ _ _ h => h) (Yields.yieldsIf (Or.inl ⟨by rfl, by intro wz; go_simp⟩)) hS0 ?_
                try simp only [Act.put, List.getElem_toArray, List.getElem_cons_succ, List.getElem_cons_zero, List.setIfInBounds_toArray, List.set_cons_zero, List.set_cons_succ]
                refine wpAnyH_ready (rs := [16]) (by kernel_rfl) (by simp) ?_
                refine AllReadyH.cons rfl (fun K' hK => ?_) AllReadyH.nil
                go_simp
                refine (HTR.out _).mono ?_
                rintro e x7 ⟨rfl, hx7⟩
                subst hx7
                refine hK.out _ _ trivial (fun _ => ?_)
                clear hK K'
                try simp only [Act.put, List.getElem_toArray, List.getElem_cons_succ, List.getElem_cons_zero, List.setIfInBounds_toArray, List.set_cons_zero, List.set_cons_succ]
                refine wpAnyH_ready (rs := [18]) (by kernel_rfl) (by simp) ?_
                refine AllReadyH.cons rfl (fun K' hK => ?_) AllReadyH.nil
                go_simp
                refine (HTR2.out _).mono ?_
                rintro e x8 ⟨rfl, hx8⟩
                subst hx8
                refine hK.out _ _ trivial (fun _ => ?_)
                clear hK K'
                try simp only [Act.put, List.getElem_toArray, List.getElem_cons_succ, List.getElem_cons_zero, List.setIfInBounds_toArray, List.set_cons_zero, List.set_cons_succ]
                refine wpAnyH_take (i := 19) (v := .bool true) rfl (by kernel_rfl) (by kernel_rfl) (by kernel_rfl) (fun _ _ _ h => h) (Yields.yieldsIf (Or.inl ⟨by rfl, by intro wz; go_simp⟩)) hS0 ?_
                try simp only [Act.put, List.getElem_toArray, List.getElem_cons_succ, List.getElem_cons_zero, List.setIfInBounds_toArray, List.set_cons_zero, List.set_cons_succ]
                refine wpAnyH_take (i := 20) (v := .bool true) rfl (by kernel_rfl) (by kernel_rfl) (by kernel_rfl) (fun _ _ _ h => h) (Yields.yieldsIf (Or.inl ⟨by rfl, by intro wz; go_simp⟩)) hS0 ?_
                try simp only [Act.put, List.getElem_toArray, List.getElem_cons_succ, List.getElem_cons_zero, List.setIfInBounds_toArray, List.set_cons_zero, List.set_cons_succ]
                refine wpAnyH_take (i := 21) (v := .bool true) rfl (by kernel_rfl) (by kernel_rfl) (by kernel_rfl) (fun _ _ _ h => h) (Yields.yieldsIf (Or.inl ⟨by rfl, by intro wz; go_simp⟩)) hS0 ?_
                try simp only [Act.put, List.getElem_toArray, List.getElem_cons_succ, List.getElem_cons_zero, List.setIfInBounds_toArray, List.set_cons_zero, List.set_cons_succ]
                refine wpAnyH_take (i := 22) (v := .slice adm m.length capm) rfl (by kernel_rfl) (by kernel_rfl) (by kernel_rfl) (fun _ _ _ h => h) (Yields.yieldsIf (Or.inl ⟨by rfl, by intro wz; go_simp⟩)) hS0 ?_
                try simp only [Act.put, List.getElem_toArray, List.getElem_cons_succ, List.getElem_cons_zero, List.setIfInBounds_toArray, List.set_cons_zero, List.set_cons_succ]
                refine wpAnyH_take (i := 23) (v := .slice adn ns.length capn) rfl (by kernel_rfl) (by kernel_rfl) (by kernel_rfl) (fun _ _ _ h => h) (Yields.yieldsIf (Or.inl ⟨by rfl, by intro wz; go_simp⟩)) hS0 ?_
                try simp only [Act.put, List.getElem_toArray, List.getElem_cons_succ, List.getElem_cons_zero, List.setIfInBounds_toArray, List.set_cons_zero, List.set_cons_succ]
                refine wpAnyH_take (i := 25) (v := .slice adm m.length capm) rfl (by kernel_rfl) (by kernel_rfl) (by kernel_rfl) (fun _ _ _ h => h) (Yields.yieldsIf (Or.inl ⟨by rfl, by intro wz; go_simp⟩)) hS0 ?_
                try simp only [Act.put, List.getElem_toArray, List.getElem_cons_succ, List.getElem_cons_zero, List.setIfInBounds_toArray, List.set_cons_zero, List.set_cons_succ]
                refine wpAnyH_take (i := 26) (v := .slice adn ns.length capn) rfl (by kernel_rfl) (by kernel_rfl) (by kernel_rfl) (fun _ _ _ h => h) (Yields.yieldsIf (Or.inl ⟨by rfl, by intro wz; go_simp⟩)) hS0 ?_
                try simp only [Act.put, List.getElem_toArray, List.getElem_cons_succ, List.getElem_cons_zero, List.setIfInBounds_toArray, List.set_cons_zero, List.set_cons_succ]
                refine wpAnyH_ready (rs := [24]) (by kernel_rfl) (by simp) ?_
                refine AllReadyH.cons rfl (fun K' hK => ?_) AllReadyH.nil
                go_simp
                refine (HLS.out _ HB6.out).mono ?_
                rintro e x9 ⟨rfl, hb'⟩
                have HB9 : Hid (Below W.heap.size W x9) := HB6.out.trans (hb'.mono HB6.out.size)
                have hb9 := hb6.trans (hb'.mono hb6.size)
                clear hb'
                refine hK.out _ _ trivial (fun _ => ?_)
                clear hK K'
                try simp only [Act.put, List.getElem_toArray, List.getElem_cons_succ, List.getElem_cons_zero, List.setIfInBounds_toArray, List.set_cons_zero, List.set_cons_succ]
                refine wpAnyH_ready (rs := [27]) (by kernel_rfl) (by simp) ?_
                refine AllReadyH.cons rfl (fun K' hK => ?_) AllReadyH.nil
                go_simp
                refine (HLT.out _ HB9.out).mono ?_
                rintro e x10 ⟨rfl, hb'⟩
                have HB10 : Hid (Below W.heap.size W x10) := HB9.out.trans (hb'.mono HB9.out.size)
                have hb10 := hb9.trans (hb'.mono hb9.size)
                clear hb'
                refine hK.out _ _ trivial (fun _ => ?_)
                clear hK K'
                try simp only [Act.put, List.getElem_toArray, List.getElem_cons_succ, List.getElem_cons_zero, List.setIfInBounds_toArray, List.set_cons_zero, List.set_cons_succ]
                refine wpAnyH_take (i := 28) (v := .bool true) rfl (by kernel_rfl) (by kernel_rfl) (by kernel_rfl) (fun _ _ _ h => h) (Yields.yieldsIf (Or.inl ⟨by rfl, by intro wz; go_simp⟩)) hS0 ?_
                try simp only [Act.put, List.getElem_toArray, List.getElem_cons_succ, List.getElem_cons_zero, List.setIfInBounds_toArray, List.set_cons_zero, List.set_cons_succ]
                refine wpAnyH_take (i := 29) (v := .bool true) rfl (by kernel_rfl) (by kernel_rfl) (by kernel_rfl) (fun _ _ _ h => h) (Yields.yieldsIf (Or.inl ⟨by rfl, by intro wz; go_simp⟩)) hS0 ?_
                try simp only [Act.put, List.getElem_toArray, List.getElem_cons_succ, List.getElem_cons_zero, List.setIfInBounds_toArray, List.set_cons_zero, List.set_cons_succ]
                refine wpAnyH_take (i := 30) (v := .bool true) rfl (by kernel_rfl) (by kernel_rfl) (by kernel_rfl) (fun _ _ _ h => h) (Yields.yieldsIf (Or.inl ⟨by rfl, by intro wz; go_simp⟩)) hS0 ?_
                try simp only [Act.put, List.getElem_toArray, List.getElem_cons_succ, List.getElem_cons_zero, List.setIfInBounds_toArray, List.set_cons_zero, List.set_cons_succ]
                refine wpAnyH_take (i := 31) (v := .slice adm m.length capm) rfl (by kernel_rfl) (by kernel_rfl) (by kernel_rfl) (fun _ _ _ h => h) (Yields.yieldsIf (Or.inl ⟨by rfl, by intro wz; go_simp⟩)) hS0 ?_
                try simp only [Act.put, List.getElem_toArray, List.getElem_cons_succ, List.getElem_cons_zero, List.setIfInBounds_toArray, List.set_cons_zero, List.set_cons_succ]
                refine wpAnyH_take (i := 34) (v := .slice adm m.length capm) rfl (by kernel_rfl) (by kernel_rfl) (by kernel_rfl) (fun _ _ _ h => h) (Yields.yieldsIf (Or.inl ⟨by rfl, by intro wz; go_simp⟩)) hS0 ?_
                try simp only [Act.put, List.getElem_toArray, List.getElem_cons_succ, List.getElem_cons_zero, List.setIfInBounds_toArray, List.set_cons_zero, List.set_cons_succ]
                refine wpAnyH_ready (rs := [32]) (by kernel_rfl) (by simp) ?_
                refine AllReadyH.cons rfl (fun K' hK => ?_) AllReadyH.nil
                go_simp
                refine (HFT.out _ HB10.out).mono ?_
                rintro e x11 ⟨rfl, hb'⟩
                have HB11 : Hid (Below W.heap.size W x11) := HB10.out.trans (hb'.mono HB10.out.size)
                have hb11 := hb10.trans (hb'.mono hb10.size)
                clear hb'
                refine hK.out _ _ trivial (fun _ => ?_)
                clear hK K'
                try simp only [Act.put, List.getElem_toArray, List.getElem_cons_succ, List.getElem_cons_zero, List.setIfInBounds_toArray, List.set_cons_zero, List.set_cons_succ]
                cases ff
                · rw [show fitV (ea 0) false = bigV (ea 0) from rfl]
                  refine wpAnyH_take (i := 33) (v := .bool false) rfl (by kernel_rfl) (by kernel_rfl) (by kernel_rfl) (fun _ _ _ h => h) (Yields.yieldsIf (Or.inl ⟨by rfl, by intro wz; go_simp⟩)) hS0 ?_
                  try simp only [Act.put, List.getElem_toArray, List.getElem_cons_succ, List.getElem_cons_zero, List.setIfInBounds_toArray, List.set_cons_zero, List.set_cons_succ]
                  refine wpAnyH_ready (rs := [35]) (by kernel_rfl) (by simp) ?_
                  refine AllReadyH.cons rfl (fun K' hK => ?_) AllReadyH.nil
                  go_simp
                  refine (HFR.out _ HB11.out).mono ?_
                  rintro e x12 ⟨rfl, hx12⟩
                  subst hx12
                  refine hK.out _ _ trivial (fun _ => ?_)
                  clear hK K'
                  try simp only [Act.put, List.getElem_toArray, List.getElem_cons_succ, List.getElem_cons_zero, List.setIfInBounds_toArray, List.set_cons_zero, List.set_cons_succ]
                  refine wpAnyH_take (i := 36) (v := .bool true) rfl (by kernel_rfl) (by kernel_rfl) (by kernel_rfl) (fun _ _ _ h => h) (Yields.yieldsIf (Or.inl ⟨by rfl, by intro wz; go_simp⟩)) hS0 ?_
                  try simp only [Act.put, List.getElem_toArray, List.getElem_cons_succ, List.getElem_cons_zero, List.setIfInBounds_toArray, List.set_cons_zero, List.set_cons_succ]
                  refine wpAnyH_take (i := 37) (v := .bool true) rfl (by kernel_rfl) (by kernel_rfl) (by kernel_rfl) (fun _ _ _ h => h) (Yields.yieldsIf (Or.inl ⟨by rfl, by intro wz; go_simp⟩)) hS0 ?_
                  try simp only [Act.put, List.getElem_toArray, List.getElem_cons_succ, List.getElem_cons_zero, List.setIfInBounds_toArray, List.set_cons_zero, List.set_cons_succ]
                  refine wpAnyH_take (i := 38) (v := .bool true) rfl (by kernel_rfl) (by kernel_rfl) (by kernel_rfl) (fun _ _ _ h => h) (Yields.yieldsIf (Or.inl ⟨by rfl, by intro wz; go_simp⟩)) hS0 ?_
                  try simp only [Act.put, List.getElem_toArray, List.getElem_cons_succ, List.getElem_cons_zero, List.setIfInBounds_toArray, List.set_cons_zero, List.set_cons_succ]
                  refine wpAnyH_done (by kernel_rfl) ?_ _
                  clear hS0
                  go_wp2_with fail
                  go_ret
                  exact ⟨rfl, HB11.out⟩
                · rw [show fitV (ea 0) true = .nilIface from rfl]
                  refine wpAnyH_take (i := 33) (v := .bool true) rfl (by kernel_rfl) (by kernel_rfl) (by kernel_rfl) (fun _ _ _ h => h) (Yields.yieldsIf (Or.inl ⟨by rfl, by intro wz; go_simp⟩)) hS0 ?_
                  try simp only [Act.put, List.getElem_toArray, List.getElem_cons_succ, List.getElem_cons_zero, List.setIfInBounds_toArray, List.set_cons_zero, List.set_cons_succ]
                  refine wpAnyH_ready (rs := [35]) (by kernel_rfl) (by simp) ?_
                  refine AllReadyH.cons rfl (fun K' hK => ?_) AllReadyH.nil
                  go_simp
                  refine (HFR.out _ HB11.out).mono ?_
                  rintro e x12 ⟨rfl, hx12⟩
                  subst hx12
                  refine hK.out _ _ trivial (fun _ => ?_)
                  clear hK K'
                  try simp only [Act.put, List.getElem_toArray, List.getElem_cons_succ, List.getElem_cons_zero, List.setIfInBounds_toArray, List.set_cons_zero, List.set_cons_succ]
                  refine wpAnyH_take (i := 36) (v := .bool true) rfl (by kernel_rfl) (by kernel_rfl) (by kernel_rfl) (fun _ _ _ h => h) (Yields.yieldsIf (Or.inl ⟨by rfl, by intro wz; go_simp⟩)) hS0 ?_
                  try simp only [Act.put, List.getElem_toArray, List.getElem_cons_succ, List.getElem_cons_zero, List.setIfInBounds_toArray, List.set_cons_zero, List.set_cons_succ]
                  refine wpAnyH_take (i := 37) (v := .bool true) rfl (by kernel_rfl) (by kernel_rfl) (by kernel_rfl) (fun _ _ _ h => h) (Yields.yieldsIf (Or.inl ⟨by rfl, by intro wz; go_simp⟩)) hS0 ?_
                  try simp only [Act.put, List.getElem_toArray, List.getElem_cons_succ, List.getElem_cons_zero, List.setIfInBounds_toArray, List.set_cons_zero, List.set_cons_succ]
                  refine wpAnyH_take (i := 38) (v := .bool true) rfl (by kernel_rfl) (by kernel_rfl) (by kernel_rfl) (fun _ _ _ h => h) (Yields.yieldsIf (Or.inl ⟨by rfl, by intro wz; go_simp⟩)) hS0 ?_
                  try simp only [Act.put, List.getElem_toArray, List.getElem_cons_succ, List.getElem_cons_zero, List.setIfInBounds_toArray, List.set_cons_zero, List.set_cons_succ]
                  refine wpAnyH_done (by kernel_rfl) ?_ _
                  clear hS0
                  go_wp2_with fail
                  go_ret
                  exact ⟨rfl, HB11.out⟩
            as_aux_lemma =>
              obtain ⟨i, rfl⟩ : ∃ i : Nat, n = (i : Int) + 1 := ⟨(n - 1).toNat, by omega⟩
              have hil : i < m.length := by omega
              obtain ⟨x, hx⟩ : ∃ x, m[i]? = some x := ⟨_, List.getElem?_eq_getElem hil⟩
              obtain ⟨gm, om, cap', hv, _, _, hc⟩ := (HTM.out _ HB21.out).inRow (fun e => by rw [e] at hil; simp at hil)
              cases hv
              have e1 := hc i x hx
              have HPE : Hid (pickL m ((i : Int) + 1) = [x]) := by
                unfold Hid pickL
                rw [if_pos (by omega), show ((i : Int) + 1 - 1).toNat = i by omega, List.getD_eq_getElem?_getD, hx]
                rfl
              obtain ⟨wz, hwz⟩ : ∃ wz, wz = w21.alloc (.cells #[.string ⟨x.toArray⟩] 9) := ⟨_, rfl⟩
              have HTP : Hid (∀ W', Below wz.heap.size wz W' → Tx W' (.slice (some ⟨w21.heap.size, 0, none⟩) 1 1) PK) := fun W' h => by
                rw [← HPK.out, HPE.out]
                rw [hwz] at h
                exact (Tx.one w21 x).below h (Nat.le_refl _)
              have HBp : Hid (Below W.heap.size W wz) := by
                unfold Hid
                rw [hwz]
                exact HB21.out.alloc HB21.out.size _
              have hi1 : (1 : Int) ≤ (i : Int) + 1 := by omega
              have hi2 : (i : Int) + 1 ≤ (m.length : Int) := by omega
              clear hx hc
              go_upto_region 39 with fail
              rw [← hwz]
              clear hwz e1
              refine wp_region_held (S := (fun _ : World => True)) (by kernel_rfl) ?_
              change wpAnyH _ _ _ _ _ _ _ _ (World.drew _)
              have hS0 : (fun _ : World => True) (wz.drew) := trivial
              have HBA : Hid (Below W.heap.size W wz.drew) := HBp.out.drew
              have HTQ : Hid (∀ W', Below wz.drew.heap.size wz.drew W' → Tx W' (.slice (some ⟨w21.heap.size, 0, none⟩) 1 1) PK) := fun W' h => HTP.out W' (((Below.refl _ wz).drew).trans h)
              have hbA : Below wz.drew.heap.size wz.drew wz.drew := Below.refl _ _
              refine wpAnyH_take (i := 0) (v := .slice (some ⟨gm, om, none⟩) m.length capm) rfl (by kernel_rfl) (by kernel_rfl) (by kernel_rfl) (fun _ _ _ h => h) (Yields.yieldsIf (Or.inl ⟨by rfl, by intro wz; go_simp⟩)) hS0 ?_
              try simp only [Act.put, List.getElem_toArray, List.getElem_cons_zero, List.setIfInBounds_toArray, List.set_cons_zero, List.set_cons_succ]
              refine wpAnyH_take (i := 2) (v := .slice (some ⟨gm, om, none⟩) m.length capm) rfl (by kernel_rfl) (by kernel_rfl) (by kernel_rfl) (fun _ _ _ h => h) (Yields.yieldsIf (Or.inl ⟨by rfl, by intro wz; go_simp⟩)) hS0 ?_
              try simp only [Act.put, List.getElem_toArray, List.getElem_cons_succ, List.getElem_cons_zero, List.setIfInBounds_toArray, List.set_cons_zero, List.set_cons_succ]
              refine wpAnyH_take (i := 3) (v := .int .i64 (m.length : Nat)) rfl (by kernel_rfl) (by kernel_rfl) (by kernel_rfl) (fun _ _ _ h => h) (Yields.yieldsIf (Or.inl ⟨by rfl, by intro wz; go_simp⟩)) hS0 ?_
              try simp only [Act.put, List.getElem_toArray, List.getElem_cons_succ, List.getElem_cons_zero, List.setIfInBounds_toArray, List.set_cons_zero, List.set_cons_succ]
              refine wpAnyH_ready (rs := [1]) (by kernel_rfl) (by simp) ?_
              refine AllReadyH.cons rfl (fun K' hK => ?_) AllReadyH.nil
              go_simp
              refine (HCN.out _ HBA.out).mono ?_
              rintro e x1 ⟨adc, capc, rfl, tc, hb'⟩
              have HB1 : Hid (Below W.heap.size W x1) := HBA.out.trans (hb'.mono HBA.out.size)
              have hb1 := hbA.trans (hb'.mono hbA.size)
              have HTC : Hid (∀ W', Below x1.heap.size x1 W' → Tx W' (.slice adc 1 capc) [T]) := fun W' h => tc.below h (Nat.le_refl _)
              clear tc
              clear hb'
              refine hK.out _ _ trivial (fun _ => ?_)
              clear hK K'
              try simp only [Act.put, List.getElem_toArray, List.getElem_cons_succ, List.getElem_cons_zero, List.setIfInBounds_toArray, List.set_cons_zero, List.set_cons_succ]
              refine wpAnyH_ready (rs := [4]) (by kernel_rfl) (by simp) ?_
              refine AllReadyH.cons rfl (fun K' hK => ?_) AllReadyH.nil
              go_simp
              refine (HNU.out _).mono ?_
              rintro e x2 ⟨rfl, hb'⟩
              have HB2 : Hid (Below W.heap.size W x2) := HB1.out.trans (hb'.mono HB1.out.size)
              have hb2 := hb1.trans (hb'.mono hb1.size)
              have HTC' : Hid (∀ W', Below x2.heap.size x2 W' → Tx W' (.slice adc 1 capc) [T]) := fun W' h => HTC.out W' (hb'.trans (h.mono hb'.size))
              clear HTC
              clear hb'
              refine hK.out _ _ trivial (fun _ => ?_)
              clear hK K'
              try simp only [Act.put, List.getElem_toArray, List.getElem_cons_succ, List.getElem_cons_zero, List.setIfInBounds_toArray, List.set_cons_zero, List.set_cons_succ]
              refine wpAnyH_ready (rs := [5]) (by kernel_rfl) (by simp) ?_
              refine AllReadyH.cons rfl (fun K' hK => ?_) AllReadyH.nil
              have HT3 : Hid (Tx (x2.alloc (.cells #[.string ⟨T.toArray⟩] 9)) (.slice (some ⟨x2.heap.size, 0, none⟩) 1 1) [T]) := Tx.one x2 T
              have hb' := below_new x2 (.cells #[.string ⟨T.toArray⟩] 9)
              have HTC2 : Hid (Tx (x2.alloc (.cells #[.string ⟨T.toArray⟩] 9)) (.slice adc 1 capc) [T]) := HTC'.out _ hb'
              have HB3 : Hid (Below W.heap.size W (x2.alloc (.cells #[.string ⟨T.toArray⟩] 9))) := HB2.out.trans (hb'.mono HB2.out.size)
              have hb3 := hb2.trans (hb'.mono hb2.size)
              clear hb'
              go_simp
              refine hK.out _ _ trivial (fun _ => ?_)
              clear hK K'
              try simp only [Act.put, List.getElem_toArray, List.getElem_cons_succ, List.getElem_cons_zero, List.setIfInBounds_toArray, List.set_cons_zero, List.set_cons_succ]
              refine wpAnyH_ready (rs := [6]) (by kernel_rfl) (by simp) ?_
              refine AllReadyH.cons rfl (fun K' hK => ?_) AllReadyH.nil
              go_simp
              refine (HST.out _ [T] _ _ _ _ _ _ HTC2.out HT3.out (by simp)).mono ?_
              rintro e x4 ⟨rfl, hb'⟩
              have HB4 : Hid (Below W.heap.size W x4) := HB3.out.trans (hb'.mono HB3.out.size)
              have hb4 := hb3.trans (hb'.mono hb3.size)
              clear hb'
              refine hK.out _ _ trivial (fun _ => ?_)
              clear hK K'
              try simp only [Act.put, List.getElem_toArray, List.getElem_cons_succ, List.getElem_cons_zero, List.setIfInBounds_toArray, List.set_cons_zero, List.set_cons_succ]
              refine wpAnyH_take (i := 7) (v := .bool true) rfl (by kernel_rfl) (by kernel_rfl) (by kernel_rfl) (fun _ _ _ h => h) (Yields.yieldsIf (Or.inl ⟨by rfl, by intro wz; go_simp⟩)) hS0 ?_
              try simp only [Act.put, List.getElem_toArray, List.getElem_cons_succ, List.getElem_cons_zero, List.setIfInBounds_toArray, List.set_cons_zero, List.set_cons_succ]
              refine wpAnyH_take (i := 8) (v := .slice (some ⟨gm, om, none⟩) m.length capm) rfl (by kernel_rfl) (by kernel_rfl) (by kernel_rfl) (fun _ _ _ h => h) (Yields.yieldsIf (Or.inl ⟨by rfl, by intro wz; go_simp⟩)) hS0 ?_
              try simp only [Act.put, List.getElem_toArray, List.getElem_cons_succ, List.getElem_cons_zero, List.setIfInBounds_toArray, List.set_cons_zero, List.set_cons_succ]
              refine wpAnyH_take (i := 9) (v := .int .i64 ((i : Int) + 1)) rfl (by kernel_rfl) (by kernel_rfl) (by kernel_rfl) (fun _ _ _ h => h) (Yields.yieldsIf (Or.inl ⟨by rfl, by intro wz; go_simp⟩)) hS0 ?_
              try simp only [Act.put, List.getElem_toArray, List.getElem_cons_succ, List.getElem_cons_zero, List.setIfInBounds_toArray, List.set_cons_zero, List.set_cons_succ]
              refine wpAnyH_take (i := 11) (v := .slice (some ⟨w21.heap.size, 0, none⟩) 1 1) rfl (by kernel_rfl) (by kernel_rfl) (by kernel_rfl) (fun _ _ _ h => h) (Yields.yieldsIf (Or.inl ⟨by rfl, by intro wz; go_simp⟩)) hS0 ?_
              try simp only [Act.put, List.getElem_toArray, List.getElem_cons_succ, List.getElem_cons_zero, List.setIfInBounds_toArray, List.set_cons_zero, List.set_cons_succ]
              refine wpAnyH_ready (rs := [10]) (by kernel_rfl) (by simp) ?_
              refine AllReadyH.cons rfl (fun K' hK => ?_) AllReadyH.nil
              go_simp
              refine (HPC.out _ HB4.out).mono ?_
              rintro e x5 ⟨adq, qq, capq, rfl, tq, hb'⟩
              have HB5 : Hid (Below W.heap.size W x5) := HB4.out.trans (hb'.mono HB4.out.size)
              have hb5 := hb4.trans (hb'.mono hb4.size)
              have HTK : Hid (Tx x5 (.slice adq qq capq) PK) := tq
              clear tq
              clear hb'
              refine hK.out _ _ trivial (fun _ => ?_)
              clear hK K'
              try simp only [Act.put, List.getElem_toArray, List.getElem_cons_succ, List.getElem_cons_zero, List.setIfInBounds_toArray, List.set_cons_zero, List.set_cons_succ]
              refine wpAnyH_ready (rs := [12]) (by kernel_rfl) (by simp) ?_
              refine AllReadyH.cons rfl (fun K' hK => ?_) AllReadyH.nil
              go_simp
              refine (HST.out _ PK _ _ _ _ _ _ HTK.out (HTQ.out _ hb5) HPL.out).mono ?_
              rintro e x6 ⟨rfl, hb'⟩
              have HB6 : Hid (Below W.heap.size W x6) := HB5.out.trans (hb'.mono HB5.out.size)
              have hb6 := hb5.trans (hb'.mono hb5.size)
              clear hb'
              refine hK.out _ _ trivial (fun _ => ?_)
              clear hK K'
              try simp only [Act.put, List.getElem_toArray, List.getElem_cons_succ, List.getElem_cons_zero, List.setIfInBounds_toArray, List.set_cons_zero, List.set_cons_succ]
              refine wpAnyH_take (i := 13) (v := .bool true) rfl (by kernel_rfl) (by kernel_rfl) (by kernel_rfl) (fun _ _ _ h => h) (Yields.yieldsIf (Or.inl ⟨by rfl, by intro wz; go_simp⟩)) hS0 ?_
              try simp only [Act.put, List.getElem_toArray, List.getElem_cons_succ, List.getElem_cons_zero, List.setIfInBounds_toArray, List.set_cons_zero, List.set_cons_succ]
              refine wpAnyH_take (i := 14) (v := .bool true) rfl (by kernel_rfl) (by kernel_rfl) (by kernel_rfl) (fun _ _ _ h => h) (Yields.yieldsIf (Or.inl ⟨by rfl, by intro wz; go_simp⟩)) hS0 ?_
              try simp only [Act.put, List.getElem_toArray, List.getElem_cons_succ, List.getElem_cons_zero, List.setIfInBounds_toArray, List.set_cons_zero, List.set_cons_succ]
              refine wpAnyH_take (i := 15) (v := .string ⟨s.toArray⟩) rfl (by kernel_rfl) (by kernel_rfl) (by kernel_rfl) (fun _ _ _ h => h) (Yields.yieldsIf (Or.inl ⟨by rfl, by intro wz; go_simp⟩)) hS0 ?_
              try simp only [Act.put, List.getElem_toArray, List.getElem_cons_succ, List.getElem_cons_zero, List.setIfInBounds_toArray, List.set_cons_zero, List.set_cons_succ]
              refine wpAnyH_take (i := 17) (v := .string ⟨s.toArray⟩) rfl (by kernel_rfl) (by kernel_rfl) (by kernel_rfl) (fun _ _ _ h => h) (Yields.yieldsIf (Or.inl ⟨by rfl, by intro wz; go_simp⟩)) hS0 ?_
              try simp only [Act.put, List.getElem_toArray, List.getElem_cons_succ, List.getElem_cons_zero, List.setIfInBounds_toArray, List.set_cons_zero, List.set_cons_succ]
              refine wpAnyH_ready (rs := [16]) (by kernel_rfl) (by simp) ?_
              refine AllReadyH.cons rfl (fun K' hK => ?_) AllReadyH.nil
              go_simp
              refine (HTR.out _).mono ?_
              rintro e x7 ⟨rfl, hx7⟩
              subst hx7
              refine hK.out _ _ trivial (fun _ => ?_)
              clear hK K'
              try simp only [Act.put, List.getElem_toArray, List.getElem_cons_succ, List.getElem_cons_zero, List.setIfInBounds_toArray, List.set_cons_zero, List.set_cons_succ]
              refine wpAnyH_ready (rs := [18]) (by kernel_rfl) (by simp) ?_
              refine AllReadyH.cons rfl (fun K' hK => ?_) AllReadyH.nil
              go_simp
              refine (HTR2.out _).mono ?_
              rintro e x8 ⟨rfl, hx8⟩
              subst hx8
              refine hK.out _ _ trivial (fun _ => ?_)
              clear hK K'
              try simp only [Act.put, List.getElem_toArray, List.getElem_cons_succ, List.getElem_cons_zero, List.setIfInBounds_toArray, List.set_cons_zero, List.set_cons_succ]
              refine wpAnyH_take (i := 19) (v := .bool true) rfl (by kernel_rfl) (by kernel_rfl) (by kernel_rfl) (fun _ _ _ h => h) (Yields.yieldsIf (Or.inl ⟨by rfl, by intro wz; go_simp⟩)) hS0 ?_
              try simp only [Act.put, List.getElem_toArray, List.getElem_cons_succ, List.getElem_cons_zero, List.setIfInBounds_toArray, List.set_cons_zero, List.set_cons_succ]
              refine wpAnyH_take (i := 20) (v := .bool true) rfl (by kernel_rfl) (by kernel_rfl) (by kernel_rfl) (fun _ _ _ h => h) (Yields.yieldsIf (Or.inl ⟨by rfl, by intro wz; go_simp⟩)) hS0 ?_
              try simp only [Act.put, List.getElem_toArray, List.getElem_cons_succ, List.getElem_cons_zero, List.setIfInBounds_toArray, List.set_cons_zero, List.set_cons_succ]
              refine wpAnyH_take (i := 21) (v := .bool true) rfl (by kernel_rfl) (by kernel_rfl) (by kernel_rfl) (fun _ _ _ h => h) (Yields.yieldsIf (Or.inl ⟨by rfl, by intro wz; go_simp⟩)) hS0 ?_
              try simp only [Act.put, List.getElem_toArray, List.getElem_cons_succ, List.getElem_cons_zero, List.setIfInBounds_toArray, List.set_cons_zero, List.set_cons_succ]
              refine wpAnyH_take (i := 22) (v := .slice (some ⟨gm, om, none⟩) m.length capm) rfl (by kernel_rfl) (by kernel_rfl) (by kernel_rfl) (fun _ _ _ h => h) (Yields.yieldsIf (Or.inl ⟨by rfl, by intro wz; go_simp⟩)) hS0 ?_
              try simp only [Act.put, List.getElem_toArray, List.getElem_cons_succ, List.getElem_cons_zero, List.setIfInBounds_toArray, List.set_cons_zero, List.set_cons_succ]
              refine wpAnyH_take (i := 23) (v := .slice adn ns.length capn) rfl (by kernel_rfl) (by kernel_rfl) (by kernel_rfl) (fun _ _ _ h => h) (Yields.yieldsIf (Or.inl ⟨by rfl, by intro wz; go_simp⟩)) hS0 ?_
              try simp only [Act.put, List.getElem_toArray, List.getElem_cons_succ, List.getElem_cons_zero, List.setIfInBounds_toArray, List.set_cons_zero, List.set_cons_succ]
              refine wpAnyH_take (i := 25) (v := .slice (some ⟨gm, om, none⟩) m.length capm) rfl (by kernel_rfl) (by kernel_rfl) (by kernel_rfl) (fun _ _ _ h => h) (Yields.yieldsIf (Or.inl ⟨by rfl, by intro wz; go_simp⟩)) hS0 ?_
              try simp only [Act.put, List.getElem_toArray, List.getElem_cons_succ, List.getElem_cons_zero, List.setIfInBounds_toArray, List.set_cons_zero, List.set_cons_succ]
              refine wpAnyH_take (i := 26) (v := .slice adn ns.length capn) rfl (by kernel_rfl) (by kernel_rfl) (by kernel_rfl) (fun _ _ _ h => h) (Yields.yieldsIf (Or.inl ⟨by rfl, by intro wz; go_simp⟩)) hS0 ?_
              try simp only [Act.put, List.getElem_toArray, List.getElem_cons_succ, List.getElem_cons_zero, List.setIfInBounds_toArray, List.set_cons_zero, List.set_cons_succ]
              refine wpAnyH_ready (rs := [24]) (by kernel_rfl) (by simp) ?_
              refine AllReadyH.cons rfl (fun K' hK => ?_) AllReadyH.nil
              go_simp
              refine (HLS.out _ HB6.out).mono ?_
              rintro e x9 ⟨rfl, hb'⟩
              have HB9 : Hid (Below W.heap.size W x9) := HB6.out.trans (hb'.mono HB6.out.size)
              have hb9 := hb6.trans (hb'.mono hb6.size)
              clear hb'
              refine hK.out _ _ trivial (fun _ => ?_)
              clear hK K'
              try simp only [Act.put, List.getElem_toArray, List.getElem_cons_succ, List.getElem_cons_zero, List.setIfInBounds_toArray, List.set_cons_zero, List.set_cons_succ]
              refine wpAnyH_ready (rs := [27]) (by kernel_rfl) (by simp) ?_
              refine AllReadyH.cons rfl (fun K' hK => ?_) AllReadyH.nil
              go_simp
              refine (HLT.out _ HB9.out).mono ?_
              rintro e x10 ⟨rfl, hb'⟩
              have HB10 : Hid (Below W.heap.size W x10) := HB9.out.trans (hb'.mono HB9.out.size)
              have hb10 := hb9.trans (hb'.mono hb9.size)
              clear hb'
              refine hK.out _ _ trivial (fun _ => ?_)
              clear hK K'
              try simp only [Act.put, List.getElem_toArray, List.getElem_cons_succ, List.getElem_cons_zero, List.setIfInBounds_toArray, List.set_cons_zero, List.set_cons_succ]
              refine wpAnyH_take (i := 28) (v := .bool true) rfl (by kernel_rfl) (by kernel_rfl) (by kernel_rfl) (fun _ _ _ h => h) (Yields.yieldsIf (Or.inl ⟨by rfl, by intro wz; go_simp⟩)) hS0 ?_
              try simp only [Act.put, List.getElem_toArray, List.getElem_cons_succ, List.getElem_cons_zero, List.setIfInBounds_toArray, List.set_cons_zero, List.set_cons_succ]
              refine wpAnyH_take (i := 29) (v := .bool true) rfl (by kernel_rfl) (by kernel_rfl) (by kernel_rfl) (fun _ _ _ h => h) (Yields.yieldsIf (Or.inl ⟨by rfl, by intro wz; go_simp⟩)) hS0 ?_
              try simp only [Act.put, List.getElem_toArray, List.getElem_cons_succ, List.getElem_cons_zero, List.setIfInBounds_toArray, List.set_cons_zero, List.set_cons_succ]
              refine wpAnyH_take (i := 30) (v := .bool true) rfl (by kernel_rfl) (by kernel_rfl) (by kernel_rfl) (fun _ _ _ h => h) (Yields.yieldsIf (Or.inl ⟨by rfl, by intro wz; go_simp⟩)) hS0 ?_
              try simp only [Act.put, List.getElem_toArray, List.getElem_cons_succ, List.getElem_cons_zero, List.setIfInBounds_toArray, List.set_cons_zero, List.set_cons_succ]
              refine wpAnyH_take (i := 31) (v := .slice (some ⟨gm, om, none⟩) m.length capm) rfl (by kernel_rfl) (by kernel_rfl) (by kernel_rfl) (fun _ _ _ h => h) (Yields.yieldsIf (Or.inl ⟨by rfl, by intro wz; go_simp⟩)) hS0 ?_
              try simp only [Act.put, List.getElem_toArray, List.getElem_cons_succ, List.getElem_cons_zero, List.setIfInBounds_toArray, List.set_cons_zero, List.set_cons_succ]
              refine wpAnyH_take (i := 34) (v := .slice (some ⟨gm, om, none⟩) m.length capm) rfl (by kernel_rfl) (by kernel_rfl) (by kernel_rfl) (fun _ _ _ h => h) (Yields.yieldsIf (Or.inl ⟨by rfl, by intro wz; go_simp⟩)) hS0 ?_
              try simp only [Act.put, List.getElem_toArray, List.getElem_cons_succ, List.getElem_cons_zero, List.setIfInBounds_toArray, List.set_cons_zero, List.set_cons_succ]
              refine wpAnyH_ready (rs := [32]) (by kernel_rfl) (by simp) ?_
              refine AllReadyH.cons rfl (fun K' hK => ?_) AllReadyH.nil
              go_simp
              refine (HFT.out _ HB10.out).mono ?_
              rintro e x11 ⟨rfl, hb'⟩
              have HB11 : Hid (Below W.heap.size W x11) := HB10.out.trans (hb'.mono HB10.out.size)
              have hb11 := hb10.trans (hb'.mono hb10.size)
              clear hb'
              refine hK.out _ _ trivial (fun _ => ?_)
              clear hK K'
              try simp only [Act.put, List.getElem_toArray, List.getElem_cons_succ, List.getElem_cons_zero, List.setIfInBounds_toArray, List.set_cons_zero, List.set_cons_succ]
              cases ff
              · rw [show fitV (ea 0) false = bigV (ea 0) from rfl]
                refine wpAnyH_take (i := 33) (v := .bool false) rfl (by kernel_rfl) (by kernel_rfl) (by kernel_rfl) (fun _ _ _ h => h) (Yields.yieldsIf (Or.inl ⟨by rfl, by intro wz; go_simp⟩)) hS0 ?_
                try simp only [Act.put, List.getElem_toArray, List.getElem_cons_succ, List.getElem_cons_zero, List.setIfInBounds_toArray, List.set_cons_zero, List.set_cons_succ]
                refine wpAnyH_ready (rs := [35]) (by kernel_rfl) (by simp) ?_
                refine AllReadyH.cons rfl (fun K' hK => ?_) AllReadyH.nil
                go_simp
                refine (HFR.out _ HB11.out).mono ?_
                rintro e x12 ⟨rfl, hx12⟩
                subst hx12
                refine hK.out _ _ trivial (fun _ => ?_)
                clear hK K'
                try simp only [Act.put, List.getElem_toArray, List.getElem_cons_succ, List.getElem_cons_zero, List.setIfInBounds_toArray, List.set_cons_zero, List.set_cons_succ]
                refine wpAnyH_take (i := 36) (v := .bool true) rfl (by kernel_rfl) (by kernel_rfl) (by kernel_rfl) (fun _ _ _ h => h) (Yields.yieldsIf (Or.inl ⟨by rfl, by intro wz; go_simp⟩)) hS0 ?_
                try simp only [Act.put, List.getElem_toArray, List.getElem_cons_succ, List.getElem_cons_zero, List.setIfInBounds_toArray, List.set_cons_zero, List.set_cons_succ]
                refine wpAnyH_take (i := 37) (v := .bool true) rfl (by kernel_rfl) (by kernel_rfl) (by kernel_rfl) (fun _ _ _ h => h) (Yields.yieldsIf (Or.inl ⟨by rfl, by intro wz; go_simp⟩)) hS0 ?_
                try simp only [Act.put, List.getElem_toArray, List.getElem_cons_succ, List.getElem_cons_zero, List.setIfInBounds_toArray, List.set_cons_zero, List.set_cons_succ]
                refine wpAnyH_take (i := 38) (v := .bool true) rfl (by kernel_rfl) (by kernel_rfl) (by kernel_rfl) (fun _ _ _ h => h) (Yields.yieldsIf (Or.inl ⟨by rfl, by intro wz; go_simp⟩)) hS0 ?_
                try simp only [Act.put, List.getElem_toArray, List.getElem_cons_succ, List.getElem_cons_zero, List.setIfInBounds_toArray, List.set_cons_zero, List.set_cons_succ]
                refine wpAnyH_done (by kernel_rfl) ?_ _
                clear hS0
                go_wp2_with fail
                go_ret
                exact ⟨rfl, HB11.out⟩
              · rw [show fitV (ea 0) true = .nilIface from rfl]
                refine wpAnyH_take (i := 33) (v := .bool true) rfl (by kernel_rfl) (by kernel_rfl) (by kernel_rfl) (fun _ _ _ h => h) (Yields.yieldsIf (Or.inl ⟨by rfl, by intro wz; go_simp⟩)) hS0 ?_
                try simp only [Act.put, List.getElem_toArray, List.getElem_cons_succ, List.getElem_cons_zero, List.setIfInBounds_toArray, List.set_cons_zero, List.set_cons_succ]
                refine wpAnyH_ready (rs := [35]) (by kernel_rfl) (by simp) ?_
                refine AllReadyH.cons rfl (fun K' hK => ?_) AllReadyH.nil
                go_simp
                refine (HFR.out _ HB11.out).mono ?_
                rintro e x12 ⟨rfl, hx12⟩
                subst hx12
                refine hK.out _ _ trivial (fun _ => ?_)
                clear hK K'
                try simp only [Act.put, List.getElem_toArray, List.getElem_cons_succ, List.getElem_cons_zero, List.setIfInBounds_toArray, List.set_cons_zero, List.set_cons_succ]
                refine wpAnyH_take (i := 36) (v := .bool true) rfl (by kernel_rfl) (by kernel_rfl) (by kernel_rfl) (fun _ _ _ h => h) (Yields.yieldsIf (Or.inl ⟨by rfl, by intro wz; go_simp⟩)) hS0 ?_
                try simp only [Act.put, List.getElem_toArray, List.getElem_cons_succ, List.getElem_cons_zero, List.setIfInBounds_toArray, List.set_cons_zero, List.set_cons_succ]
                refine wpAnyH_take (i := 37) (v := .bool true) rfl (by kernel_rfl) (by kernel_rfl) (by kernel_rfl) (fun _ _ _ h => h) (Yields.yieldsIf (Or.inl ⟨by rfl, by intro wz; go_simp⟩)) hS0 ?_
                try simp only [Act.put, List.getElem_toArray, List.getElem_cons_succ, List.getElem_cons_zero, List.setIfInBounds_toArray, List.set_cons_zero, List.set_cons_succ]
                refine wpAnyH_take (i := 38) (v := .bool true) rfl (by kernel_rfl) (by kernel_rfl) (by kernel_rfl) (fun _ _ _ h => h) (Yields.yieldsIf (Or.inl ⟨by rfl, by intro wz; go_simp⟩)) hS0 ?_
                try simp only [Act.put, List.getElem_toArray, List.getElem_cons_succ, List.getElem_cons_zero, List.setIfInBounds_toArray, List.set_cons_zero, List.set_cons_succ]
                refine wpAnyH_done (by kernel_rfl) ?_ _
                clear hS0
                go_wp2_with fail
                go_ret
                exact ⟨rfl, HB11.out⟩
          · go_wp2_with fail
            refine Calls.mono (HC18.out _ HB21.out) ?_
            rintro e w22 ⟨⟨ad22, q22, cap22, rfl, t22⟩, hb'⟩
            have HB22 : Hid (Below W.heap.size W w22) := HB21.out.trans (hb'.mono HB21.out.size)
            have HT22 : Hid (∀ W', Below w22.heap.size w22 W' → Tx W' (.slice ad22 q22 cap22) (resL r7)) := fun W' h => t22.below h (Nat.le_refl _)
            clear t22 hb'
            go_wp2_with fail
            refine Calls.mono (HC19.out _ HB22.out) ?_
            rintro e w23 ⟨⟨ad23, q23, cap23, rfl, t23⟩, hb'⟩
            have HB23 : Hid (Below W.heap.size W w23) := HB22.out.trans (hb'.mono HB22.out.size)
            have HT' : Hid (∀ W', Below w23.heap.size w23 W' → Tx W' (.slice ad22 q22 cap22) (resL r7)) := fun W' h => HT22.out W' (hb'.trans (h.mono hb'.size))
            clear HT22
            have HT22 := HT'
            clear HT'
            have HT23 : Hid (∀ W', Below w23.heap.size w23 W' → Tx W' (.slice ad23 q23 cap23) (resL r7)) := fun W' h => t23.below h (Nat.le_refl _)
            clear t23 hb'
            go_wp2_with fail
            refine Calls.mono (HSM.out _ r7 _ _ _ _ _ _ HB23.out (HT22.out _ (Below.refl _ _)) (HT23.out _ (Below.refl _ _)) HLr7.out) ?_
            rintro e w24 ⟨rfl, hb'⟩
            have HB24 : Hid (Below W.heap.size W w24) := HB23.out.trans (hb'.mono HB23.out.size)
            clear hb'
            clear HT22 HT23
            by_cases hp1 : n < 1
            · as_aux_lemma =>
                have hg1 : ¬ (1 : Int) ≤ n := by omega
                have HPE : Hid (pickL m n = []) := by unfold Hid pickL; rw [if_neg (by omega)]
                have HTP : Hid (∀ W', Below w24.heap.size w24 W' → Tx W' (.slice none 0 0) PK) := fun W' _ => by rw [← HPK.out, HPE.out]; exact .inl ⟨rfl, rfl⟩
                have HBp := HB24
                go_wp2_with fail
                refine wp_region_held (S := (fun _ : World => True)) (by kernel_rfl) ?_
                change wpAnyH _ _ _ _ _ _ _ _ (World.drew _)
                have hS0 : (fun _ : World => True) (w24.drew) := trivial
                have HBA : Hid (Below W.heap.size W w24.drew) := HBp.out.drew
                have HTQ : Hid (∀ W', Below w24.drew.heap.size w24.drew W' → Tx W' (.slice none 0 0) PK) := fun W' h => HTP.out W' (((Below.refl _ w24).drew).trans h)
                have hbA : Below w24.drew.heap.size w24.drew w24.drew := Below.refl _ _
                refine wpAnyH_take (i := 0) (v := .slice adm m.length capm) rfl (by kernel_rfl) (by kernel_rfl) (by kernel_rfl) (fun _ _ _ h => h) (Yields.yieldsIf (Or.inl ⟨by rfl, by intro wz; go_simp⟩)) hS0 ?_
                try simp only [Act.put, List.getElem_toArray, List.getElem_cons_zero, List.setIfInBounds_toArray, List.set_cons_zero, List.set_cons_succ]
                refine wpAnyH_take (i := 2) (v := .slice adm m.length capm) rfl (by kernel_rfl) (by kernel_rfl) (by kernel_rfl) (fun _ _ _ h => h) (Yields.yieldsIf (Or.inl ⟨by rfl, by intro wz; go_simp⟩)) hS0 ?_
                try simp only [Act.put, List.getElem_toArray, List.getElem_cons_succ, List.getElem_cons_zero, List.setIfInBounds_toArray, List.set_cons_zero, List.set_cons_succ]
                refine wpAnyH_take (i := 3) (v := .int .i64 (m.length : Nat)) rfl (by kernel_rfl) (by kernel_rfl) (by kernel_rfl) (fun _ _ _ h => h) (Yields.yieldsIf (Or.inl ⟨by rfl, by intro wz; go_simp⟩)) hS0 ?_
                try simp only [Act.put, List.getElem_toArray, List.getElem_cons_succ, List.getElem_cons_zero, List.setIfInBounds_toArray, List.set_cons_zero, List.set_cons_succ]
                refine wpAnyH_ready (rs := [1]) (by kernel_rfl) (by simp) ?_
                refine AllReadyH.cons rfl (fun K' hK => ?_) AllReadyH.nil
                go_simp
                refine (HCN.out _ HBA.out).mono ?_
                rintro e x1 ⟨adc, capc, rfl, tc, hb'⟩
                have HB1 : Hid (Below W.heap.size W x1) := HBA.out.trans (hb'.mono HBA.out.size)
                have hb1 := hbA.trans (hb'.mono hbA.size)
                have HTC : Hid (∀ W', Below x1.heap.size x1 W' → Tx W' (.slice adc 1 capc) [T]) := fun W' h => tc.below h (Nat.le_refl _)
                clear tc
                clear hb'
                refine hK.out _ _ trivial (fun _ => ?_)
                clear hK K'
                try simp only [Act.put, List.getElem_toArray, List.getElem_cons_succ, List.getElem_cons_zero, List.setIfInBounds_toArray, List.set_cons_zero, List.set_cons_succ]
                refine wpAnyH_ready (rs := [4]) (by kernel_rfl) (by simp) ?_
                refine AllReadyH.cons rfl (fun K' hK => ?_) AllReadyH.nil
                go_simp
                refine (HNU.out _).mono ?_
                rintro e x2 ⟨rfl, hb'⟩
                have HB2 : Hid (Below W.heap.size W x2) := HB1.out.trans (hb'.mono HB1.out.size)
                have hb2 := hb1.trans (hb'.mono hb1.size)
                have HTC' : Hid (∀ W', Below x2.heap.size x2 W' → Tx W' (.slice adc 1 capc) [T]) := fun W' h => HTC.out W' (hb'.trans (h.mono hb'.size))
                clear HTC
                clear hb'
                refine hK.out _ _ trivial (fun _ => ?_)
                clear hK K'
                try simp only [Act.put, List.getElem_toArray, List.getElem_cons_succ, List.getElem_cons_zero, List.setIfInBounds_toArray, List.set_cons_zero, List.set_cons_succ]
                refine wpAnyH_ready (rs := [5]) (by kernel_rfl) (by simp) ?_
                refine AllReadyH.cons rfl (fun K' hK => ?_) AllReadyH.nil
                have HT3 : Hid (Tx (x2.alloc (.cells #[.string ⟨T.toArray⟩] 9)) (.slice (some ⟨x2.heap.size, 0, none⟩) 1 1) [T]) := Tx.one x2 T
                have hb' := below_new x2 (.cells #[.string ⟨T.toArray⟩] 9)
                have HTC2 : Hid (Tx (x2.alloc (.cells #[.string ⟨T.toArray⟩] 9)) (.slice adc 1 capc) [T]) := HTC'.out _ hb'
                have HB3 : Hid (Below W.heap.size W (x2.alloc (.cells #[.string ⟨T.toArray⟩] 9))) := HB2.out.trans (hb'.mono HB2.out.size)
                have hb3 := hb2.trans (hb'.mono hb2.size)
                clear hb'
                go_simp
                refine hK.out _ _ trivial (fun _ => ?_)
                clear hK K'
                try simp only [Act.put, List.getElem_toArray, List.getElem_cons_succ, List.getElem_cons_zero, List.setIfInBounds_toArray, List.set_cons_zero, List.set_cons_succ]
                refine wpAnyH_ready (rs := [6]) (by kernel_rfl) (by simp) ?_
                refine AllReadyH.cons rfl (fun K' hK => ?_) AllReadyH.nil
                go_simp
                refine (HST.out _ [T] _ _ _ _ _ _ HTC2.out HT3.out (by simp)).mono ?_
                rintro e x4 ⟨rfl, hb'⟩
                have HB4 : Hid (Below W.heap.size W x4) := HB3.out.trans (hb'.mono HB3.out.size)
                have hb4 := hb3.trans (hb'.mono hb3.size)
                clear hb'
                refine hK.out _ _ trivial (fun _ => ?_)
                clear hK K'
                try simp only [Act.put, List.getElem_toArray, List.getElem_cons_succ, List.getElem_cons_zero, List.setIfInBounds_toArray, List.set_cons_zero, List.set_cons_succ]
                refine wpAnyH_take (i := 7) (v := .bool true) rfl (by kernel_rfl) (by kernel_rfl) (by kernel_rfl) (fun _ _ _ h => h) (Yields.yieldsIf (Or.inl ⟨by rfl, by intro wz; go_simp⟩)) hS0 ?_
                try simp only [Act.put, List.getElem_toArray, List.getElem_cons_succ, List.getElem_cons_zero, List.setIfInBounds_toArray, List.set_cons_zero, List.set_cons_succ]
                refine wpAnyH_take (i := 8) (v := .slice adm m.length capm) rfl (by kernel_rfl) (by kernel_rfl) (by kernel_rfl) (fun _ _ _ h => h) (Yields.yieldsIf (Or.inl ⟨by rfl, by intro wz; go_simp⟩)) hS0 ?_
                try simp only [Act.put, List.getElem_toArray, List.getElem_cons_succ, List.getElem_cons_zero, List.setIfInBounds_toArray, List.set_cons_zero, List.set_cons_succ]
                refine wpAnyH_take (i := 9) (v := .int .i64 n) rfl (by kernel_rfl) (by kernel_rfl) (by kernel_rfl) (fun _ _ _ h => h) (Yields.yieldsIf (Or.inl ⟨by rfl, by intro wz; go_simp⟩)) hS0 ?_
                try simp only [Act.put, List.getElem_toArray, List.getElem_cons_succ, List.getElem_cons_zero, List.setIfInBounds_toArray, List.set_cons_zero, List.set_cons_succ]
                refine wpAnyH_take (i := 11) (v := .slice none 0 0) rfl (by kernel_rfl) (by kernel_rfl) (by kernel_rfl) (fun _ _ _ h => h) (Yields.yieldsIf (Or.inl ⟨by rfl, by intro wz; go_simp⟩)) hS0 ?_
                try simp only [Act.put, List.getElem_toArray, List.getElem_cons_succ, List.getElem_cons_zero, List.setIfInBounds_toArray, List.set_cons_zero, List.set_cons_succ]
                refine wpAnyH_ready (rs := [10]) (by kernel_rfl) (by simp) ?_
                refine AllReadyH.cons rfl (fun K' hK => ?_) AllReadyH.nil
                go_simp
                refine (HPC.out _ HB4.out).mono ?_
                rintro e x5 ⟨adq, qq, capq, rfl, tq, hb'⟩
                have HB5 : Hid (Below W.heap.size W x5) := HB4.out.trans (hb'.mono HB4.out.size)
                have hb5 := hb4.trans (hb'.mono hb4.size)
                have HTK : Hid (Tx x5 (.slice adq qq capq) PK) := tq
                clear tq
                clear hb'
                refine hK.out _ _ trivial (fun _ => ?_)
                clear hK K'
                try simp only [Act.put, List.getElem_toArray, List.getElem_cons_succ, List.getElem_cons_zero, List.setIfInBounds_toArray, List.set_cons_zero, List.set_cons_succ]
                refine wpAnyH_ready (rs := [12]) (by kernel_rfl) (by simp) ?_
                refine AllReadyH.cons rfl (fun K' hK => ?_) AllReadyH.nil
                go_simp
                refine (HST.out _ PK _ _ _ _ _ _ HTK.out (HTQ.out _ hb5) HPL.out).mono ?_
                rintro e x6 ⟨rfl, hb'⟩
                have HB6 : Hid (Below W.heap.size W x6) := HB5.out.trans (hb'.mono HB5.out.size)
                have hb6 := hb5.trans (hb'.mono hb5.size)
                clear hb'
                refine hK.out _ _ trivial (fun _ => ?_)
                clear hK K'
                try simp only [Act.put, List.getElem_toArray, List.getElem_cons_succ, List.getElem_cons_zero, List.setIfInBounds_toArray, List.set_cons_zero, List.set_cons_succ]
                refine wpAnyH_take (i := 13) (v := .bool true) rfl (by kernel_rfl) (by kernel_rfl) (by kernel_rfl) (fun _ _ _ h => h) (Yields.yieldsIf (Or.inl ⟨by rfl, by intro wz; go_simp⟩)) hS0 ?_
                try simp only [Act.put, List.getElem_toArray, List.getElem_cons_succ, List.getElem_cons_zero, List.setIfInBounds_toArray, List.set_cons_zero, List.set_cons_succ]
                refine wpAnyH_take (i := 14) (v := .bool true) rfl (by kernel_rfl) (by kernel_rfl) (by kernel_rfl) (fun _ _ _ h => h) (Yields.yieldsIf (Or.inl ⟨by rfl, by intro wz; go_simp⟩)) hS0 ?_
                try simp only [Act.put, List.getElem_toArray, List.getElem_cons_succ, List.getElem_cons_zero, List.setIfInBounds_toArray, List.set_cons_zero, List.set_cons_succ]
                refine wpAnyH_take (i := 15) (v := .string ⟨s.toArray⟩) rfl (by kernel_rfl) (by kernel_rfl) (by kernel_rfl) (fun _ _ _ h => h) (Yields.yieldsIf (Or.inl ⟨by rfl, by intro wz; go_simp⟩)) hS0 ?_
                try simp only [Act.put, List.getElem_toArray, List.getElem_cons_succ, List.getElem_cons_zero, List.setIfInBounds_toArray, List.set_cons_zero, List.set_cons_succ]
                refine wpAnyH_take (i := 17) (v := .string ⟨s.toArray⟩) rfl (by kernel_rfl) (by kernel_rfl) (by kernel_rfl) (fun _ _ _ h => h) (Yields.yieldsIf (Or.inl ⟨by rfl, by intro wz; go_simp⟩)) hS0 ?_
                try simp only [Act.put, List.getElem_toArray, List.getElem_cons_succ, List.getElem_cons_zero, List.setIfInBounds_toArray, List.set_cons_zero, List.set_cons_succ]
                refine wpAnyH_ready (rs := [16]) (by kernel_rfl) (by simp) ?_
                refine AllReadyH.cons rfl (fun K' hK => ?_) AllReadyH.nil
                go_simp
                refine (HTR.out _).mono ?_
                rintro e x7 ⟨rfl, hx7⟩
                subst hx7
                refine hK.out _ _ trivial (fun _ => ?_)
                clear hK K'
                try simp only [Act.put, List.getElem_toArray, List.getElem_cons_succ, List.getElem_cons_zero, List.setIfInBounds_toArray, List.set_cons_zero, List.set_cons_succ]
                refine wpAnyH_ready (rs := [18]) (by kernel_rfl) (by simp) ?_
                refine AllReadyH.cons rfl (fun K' hK => ?_) AllReadyH.nil
                go_simp
                refine (HTR2.out _).mono ?_
                rintro e x8 ⟨rfl, hx8⟩
                subst hx8
                refine hK.out _ _ trivial (fun _ => ?_)
                clear hK K'
                try simp only [Act.put, List.getElem_toArray, List.getElem_cons_succ, List.getElem_cons_zero, List.setIfInBounds_toArray, List.set_cons_zero, List.set_cons_succ]
                refine wpAnyH_take (i := 19) (v := .bool true) rfl (by kernel_rfl) (by kernel_rfl) (by kernel_rfl) (fun _ _ _ h => h) (Yields.yieldsIf (Or.inl ⟨by rfl, by intro wz; go_simp⟩)) hS0 ?_
                try simp only [Act.put, List.getElem_toArray, List.getElem_cons_succ, List.getElem_cons_zero, List.setIfInBounds_toArray, List.set_cons_zero, List.set_cons_succ]
                refine wpAnyH_take (i := 20) (v := .bool true) rfl (by kernel_rfl) (by kernel_rfl) (by kernel_rfl) (fun _ _ _ h => h) (Yields.yieldsIf (Or.inl ⟨by rfl, by intro wz; go_simp⟩)) hS0 ?_
                try simp only [Act.put, List.getElem_toArray, List.getElem_cons_succ, List.getElem_cons_zero, List.setIfInBounds_toArray, List.set_cons_zero, List.set_cons_succ]
                refine wpAnyH_take (i := 21) (v := .bool true) rfl (by kernel_rfl) (by kernel_rfl) (by kernel_rfl) (fun _ _ _ h => h) (Yields.yieldsIf (Or.inl ⟨by rfl, by intro wz; go_simp⟩)) hS0 ?_
                try simp only [Act.put, List.getElem_toArray, List.getElem_cons_succ, List.getElem_cons_zero, List.setIfInBounds_toArray, List.set_cons_zero, List.set_cons_succ]
                refine wpAnyH_take (i := 22) (v := .slice adm m.length capm) rfl (by kernel_rfl) (by kernel_rfl) (by kernel_rfl) (fun _ _ _ h => h) (Yields.yieldsIf (Or.inl ⟨by rfl, by intro wz; go_simp⟩)) hS0 ?_
                try simp only [Act.put, List.getElem_toArray, List.getElem_cons_succ, List.getElem_cons_zero, List.setIfInBounds_toArray, List.set_cons_zero, List.set_cons_succ]
                refine wpAnyH_take (i := 23) (v := .slice adn ns.length capn) rfl (by kernel_rfl) (by kernel_rfl) (by kernel_rfl) (fun _ _ _ h => h) (Yields.yieldsIf (Or.inl ⟨by rfl, by intro wz; go_simp⟩)) hS0 ?_
                try simp only [Act.put, List.getElem_toArray, List.getElem_cons_succ, List.getElem_cons_zero, List.setIfInBounds_toArray, List.set_cons_zero, List.set_cons_succ]
                refine wpAnyH_take (i := 25) (v := .slice adm m.length capm) rfl (by kernel_rfl) (by kernel_rfl) (by kernel_rfl) (fun _ _ _ h => h) (Yields.yieldsIf (Or.inl ⟨by rfl, by intro wz; go_simp⟩)) hS0 ?_
                try simp only [Act.put, List.getElem_toArray, List.getElem_cons_succ, List.getElem_cons_zero, List.setIfInBounds_toArray, List.set_cons_zero, List.set_cons_succ]
                refine wpAnyH_take (i := 26) (v := .slice adn ns.length capn) rfl (by kernel_rfl) (by kernel_rfl) (by kernel_rfl) (fun _ _ _ h => h) (Yields.yieldsIf (Or.inl ⟨by rfl, by intro wz; go_simp⟩)) hS0 ?_
                try simp only [Act.put, List.getElem_toArray, List.getElem_cons_succ, List.getElem_cons_zero, List.setIfInBounds_toArray, List.set_cons_zero, List.set_cons_succ]
                refine wpAnyH_ready (rs := [24]) (by kernel_rfl) (by simp) ?_
                refine AllReadyH.cons rfl (fun K' hK => ?_) AllReadyH.nil
                go_simp
                refine (HLS.out _ HB6.out).mono ?_
                rintro e x9 ⟨rfl, hb'⟩
                have HB9 : Hid (Below W.heap.size W x9) := HB6.out.trans (hb'.mono HB6.out.size)
                have hb9 := hb6.trans (hb'.mono hb6.size)
                clear hb'
                refine hK.out _ _ trivial (fun _ => ?_)
                clear hK K'
                try simp only [Act.put, List.getElem_toArray, List.getElem_cons_succ, List.getElem_cons_zero, List.setIfInBounds_toArray, List.set_cons_zero, List.set_cons_succ]
                refine wpAnyH_ready (rs := [27]) (by kernel_rfl) (by simp) ?_
                refine AllReadyH.cons rfl (fun K' hK => ?_) AllReadyH.nil
                go_simp
                refine (HLT.out _ HB9.out).mono ?_
                rintro e x10 ⟨rfl, hb'⟩
                have HB10 : Hid (Below W.heap.size W x10) := HB9.out.trans (hb'.mono HB9.out.size)
                have hb10 := hb9.trans (hb'.mono hb9.size)
                clear hb'
                refine hK.out _ _ trivial (fun _ => ?_)
                clear hK K'
                try simp only [Act.put, List.getElem_toArray, List.getElem_cons_succ, List.getElem_cons_zero, List.setIfInBounds_toArray, List.set_cons_zero, List.set_cons_succ]
                refine wpAnyH_take (i := 28) (v := .bool true) rfl (by kernel_rfl) (by kernel_rfl) (by kernel_rfl) (fun _ _ _ h => h) (Yields.yieldsIf (Or.inl ⟨by rfl, by intro wz; go_simp⟩)) hS0 ?_
                try simp only [Act.put, List.getElem_toArray, List.getElem_cons_succ, List.getElem_cons_zero, List.setIfInBounds_toArray, List.set_cons_zero, List.set_cons_succ]
                refine wpAnyH_take (i := 29) (v := .bool true) rfl (by kernel_rfl) (by kernel_rfl) (by kernel_rfl) (fun _ _ _ h => h) (Yields.yieldsIf (Or.inl ⟨by rfl, by intro wz; go_simp⟩)) hS0 ?_
                try simp only [Act.put, List.getElem_toArray, List.getElem_cons_succ, List.getElem_cons_zero, List.setIfInBounds_toArray, List.set_cons_zero, List.set_cons_succ]
                refine wpAnyH_take (i := 30) (v := .bool true) rfl (by kernel_rfl) (by kernel_rfl) (by kernel_rfl) (fun _ _ _ h => h) (Yields.yieldsIf (Or.inl ⟨by rfl, by intro wz; go_simp⟩)) hS0 ?_
                try simp only [Act.put, List.getElem_toArray, List.getElem_cons_succ, List.getElem_cons_zero, List.setIfInBounds_toArray, List.set_cons_zero, List.set_cons_succ]
                refine wpAnyH_take (i := 31) (v := .slice adm m.length capm) rfl (by kernel_rfl) (by kernel_rfl) (by kernel_rfl) (fun _ _ _ h => h) (Yields.yieldsIf (Or.inl ⟨by rfl, by intro wz; go_simp⟩)) hS0 ?_
                try simp only [Act.put, List.getElem_toArray, List.getElem_cons_succ, List.getElem_cons_zero, List.setIfInBounds_toArray, List.set_cons_zero, List.set_cons_succ]
                refine wpAnyH_take (i := 34) (v := .slice adm m.length capm) rfl (by kernel_rfl) (by kernel_rfl) (by kernel_rfl) (fun _ _ _ h => h) (Yields.yieldsIf (Or.inl ⟨by rfl, by intro wz; go_simp⟩)) hS0 ?_
                try simp only [Act.put, List.getElem_toArray, List.getElem_cons_succ, List.getElem_cons_zero, List.setIfInBounds_toArray, List.set_cons_zero, List.set_cons_succ]
                refine wpAnyH_ready (rs := [32]) (by kernel_rfl) (by simp) ?_
                refine AllReadyH.cons rfl (fun K' hK => ?_) AllReadyH.nil
                go_simp
                refine (HFT.out _ HB10.out).mono ?_
                rintro e x11 ⟨rfl, hb'⟩
                have HB11 : Hid (Below W.heap.size W x11) := HB10.out.trans (hb'.mono HB10.out.size)
                have hb11 := hb10.trans (hb'.mono hb10.size)
                clear hb'
                refine hK.out _ _ trivial (fun _ => ?_)
                clear hK K'
                try simp only [Act.put, List.getElem_toArray, List.getElem_cons_succ, List.getElem_cons_zero, List.setIfInBounds_toArray, List.set_cons_zero, List.set_cons_succ]
                cases ff
                · rw [show fitV (ea 0) false = bigV (ea 0) from rfl]
                  refine wpAnyH_take (i := 33) (v := .bool false) rfl (by kernel_rfl) (by kernel_rfl) (by kernel_rfl) (fun _ _ _ h => h) (Yields.yieldsIf (Or.inl ⟨by rfl, by intro wz; go_simp⟩)) hS0 ?_
                  try simp only [Act.put, List.getElem_toArray, List.getElem_cons_succ, List.getElem_cons_zero, List.setIfInBounds_toArray, List.set_cons_zero, List.set_cons_succ]
                  refine wpAnyH_ready (rs := [35]) (by kernel_rfl) (by simp) ?_
                  refine AllReadyH.cons rfl (fun K' hK => ?_) AllReadyH.nil
                  go_simp
                  refine (HFR.out _ HB11.out).mono ?_
                  rintro e x12 ⟨rfl, hx12⟩
                  subst hx12
                  refine hK.out _ _ trivial (fun _ => ?_)
                  clear hK K'
                  try simp only [Act.put, List.getElem_toArray, List.getElem_cons_succ, List.getElem_cons_zero, List.setIfInBounds_toArray, List.set_cons_zero, List.set_cons_succ]
                  refine wpAnyH_take (i := 36) (v := .bool true) rfl (by kernel_rfl) (by kernel_rfl) (by kernel_rfl) (fun _ _ _ h => h) (Yields.yieldsIf (Or.inl ⟨by rfl, by intro wz; go_simp⟩)) hS0 ?_
                  try simp only [Act.put, List.getElem_toArray, List.getElem_cons_succ, List.getElem_cons_zero, List.setIfInBounds_toArray, List.set_cons_zero, List.set_cons_succ]
                  refine wpAnyH_take (i := 37) (v := .bool true) rfl (by kernel_rfl) (by kernel_rfl) (by kernel_rfl) (fun _ _ _ h => h) (Yields.yieldsIf (Or.inl ⟨by rfl, by intro wz; go_simp⟩)) hS0 ?_
                  try simp only [Act.put, List.getElem_toArray, List.getElem_cons_succ, List.getElem_cons_zero, List.setIfInBounds_toArray, List.set_cons_zero, List.set_cons_succ]
                  refine wpAnyH_take (i := 38) (v := .bool true) rfl (by kernel_rfl) (by kernel_rfl) (by kernel_rfl) (fun _ _ _ h => h) (Yields.yieldsIf (Or.inl ⟨by rfl, by intro wz; go_simp⟩)) hS0 ?_
                  try simp only [Act.put, List.getElem_toArray, List.getElem_cons_succ, List.getElem_cons_zero, List.setIfInBounds_toArray, List.set_cons_zero, List.set_cons_succ]
                  refine wpAnyH_done (by kernel_rfl) ?_ _
                  clear hS0
                  go_wp2_with fail
                  go_ret
                  exact ⟨rfl, HB11.out⟩
                · rw [show fitV (ea 0) true = .nilIface from rfl]
                  refine wpAnyH_take (i := 33) (v := .bool true) rfl (by kernel_rfl) (by kernel_rfl) (by kernel_rfl) (fun _ _ _ h => h) (Yields.yieldsIf (Or.inl ⟨by rfl, by intro wz; go_simp⟩)) hS0 ?_
                  try simp only [Act.put, List.getElem_toArray, List.getElem_cons_succ, List.getElem_cons_zero, List.setIfInBounds_toArray, List.set_cons_zero, List.set_cons_succ]
                  refine wpAnyH_ready (rs := [35]) (by kernel_rfl) (by simp) ?_
                  refine AllReadyH.cons rfl (fun K' hK => ?_) AllReadyH.nil
                  go_simp
                  refine (HFR.out _ HB11.out).mono ?_
                  rintro e x12 ⟨rfl, hx12⟩
                  subst hx12
                  refine hK.out _ _ trivial (fun _ => ?_)
                  clear hK K'
                  try simp only [Act.put, List.getElem_toArray, List.getElem_cons_succ, List.getElem_cons_zero, List.setIfInBounds_toArray, List.set_cons_zero, List.set_cons_succ]
                  refine wpAnyH_take (i := 36) (v := .bool true) rfl (by kernel_rfl) (by kernel_rfl) (by kernel_rfl) (fun _ _ _ h => h) (Yields.yieldsIf (Or.inl ⟨by rfl, by intro wz; go_simp⟩)) hS0 ?_
                  try simp only [Act.put, List.getElem_toArray, List.getElem_cons_succ, List.getElem_cons_zero, List.setIfInBounds_toArray, List.set_cons_zero, List.set_cons_succ]
                  refine wpAnyH_take (i := 37) (v := .bool true) rfl (by kernel_rfl) (by kernel_rfl) (by kernel_rfl) (fun _ _ _ h => h) (Yields.yieldsIf (Or.inl ⟨by rfl, by intro wz; go_simp⟩)) hS0 ?_
                  try simp only [Act.put, List.getElem_toArray, List.getElem_cons_succ, List.getElem_cons_zero, List.setIfInBounds_toArray, List.set_cons_zero, List.set_cons_succ]
                  refine wpAnyH_take (i := 38) (v := .bool true) rfl (by kernel_rfl) (by kernel_rfl) (by kernel_rfl) (fun _ _ _ h => h) (Yields.yieldsIf (Or.inl ⟨by rfl, by intro wz; go_simp⟩)) hS0 ?_
                  try simp only [Act.put, List.getElem_toArray, List.getElem_cons_succ, List.getElem_cons_zero, List.setIfInBounds_toArray, List.set_cons_zero, List.set_cons_succ]
                  refine wpAnyH_done (by kernel_rfl) ?_ _
                  clear hS0
                  go_wp2_with fail
                  go_ret
                  exact ⟨rfl, HB11.out⟩
            by_cases hp2 : (m.length : Int) < n
            · as_aux_lemma =>
                have hg1 : (1 : Int) ≤ n := by omega
                have hg2 : ¬ n ≤ (m.length : Int) := by omega
                have HPE : Hid (pickL m n = []) := by unfold Hid pickL; rw [if_neg (by omega)]
                have HTP : Hid (∀ W', Below w24.heap.size w24 W' → Tx W' (.slice none 0 0) PK) := fun W' _ => by rw [← HPK.out, HPE.out]; exact .inl ⟨rfl, rfl⟩
                have HBp := HB24
                go_wp2_with fail
                refine wp_region_held (S := (fun _ : World => True)) (by kernel_rfl) ?_
                change wpAnyH _ _ _ _ _ _ _ _ (World.drew _)
                have hS0 : (fun _ : World => True) (w24.drew) := trivial
                have HBA : Hid (Below W.heap.size W w24.drew) := HBp.out.drew
                have HTQ : Hid (∀ W', Below w24.drew.heap.size w24.drew W' → Tx W' (.slice none 0 0) PK) := fun W' h => HTP.out W' (((Below.refl _ w24).drew).trans h)
                have hbA : Below w24.drew.heap.size w24.drew w24.drew := Below.refl _ _
                refine wpAnyH_take (i := 0) (v := .slice adm m.length capm) rfl (by kernel_rfl) (by kernel_rfl) (by kernel_rfl) (fun _ _ _ h => h) (Yields.yieldsIf (Or.inl ⟨by rfl, by intro wz; go_simp⟩)) hS0 ?_
                try simp only [Act.put, List.getElem_toArray, List.getElem_cons_zero, List.setIfInBounds_toArray, List.set_cons_zero, List.set_cons_succ]
                refine wpAnyH_take (i := 2) (v := .slice adm m.length capm) rfl (by kernel_rfl) (by kernel_rfl) (by kernel_rfl) (fun _ _ _ h => h) (Yields.yieldsIf (Or.inl ⟨by rfl, by intro wz; go_simp⟩)) hS0 ?_
                try simp only [Act.put, List.getElem_toArray, List.getElem_cons_succ, List.getElem_cons_zero, List.setIfInBounds_toArray, List.set_cons_zero, List.set_cons_succ]
                refine wpAnyH_take (i := 3) (v := .int .i64 (m.length : Nat)) rfl (by kernel_rfl) (by kernel_rfl) (by kernel_rfl) (fun _ _ _ h => h) (Yields.yieldsIf (Or.inl ⟨by rfl, by intro wz; go_simp⟩)) hS0 ?_
                try simp only [Act.put, List.getElem_toArray, List.getElem_cons_succ, List.getElem_cons_zero, List.setIfInBounds_toArray, List.set_cons_zero, List.set_cons_succ]
                refine wpAnyH_ready (rs := [1]) (by kernel_rfl) (by simp) ?_
                refine AllReadyH.cons rfl (fun K' hK => ?_) AllReadyH.nil
                go_simp
                refine (HCN.out _ HBA.out).mono ?_
                rintro e x1 ⟨adc, capc, rfl, tc, hb'⟩
                have HB1 : Hid (Below W.heap.size W x1) := HBA.out.trans (hb'.mono HBA.out.size)
                have hb1 := hbA.trans (hb'.mono hbA.size)
                have HTC : Hid (∀ W', Below x1.heap.size x1 W' → Tx W' (.slice adc 1 capc) [T]) := fun W' h => tc.below h (Nat.le_refl _)
                clear tc
                clear hb'
                refine hK.out _ _ trivial (fun _ => ?_)
                clear hK K'
                try simp only [Act.put, List.getElem_toArray, List.getElem_cons_succ, List.getElem_cons_zero, List.setIfInBounds_toArray, List.set_cons_zero, List.set_cons_succ]
                refine wpAnyH_ready (rs := [4]) (by kernel_rfl) (by simp) ?_
                refine AllReadyH.cons rfl (fun K' hK => ?_) AllReadyH.nil
                go_simp
                refine (HNU.out _).mono ?_
                rintro e x2 ⟨rfl, hb'⟩
                have HB2 : Hid (Below W.heap.size W x2) := HB1.out.trans (hb'.mono HB1.out.size)
                have hb2 := hb1.trans (hb'.mono hb1.size)
                have HTC' : Hid (∀ W', Below x2.heap.size x2 W' → Tx W' (.slice adc 1 capc) [T]) := fun W' h => HTC.out W' (hb'.trans (h.mono hb'.size))
                clear HTC
                clear hb'
                refine hK.out _ _ trivial (fun _ => ?_)
                clear hK K'
                try simp only [Act.put, List.getElem_toArray, List.getElem_cons_succ, List.getElem_cons_zero, List.setIfInBounds_toArray, List.set_cons_zero, List.set_cons_succ]
                refine wpAnyH_ready (rs := [5]) (by kernel_rfl) (by simp) ?_
                refine AllReadyH.cons rfl (fun K' hK => ?_) AllReadyH.nil
                have HT3 : Hid (Tx (x2.alloc (.cells #[.string ⟨T.toArray⟩] 9)) (.slice (some ⟨x2.heap.size, 0, none⟩) 1 1) [T]) := Tx.one x2 T
                have hb' := below_new x2 (.cells #[.string ⟨T.toArray⟩] 9)
                have HTC2 : Hid (Tx (x2.alloc (.cells #[.string ⟨T.toArray⟩] 9)) (.slice adc 1 capc) [T]) := HTC'.out _ hb'
                have HB3 : Hid (Below W.heap.size W (x2.alloc (.cells #[.string ⟨T.toArray⟩] 9))) := HB2.out.trans (hb'.mono HB2.out.size)
                have hb3 := hb2.trans (hb'.mono hb2.size)
                clear hb'
                go_simp
                refine hK.out _ _ trivial (fun _ => ?_)
                clear hK K'
                try simp only [Act.put, List.getElem_toArray, List.getElem_cons_succ, List.getElem_cons_zero, List.setIfInBounds_toArray, List.set_cons_zero, List.set_cons_succ]
                refine wpAnyH_ready (rs := [6]) (by kernel_rfl) (by simp) ?_
                refine AllReadyH.cons rfl (fun K' hK => ?_) AllReadyH.nil
                go_simp
                refine (HST.out _ [T] _ _ _ _ _ _ HTC2.out HT3.out (by simp)).mono ?_
                rintro e x4 ⟨rfl, hb'⟩
                have HB4 : Hid (Below W.heap.size W x4) := HB3.out.trans (hb'.mono HB3.out.size)
                have hb4 := hb3.trans (hb'.mono hb3.size)
                clear hb'
                refine hK.out _ _ trivial (fun _ => ?_)
                clear hK K'
                try simp only [Act.put, List.getElem_toArray, List.getElem_cons_succ, List.getElem_cons_zero, List.setIfInBounds_toArray, List.set_cons_zero, List.set_cons_succ]
                refine wpAnyH_take (i := 7) (v := .bool true) rfl (by kernel_rfl) (by kernel_rfl) (by kernel_rfl) (fun _ _ _ h => h) (Yields.yieldsIf (Or.inl ⟨by rfl, by intro wz; go_simp⟩)) hS0 ?_
                try simp only [Act.put, List.getElem_toArray, List.getElem_cons_succ, List.getElem_cons_zero, List.setIfInBounds_toArray, List.set_cons_zero, List.set_cons_succ]
                refine wpAnyH_take (i := 8) (v := .slice adm m.length capm) rfl (by kernel_rfl) (by kernel_rfl) (by kernel_rfl) (fun _ _ _ h => h) (Yields.yieldsIf (Or.inl ⟨by rfl, by intro wz; go_simp⟩)) hS0 ?_
                try simp only [Act.put, List.getElem_toArray, List.getElem_cons_succ, List.getElem_cons_zero, List.setIfInBounds_toArray, List.set_cons_zero, List.set_cons_succ]
                refine wpAnyH_take (i := 9) (v := .int .i64 n) rfl (by kernel_rfl) (by kernel_rfl) (by kernel_rfl) (fun _ _ _ h => h) (Yields.yieldsIf (Or.inl ⟨by rfl, by intro wz; go_simp⟩)) hS0 ?_
                try simp only [Act.put, List.getElem_toArray, List.getElem_cons_succ, List.getElem_cons_zero, List.setIfInBounds_toArray, List.set_cons_zero, List.set_cons_succ]
                refine wpAnyH_take (i := 11) (v := .slice none 0 0) rfl (by kernel_rfl) (by kernel_rfl) (by kernel_rfl) (fun _ _ _ h => h) (Yields.yieldsIf (Or.inl ⟨by rfl, by intro wz; go_simp⟩)) hS0 ?_
                try simp only [Act.put, List.getElem_toArray, List.getElem_cons_succ, List.getElem_cons_zero, List.setIfInBounds_toArray, List.set_cons_zero, List.set_cons_succ]
                refine wpAnyH_ready (rs := [10]) (by kernel_rfl) (by simp) ?_
                refine AllReadyH.cons rfl (fun K' hK => ?_) AllReadyH.nil
                go_simp
                refine (HPC.out _ HB4.out).mono ?_
                rintro e x5 ⟨adq, qq, capq, rfl, tq, hb'⟩
                have HB5 : Hid (Below W.heap.size W x5) := HB4.out.trans (hb'.mono HB4.out.size)
                have hb5 := hb4.trans (hb'.mono hb4.size)
                have HTK : Hid (Tx x5 (.slice adq qq capq) PK) := tq
                clear tq
                clear hb'
                refine hK.out _ _ trivial (fun _ => ?_)
                clear hK K'
                try simp only [Act.put, List.getElem_toArray, List.getElem_cons_succ, List.getElem_cons_zero, List.setIfInBounds_toArray, List.set_cons_zero, List.set_cons_succ]
                refine wpAnyH_ready (rs := [12]) (by kernel_rfl) (by simp) ?_
                refine AllReadyH.cons rfl (fun K' hK => ?_) AllReadyH.nil
                go_simp
                refine (HST.out _ PK _ _ _ _ _ _ HTK.out (HTQ.out _ hb5) HPL.out).mono ?_
                rintro e x6 ⟨rfl, hb'⟩
                have HB6 : Hid (Below W.heap.size W x6) := HB5.out.trans (hb'.mono HB5.out.size)
                have hb6 := hb5.trans (hb'.mono hb5.size)
                clear hb'
                refine hK.out _ _ trivial (fun _ => ?_)
                clear hK K'
                try simp only [Act.put, List.getElem_toArray, List.getElem_cons_succ, List.getElem_cons_zero, List.setIfInBounds_toArray, List.set_cons_zero, List.set_cons_succ]
                refine wpAnyH_take (i := 13) (v := .bool true) rfl (by kernel_rfl) (by kernel_rfl) (by kernel_rfl) (fun _ _ _ h => h) (Yields.yieldsIf (Or.inl ⟨by rfl, by intro wz; go_simp⟩)) hS0 ?_
                try simp only [Act.put, List.getElem_toArray, List.getElem_cons_succ, List.getElem_cons_zero, List.setIfInBounds_toArray, List.set_cons_zero, List.set_cons_succ]
                refine wpAnyH_take (i := 14) (v := .bool true) rfl (by kernel_rfl) (by kernel_rfl) (by kernel_rfl) (fun _ _ _ h => h) (Yields.yieldsIf (Or.inl ⟨by rfl, by intro wz; go_simp⟩)) hS0 ?_
                try simp only [Act.put, List.getElem_toArray, List.getElem_cons_succ, List.getElem_cons_zero, List.setIfInBounds_toArray, List.set_cons_zero, List.set_cons_succ]
                refine wpAnyH_take (i := 15) (v := .string ⟨s.toArray⟩) rfl (by kernel_rfl) (by kernel_rfl) (by kernel_rfl) (fun _ _ _ h => h) (Yields.yieldsIf (Or.inl ⟨by rfl, by intro wz; go_simp⟩)) hS0 ?_
                try simp only [Act.put, List.getElem_toArray, List.getElem_cons_succ, List.getElem_cons_zero, List.setIfInBounds_toArray, List.set_cons_zero, List.set_cons_succ]
                refine wpAnyH_take (i := 17) (v := .string ⟨s.toArray⟩) rfl (by kernel_rfl) (by kernel_rfl) (by kernel_rfl) (fun _ _ _ h => h) (Yields.yieldsIf (Or.inl ⟨by rfl, by intro wz; go_simp⟩)) hS0 ?_
                try simp only [Act.put, List.getElem_toArray, List.getElem_cons_succ, List.getElem_cons_zero, List.setIfInBounds_toArray, List.set_cons_zero, List.set_cons_succ]
                refine wpAnyH_ready (rs := [16]) (by kernel_rfl) (by simp) ?_
                refine AllReadyH.cons rfl (fun K' hK => ?_) AllReadyH.nil
                go_simp
                refine (HTR.out _).mono ?_
                rintro e x7 ⟨rfl, hx7⟩
                subst hx7
                refine hK.out _ _ trivial (fun _ => ?_)
                clear hK K'
                try simp only [Act.put, List.getElem_toArray, List.getElem_cons_succ, List.getElem_cons_zero, List.setIfInBounds_toArray, List.set_cons_zero, List.set_cons_succ]
                refine wpAnyH_ready (rs := [18]) (by kernel_rfl) (by simp) ?_
                refine AllReadyH.cons rfl (fun K' hK => ?_) AllReadyH.nil
                go_simp
                refine (HTR2.out _).mono ?_
                rintro e x8 ⟨rfl, hx8⟩
                subst hx8
                refine hK.out _ _ trivial (fun _ => ?_)
                clear hK K'
                try simp only [Act.put, List.getElem_toArray, List.getElem_cons_succ, List.getElem_cons_zero, List.setIfInBounds_toArray, List.set_cons_zero, List.set_cons_succ]
                refine wpAnyH_take (i := 19) (v := .bool true) rfl (by kernel_rfl) (by kernel_rfl) (by kernel_rfl) (fun _ _ _ h => h) (Yields.yieldsIf (Or.inl ⟨by rfl, by intro wz; go_simp⟩)) hS0 ?_
                try simp only [Act.put, List.getElem_toArray, List.getElem_cons_succ, List.getElem_cons_zero, List.setIfInBounds_toArray, List.set_cons_zero, List.set_cons_succ]
                refine wpAnyH_take (i := 20) (v := .bool true) rfl (by kernel_rfl) (by kernel_rfl) (by kernel_rfl) (fun _ _ _ h => h) (Yields.yieldsIf (Or.inl ⟨by rfl, by intro wz; go_simp⟩)) hS0 ?_
                try simp only [Act.put, List.getElem_toArray, List.getElem_cons_succ, List.getElem_cons_zero, List.setIfInBounds_toArray, List.set_cons_zero, List.set_cons_succ]
                refine wpAnyH_take (i := 21) (v := .bool true) rfl (by kernel_rfl) (by kernel_rfl) (by kernel_rfl) (fun _ _ _ h => h) (Yields.yieldsIf (Or.inl ⟨by rfl, by intro wz; go_simp⟩)) hS0 ?_
                try simp only [Act.put, List.getElem_toArray, List.getElem_cons_succ, List.getElem_cons_zero, List.setIfInBounds_toArray, List.set_cons_zero, List.set_cons_succ]
                refine wpAnyH_take (i := 22) (v := .slice adm m.length capm) rfl (by kernel_rfl) (by kernel_rfl) (by kernel_rfl) (fun _ _ _ h => h) (Yields.yieldsIf (Or.inl ⟨by rfl, by intro wz; go_simp⟩)) hS0 ?_
                try simp only [Act.put, List.getElem_toArray, List.getElem_cons_succ, List.getElem_cons_zero, List.setIfInBounds_toArray, List.set_cons_zero, List.set_cons_succ]
                refine wpAnyH_take (i := 23) (v := .slice adn ns.length capn) rfl (by kernel_rfl) (by kernel_rfl) (by kernel_rfl) (fun _ _ _ h => h) (Yields.yieldsIf (Or.inl ⟨by rfl, by intro wz; go_simp⟩)) hS0 ?_
                try simp only [Act.put, List.getElem_toArray, List.getElem_cons_succ, List.getElem_cons_zero, List.setIfInBounds_toArray, List.set_cons_zero, List.set_cons_succ]
                refine wpAnyH_take (i := 25) (v := .slice adm m.length capm) rfl (by kernel_rfl) (by kernel_rfl) (by kernel_rfl) (fun _ _ _ h => h) (Yields.yieldsIf (Or.inl ⟨by rfl, by intro wz; go_simp⟩)) hS0 ?_
                try simp only [Act.put, List.getElem_toArray, List.getElem_cons_succ, List.getElem_cons_zero, List.setIfInBounds_toArray, List.set_cons_zero, List.set_cons_succ]
                refine wpAnyH_take (i := 26) (v := .slice adn ns.length capn) rfl (by kernel_rfl) (by kernel_rfl) (by kernel_rfl) (fun _ _ _ h => h) (Yields.yieldsIf (Or.inl ⟨by rfl, by intro wz; go_simp⟩)) hS0 ?_
                try simp only [Act.put, List.getElem_toArray, List.getElem_cons_succ, List.getElem_cons_zero, List.setIfInBounds_toArray, List.set_cons_zero, List.set_cons_succ]
                refine wpAnyH_ready (rs := [24]) (by kernel_rfl) (by simp) ?_
                refine AllReadyH.cons rfl (fun K' hK => ?_) AllReadyH.nil
                go_simp
                refine (HLS.out _ HB6.out).mono ?_
                rintro e x9 ⟨rfl, hb'⟩
                have HB9 : Hid (Below W.heap.size W x9) := HB6.out.trans (hb'.mono HB6.out.size)
                have hb9 := hb6.trans (hb'.mono hb6.size)
                clear hb'
                refine hK.out _ _ trivial (fun _ => ?_)
                clear hK K'
                try simp only [Act.put, List.getElem_toArray, List.getElem_cons_succ, List.getElem_cons_zero, List.setIfInBounds_toArray, List.set_cons_zero, List.set_cons_succ]
                refine wpAnyH_ready (rs := [27]) (by kernel_rfl) (by simp) ?_
                refine AllReadyH.cons rfl (fun K' hK => ?_) AllReadyH.nil
                go_simp
                refine (HLT.out _ HB9.out).mono ?_
                rintro e x10 ⟨rfl, hb'⟩
                have HB10 : Hid (Below W.heap.size W x10) := HB9.out.trans (hb'.mono HB9.out.size)
                have hb10 := hb9.trans (hb'.mono hb9.size)
                clear hb'
                refine hK.out _ _ trivial (fun _ => ?_)
                clear hK K'
                try simp only [Act.put, List.getElem_toArray, List.getElem_cons_succ, List.getElem_cons_zero, List.setIfInBounds_toArray, List.set_cons_zero, List.set_cons_succ]
                refine wpAnyH_take (i := 28) (v := .bool true) rfl (by kernel_rfl) (by kernel_rfl) (by kernel_rfl) (fun _ _ _ h => h) (Yields.yieldsIf (Or.inl ⟨by rfl, by intro wz; go_simp⟩)) hS0 ?_
                try simp only [Act.put, List.getElem_toArray, List.getElem_cons_succ, List.getElem_cons_zero, List.setIfInBounds_toArray, List.set_cons_zero, List.set_cons_succ]
                refine wpAnyH_take (i := 29) (v := .bool true) rfl (by kernel_rfl) (by kernel_rfl) (by kernel_rfl) (fun _ _ _ h => h) (Yields.yieldsIf (Or.inl ⟨by rfl, by intro wz; go_simp⟩)) hS0 ?_
                try simp only [Act.put, List.getElem_toArray, List.getElem_cons_succ, List.getElem_cons_zero, List.setIfInBounds_toArray, List.set_cons_zero, List.set_cons_succ]
                refine wpAnyH_take (i := 30) (v := .bool true) rfl (by kernel_rfl) (by kernel_rfl) (by kernel_rfl) (fun _ _ _ h => h) (Yields.yieldsIf (Or.inl ⟨by rfl, by intro wz; go_simp⟩)) hS0 ?_
                try simp only [Act.put, List.getElem_toArray, List.getElem_cons_succ, List.getElem_cons_zero, List.setIfInBounds_toArray, List.set_cons_zero, List.set_cons_succ]
                refine wpAnyH_take (i := 31) (v := .slice adm m.length capm) rfl (by kernel_rfl) (by kernel_rfl) (by kernel_rfl) (fun _ _ _ h => h) (Yields.yieldsIf (Or.inl ⟨by rfl, by intro wz; go_simp⟩)) hS0 ?_
                try simp only [Act.put, List.getElem_toArray, List.getElem_cons_succ, List.getElem_cons_zero, List.setIfInBounds_toArray, List.set_cons_zero, List.set_cons_succ]
                refine wpAnyH_take (i := 34) (v := .slice adm m.length capm) rfl (by kernel_rfl) (by kernel_rfl) (by kernel_rfl) (fun _ _ _ h => h) (Yields.yieldsIf (Or.inl ⟨by rfl, by intro wz; go_simp⟩)) hS0 ?_
                try simp only [Act.put, List.getElem_toArray, List.getElem_cons_succ, List.getElem_cons_zero, List.setIfInBounds_toArray, List.set_cons_zero, List.set_cons_succ]
                refine wpAnyH_ready (rs := [32]) (by kernel_rfl) (by simp) ?_
                refine AllReadyH.cons rfl (fun K' hK => ?_) AllReadyH.nil
                go_simp
                refine (HFT.out _ HB10.out).mono ?_
                rintro e x11 ⟨rfl, hb'⟩
                have HB11 : Hid (Below W.heap.size W x11) := HB10.out.trans (hb'.mono HB10.out.size)
                have hb11 := hb10.trans (hb'.mono hb10.size)
                clear hb'
                refine hK.out _ _ trivial (fun _ => ?_)
                clear hK K'
                try simp only [Act.put, List.getElem_toArray, List.getElem_cons_succ, List.getElem_cons_zero, List.setIfInBounds_toArray, List.set_cons_zero, List.set_cons_succ]
                cases ff
                · rw [show fitV (ea 0) false = bigV (ea 0) from rfl]
                  refine wpAnyH_take (i := 33) (v := .bool false) rfl (by kernel_rfl) (by kernel_rfl) (by kernel_rfl) (fun _ _ _ h => h) (Yields.yieldsIf (Or.inl ⟨by rfl, by intro wz; go_simp⟩)) hS0 ?_
                  try simp only [Act.put, List.getElem_toArray, List.getElem_cons_succ, List.getElem_cons_zero, List.setIfInBounds_toArray, List.set_cons_zero, List.set_cons_succ]
                  refine wpAnyH_ready (rs := [35]) (by kernel_rfl) (by simp) ?_
                  refine AllReadyH.cons rfl (fun K' hK => ?_) AllReadyH.nil
                  go_simp
                  refine (HFR.out _ HB11.out).mono ?_
                  rintro e x12 ⟨rfl, hx12⟩
                  subst hx12
                  refine hK.out _ _ trivial (fun _ => ?_)
                  clear hK K'
                  try simp only [Act.put, List.getElem_toArray, List.getElem_cons_succ, List.getElem_cons_zero, List.setIfInBounds_toArray, List.set_cons_zero, List.set_cons_succ]
                  refine wpAnyH_take (i := 36) (v := .bool true) rfl (by kernel_rfl) (by kernel_rfl) (by kernel_rfl) (fun _ _ _ h => h) (Yields.yieldsIf (Or.inl ⟨by rfl, by intro wz; go_simp⟩)) hS0 ?_
                  try simp only [Act.put, List.getElem_toArray, List.getElem_cons_succ, List.getElem_cons_zero, List.setIfInBounds_toArray, List.set_cons_zero, List.set_cons_succ]
                  refine wpAnyH_take (i := 37) (v := .bool true) rfl (by kernel_rfl) (by kernel_rfl) (by kernel_rfl) (fun _ _ _ h => h) (Yields.yieldsIf (Or.inl ⟨by rfl, by intro wz; go_simp⟩)) hS0 ?_
                  try simp only [Act.put, List.getElem_toArray, List.getElem_cons_succ, List.getElem_cons_zero, List.setIfInBounds_toArray, List.set_cons_zero, List.set_cons_succ]
                  refine wpAnyH_take (i := 38) (v := .bool true) rfl (by kernel_rfl) (by kernel_rfl) (by kernel_rfl) (fun _ _ _ h => h) (Yields.yieldsIf (Or.inl ⟨by rfl, by intro wz; go_simp⟩)) hS0 ?_
                  try simp only [Act.put, List.getElem_toArray, List.getElem_cons_succ, List.getElem_cons_zero, List.setIfInBounds_toArray, List.set_cons_zero, List.set_cons_succ]
                  refine wpAnyH_done (by kernel_rfl) ?_ _
                  clear hS0
                  go_wp2_with fail
                  go_ret
                  exact ⟨rfl, HB11.out⟩
                · rw [show fitV (ea 0) true = .nilIface from rfl]
                  refine wpAnyH_take (i := 33) (v := .bool true) rfl (by kernel_rfl) (by kernel_rfl) (by kernel_rfl) (fun _ _ _ h => h) (Yields.yieldsIf (Or.inl ⟨by rfl, by intro wz; go_simp⟩)) hS0 ?_
                  try simp only [Act.put, List.getElem_toArray, List.getElem_cons_succ, List.getElem_cons_zero, List.setIfInBounds_toArray, List.set_cons_zero, List.set_cons_succ]
                  refine wpAnyH_ready (rs := [35]) (by kernel_rfl) (by simp) ?_
                  refine AllReadyH.cons rfl (fun K' hK => ?_) AllReadyH.nil
                  go_simp
                  refine (HFR.out _ HB11.out).mono ?_
                  rintro e x12 ⟨rfl, hx12⟩
                  subst hx12
                  refine hK.out _ _ trivial (fun _ => ?_)
                  clear hK K'
                  try simp only [Act.put, List.getElem_toArray, List.getElem_cons_succ, List.getElem_cons_zero, List.setIfInBounds_toArray, List.set_cons_zero, List.set_cons_succ]
                  refine wpAnyH_take (i := 36) (v := .bool true) rfl (by kernel_rfl) (by kernel_rfl) (by kernel_rfl) (fun _ _ _ h => h) (Yields.yieldsIf (Or.inl ⟨by rfl, by intro wz; go_simp⟩)) hS0 ?_
                  try simp only [Act.put, List.getElem_toArray, List.getElem_cons_succ, List.getElem_cons_zero, List.setIfInBounds_toArray, List.set_cons_zero, List.set_cons_succ]
                  refine wpAnyH_take (i := 37) (v := .bool true) rfl (by kernel_rfl) (by kernel_rfl) (by kernel_rfl) (fun _ _ _ h => h) (Yields.yieldsIf (Or.inl ⟨by rfl, by intro wz; go_simp⟩)) hS0 ?_
                  try simp only [Act.put, List.getElem_toArray, List.getElem_cons_succ, List.getElem_cons_zero, List.setIfInBounds_toArray, List.set_cons_zero, List.set_cons_succ]
                  refine wpAnyH_take (i := 38) (v := .bool true) rfl (by kernel_rfl) (by kernel_rfl) (by kernel_rfl) (fun _ _ _ h => h) (Yields.yieldsIf (Or.inl ⟨by rfl, by intro wz; go_simp⟩)) hS0 ?_
                  try simp only [Act.put, List.getElem_toArray, List.getElem_cons_succ, List.getElem_cons_zero, List.setIfInBounds_toArray, List.set_cons_zero, List.set_cons_succ]
                  refine wpAnyH_done (by kernel_rfl) ?_ _
                  clear hS0
                  go_wp2_with fail
                  go_ret
                  exact ⟨rfl, HB11.out⟩
            as_aux_lemma =>
              obtain ⟨i, rfl⟩ : ∃ i : Nat, n = (i : Int) + 1 := ⟨(n - 1).toNat, by omega⟩
              have hil : i < m.length := by omega
              obtain ⟨x, hx⟩ : ∃ x, m[i]? = some x := ⟨_, List.getElem?_eq_getElem hil⟩
              obtain ⟨gm, om, cap', hv, _, _, hc⟩ := (HTM.out _ HB24.out).inRow (fun e => by rw [e] at hil; simp at hil)
              cases hv
              have e1 := hc i x hx
              have HPE : Hid (pickL m ((i : Int) + 1) = [x]) := by
                unfold Hid pickL
                rw [if_pos (by omega), show ((i : Int) + 1 - 1).toNat = i by omega, List.getD_eq_getElem?_getD, hx]
                rfl
              obtain ⟨wz, hwz⟩ : ∃ wz, wz = w24.alloc (.cells #[.string ⟨x.toArray⟩] 9) := ⟨_, rfl⟩
              have HTP : Hid (∀ W', Below wz.heap.size wz W' → Tx W' (.slice (some ⟨w24.heap.size, 0, none⟩) 1 1) PK) := fun W' h => by
                rw [← HPK.out, HPE.out]
                rw [hwz] at h
                exact (Tx.one w24 x).below h (Nat.le_refl _)
              have HBp : Hid (Below W.heap.size W wz) := by
                unfold Hid
                rw [hwz]
                exact HB24.out.alloc HB24.out.size _
              have hi1 : (1 : Int) ≤ (i : Int) + 1 := by omega
              have hi2 : (i : Int) + 1 ≤ (m.length : Int) := by omega
              clear hx hc
              go_upto_region 39 with fail
              rw [← hwz]
              clear hwz e1
              refine wp_region_held (S := (fun _ : World => True)) (by kernel_rfl) ?_
              change wpAnyH _ _ _ _ _ _ _ _ (World.drew _)
              have hS0 : (fun _ : World => True) (wz.drew) := trivial
              have HBA : Hid (Below W.heap.size W wz.drew) := HBp.out.drew
              have HTQ : Hid (∀ W', Below wz.drew.heap.size wz.drew W' → Tx W' (.slice (some ⟨w24.heap.size, 0, none⟩) 1 1) PK) := fun W' h => HTP.out W' (((Below.refl _ wz).drew).trans h)
              have hbA : Below wz.drew.heap.size wz.drew wz.drew := Below.refl _ _
              refine wpAnyH_take (i := 0) (v := .slice (some ⟨gm, om, none⟩) m.length capm) rfl (by kernel_rfl) (by kernel_rfl) (by kernel_rfl) (fun _ _ _ h => h) (Yields.yieldsIf (Or.inl ⟨by rfl, by intro wz; go_simp⟩)) hS0 ?_
              try simp only [Act.put, List.getElem_toArray, List.getElem_cons_zero, List.setIfInBounds_toArray, List.set_cons_zero, List.set_cons_succ]
              refine wpAnyH_take (i := 2) (v := .slice (some ⟨gm, om, none⟩) m.length capm) rfl (by kernel_rfl) (by kernel_rfl) (by kernel_rfl) (fun _ _ _ h => h) (Yields.yieldsIf (Or.inl ⟨by rfl, by intro wz; go_simp⟩)) hS0 ?_
              try simp only [Act.put, List.getElem_toArray, List.getElem_cons_succ, List.getElem_cons_zero, List.setIfInBounds_toArray, List.set_cons_zero, List.set_cons_succ]
              refine wpAnyH_take (i := 3) (v := .int .i64 (m.length : Nat)) rfl (by kernel_rfl) (by kernel_rfl) (by kernel_rfl) (fun _ _ _ h => h) (Yields.yieldsIf (Or.inl ⟨by rfl, by intro wz; go_simp⟩)) hS0 ?_
              try simp only [Act.put, List.getElem_toArray, List.getElem_cons_succ, List.getElem_cons_zero, List.setIfInBounds_toArray, List.set_cons_zero, List.set_cons_succ]
              refine wpAnyH_ready (rs := [1]) (by kernel_rfl) (by simp) ?_
              refine AllReadyH.cons rfl (fun K' hK => ?_) AllReadyH.nil
              go_simp
              refine (HCN.out _ HBA.out).mono ?_
              rintro e x1 ⟨adc, capc, rfl, tc, hb'⟩
              have HB1 : Hid (Below W.heap.size W x1) := HBA.out.trans (hb'.mono HBA.out.size)
              have hb1 := hbA.trans (hb'.mono hbA.size)
              have HTC : Hid (∀ W', Below x1.heap.size x1 W' → Tx W' (.slice adc 1 capc) [T]) := fun W' h => tc.below h (Nat.le_refl _)
              clear tc
              clear hb'
              refine hK.out _ _ trivial (fun _ => ?_)
              clear hK K'
              try simp only [Act.put, List.getElem_toArray, List.getElem_cons_succ, List.getElem_cons_zero, List.setIfInBounds_toArray, List.set_cons_zero, List.set_cons_succ]
              refine wpAnyH_ready (rs := [4]) (by kernel_rfl) (by simp) ?_
              refine AllReadyH.cons rfl (fun K' hK => ?_) AllReadyH.nil
              go_simp
              refine (HNU.out _).mono ?_
              rintro e x2 ⟨rfl, hb'⟩
              have HB2 : Hid (Below W.heap.size W x2) := HB1.out.trans (hb'.mono HB1.out.size)
              have hb2 := hb1.trans (hb'.mono hb1.size)
              have HTC' : Hid (∀ W', Below x2.heap.size x2 W' → Tx W' (.slice adc 1 capc) [T]) := fun W' h => HTC.out W' (hb'.trans (h.mono hb'.size))
              clear HTC
              clear hb'
              refine hK.out _ _ trivial (fun _ => ?_)
              clear hK K'
              try simp only [Act.put, List.getElem_toArray, List.getElem_cons_succ, List.getElem_cons_zero, List.setIfInBounds_toArray, List.set_cons_zero, List.set_cons_succ]
              refine wpAnyH_ready (rs := [5]) (by kernel_rfl) (by simp) ?_
              refine AllReadyH.cons rfl (fun K' hK => ?_) AllReadyH.nil
              have HT3 : Hid (Tx (x2.alloc (.cells #[.string ⟨T.toArray⟩] 9)) (.slice (some ⟨x2.heap.size, 0, none⟩) 1 1) [T]) := Tx.one x2 T
              have hb' := below_new x2 (.cells #[.string ⟨T.toArray⟩] 9)
              have HTC2 : Hid (Tx (x2.alloc (.cells #[.string ⟨T.toArray⟩] 9)) (.slice adc 1 capc) [T]) := HTC'.out _ hb'
              have HB3 : Hid (Below W.heap.size W (x2.alloc (.cells #[.string ⟨T.toArray⟩] 9))) := HB2.out.trans (hb'.mono HB2.out.size)
              have hb3 := hb2.trans (hb'.mono hb2.size)
              clear hb'
              go_simp
              refine hK.out _ _ trivial (fun _ => ?_)
              clear hK K'
              try simp only [Act.put, List.getElem_toArray, List.getElem_cons_succ, List.getElem_cons_zero, List.setIfInBounds_toArray, List.set_cons_zero, List.set_cons_succ]
              refine wpAnyH_ready (rs := [6]) (by kernel_rfl) (by simp) ?_
              refine AllReadyH.cons rfl (fun K' hK => ?_) AllReadyH.nil
              go_simp
              refine (HST.out _ [T] _ _ _ _ _ _ HTC2.out HT3.out (by simp)).mono ?_
              rintro e x4 ⟨rfl, hb'⟩
              have HB4 : Hid (Below W.heap.size W x4) := HB3.out.trans (hb'.mono HB3.out.size)
              have hb4 := hb3.trans (hb'.mono hb3.size)
              clear hb'
              refine hK.out _ _ trivial (fun _ => ?_)
              clear hK K'
              try simp only [Act.put, List.getElem_toArray, List.getElem_cons_succ, List.getElem_cons_zero, List.setIfInBounds_toArray, List.set_cons_zero, List.set_cons_succ]
              refine wpAnyH_take (i := 7) (v := .bool true) rfl (by kernel_rfl) (by kernel_rfl) (by kernel_rfl) (fun _ _ _ h => h) (Yields.yieldsIf (Or.inl ⟨by rfl, by intro wz; go_simp⟩)) hS0 ?_
              try simp only [Act.put, List.getElem_toArray, List.getElem_cons_succ, List.getElem_cons_zero, List.setIfInBounds_toArray, List.set_cons_zero, List.set_cons_succ]
              refine wpAnyH_take (i := 8) (v := .slice (some ⟨gm, om, none⟩) m.length capm) rfl (by kernel_rfl) (by kernel_rfl) (by kernel_rfl) (fun _ _ _ h => h) (Yields.yieldsIf (Or.inl ⟨by rfl, by intro wz; go_simp⟩)) hS0 ?_
              try simp only [Act.put, List.getElem_toArray, List.getElem_cons_succ, List.getElem_cons_zero, List.setIfInBounds_toArray, List.set_cons_zero, List.set_cons_succ]
              refine wpAnyH_take (i := 9) (v := .int .i64 ((i : Int) + 1)) rfl (by kernel_rfl) (by kernel_rfl) (by kernel_rfl) (fun _ _ _ h => h) (Yields.yieldsIf (Or.inl ⟨by rfl, by intro wz; go_simp⟩)) hS0 ?_
              try simp only [Act.put, List.getElem_toArray, List.getElem_cons_succ, List.getElem_cons_zero, List.setIfInBounds_toArray, List.set_cons_zero, List.set_cons_succ]
              refine wpAnyH_take (i := 11) (v := .slice (some ⟨w24.heap.size, 0, none⟩) 1 1) rfl (by kernel_rfl) (by kernel_rfl) (by kernel_rfl) (fun _ _ _ h => h) (Yields.yieldsIf (Or.inl ⟨by rfl, by intro wz; go_simp⟩)) hS0 ?_
              try simp only [Act.put, List.getElem_toArray, List.getElem_cons_succ, List.getElem_cons_zero, List.setIfInBounds_toArray, List.set_cons_zero, List.set_cons_succ]
              refine wpAnyH_ready (rs := [10]) (by kernel_rfl) (by simp) ?_
              refine AllReadyH.cons rfl (fun K' hK => ?_) AllReadyH.nil
              go_simp
              refine (HPC.out _ HB4.out).mono ?_
              rintro e x5 ⟨adq, qq, capq, rfl, tq, hb'⟩
              have HB5 : Hid (Below W.heap.size W x5) := HB4.out.trans (hb'.mono HB4.out.size)
              have hb5 := hb4.trans (hb'.mono hb4.size)
              have HTK : Hid (Tx x5 (.slice adq qq capq) PK) := tq
              clear tq
              clear hb'
              refine hK.out _ _ trivial (fun _ => ?_)
              clear hK K'
              try simp only [Act.put, List.getElem_toArray, List.getElem_cons_succ, List.getElem_cons_zero, List.setIfInBounds_toArray, List.set_cons_zero, List.set_cons_succ]
              refine wpAnyH_ready (rs := [12]) (by kernel_rfl) (by simp) ?_
              refine AllReadyH.cons rfl (fun K' hK => ?_) AllReadyH.nil
              go_simp
              refine (HST.out _ PK _ _ _ _ _ _ HTK.out (HTQ.out _ hb5) HPL.out).mono ?_
              rintro e x6 ⟨rfl, hb'⟩
              have HB6 : Hid (Below W.heap.size W x6) := HB5.out.trans (hb'.mono HB5.out.size)
              have hb6 := hb5.trans (hb'.mono hb5.size)
              clear hb'
              refine hK.out _ _ trivial (fun _ => ?_)
              clear hK K'
              try simp only [Act.put, List.getElem_toArray, List.getElem_cons_succ, List.getElem_cons_zero, List.setIfInBounds_toArray, List.set_cons_zero, List.set_cons_succ]
              refine wpAnyH_take (i := 13) (v := .bool true) rfl (by kernel_rfl) (by kernel_rfl) (by kernel_rfl) (fun _ _ _ h => h) (Yields.yieldsIf (Or.inl ⟨by rfl, by intro wz; go_simp⟩)) hS0 ?_
              try simp only [Act.put, List.getElem_toArray, List.getElem_cons_succ, List.getElem_cons_zero, List.setIfInBounds_toArray, List.set_cons_zero, List.set_cons_succ]
              refine wpAnyH_take (i := 14) (v := .bool true) rfl (by kernel_rfl) (by kernel_rfl) (by kernel_rfl) (fun _ _ _ h => h) (Yields.yieldsIf (Or.inl ⟨by rfl, by intro wz; go_simp⟩)) hS0 ?_
              try simp only [Act.put, List.getElem_toArray, List.getElem_cons_succ, List.getElem_cons_zero, List.setIfInBounds_toArray, List.set_cons_zero, List.set_cons_succ]
              refine wpAnyH_take (i := 15) (v := .string ⟨s.toArray⟩) rfl (by kernel_rfl) (by kernel_rfl) (by kernel_rfl) (fun _ _ _ h => h) (Yields.yieldsIf (Or.inl ⟨by rfl, by intro wz; go_simp⟩)) hS0 ?_
              try simp only [Act.put, List.getElem_toArray, List.getElem_cons_succ, List.getElem_cons_zero, List.setIfInBounds_toArray, List.set_cons_zero, List.set_cons_succ]
              refine wpAnyH_take (i := 17) (v := .string ⟨s.toArray⟩) rfl (by kernel_rfl) (by kernel_rfl) (by kernel_rfl) (fun _ _ _ h => h) (Yields.yieldsIf (Or.inl ⟨by rfl, by intro wz; go_simp⟩)) hS0 ?_
              try simp only [Act.put, List.getElem_toArray, List.getElem_cons_succ, List.getElem_cons_zero, List.setIfInBounds_toArray, List.set_cons_zero, List.set_cons_succ]
              refine wpAnyH_ready (rs := [16]) (by kernel_rfl) (by simp) ?_
              refine AllReadyH.cons rfl (fun K' hK => ?_) AllReadyH.nil
              go_simp
              refine (HTR.out _).mono ?_
              rintro e x7 ⟨rfl, hx7⟩
              subst hx7
              refine hK.out _ _ trivial (fun _ => ?_)
              clear hK K'
              try simp only [Act.put, List.getElem_toArray, List.getElem_cons_succ, List.getElem_cons_zero, List.setIfInBounds_toArray, List.set_cons_zero, List.set_cons_succ]
              refine wpAnyH_ready (rs := [18]) (by kernel_rfl) (by simp) ?_
              refine AllReadyH.cons rfl (fun K' hK => ?_) AllReadyH.nil
              go_simp
              refine (HTR2.out _).mono ?_
              rintro e x8 ⟨rfl, hx8⟩
              subst hx8
              refine hK.out _ _ trivial (fun _ => ?_)
              clear hK K'
              try simp only [Act.put, List.getElem_toArray, List.getElem_cons_succ, List.getElem_cons_zero, List.setIfInBounds_toArray, List.set_cons_zero, List.set_cons_succ]
              refine wpAnyH_take (i := 19) (v := .bool true) rfl (by kernel_rfl) (by kernel_rfl) (by kernel_rfl) (fun _ _ _ h => h) (Yields.yieldsIf (Or.inl ⟨by rfl, by intro wz; go_simp⟩)) hS0 ?_
              try simp only [Act.put, List.getElem_toArray, List.getElem_cons_succ, List.getElem_cons_zero, List.setIfInBounds_toArray, List.set_cons_zero, List.set_cons_succ]
              refine wpAnyH_take (i := 20) (v := .bool true) rfl (by kernel_rfl) (by kernel_rfl) (by kernel_rfl) (fun _ _ _ h => h) (Yields.yieldsIf (Or.inl ⟨by rfl, by intro wz; go_simp⟩)) hS0 ?_
              try simp only [Act.put, List.getElem_toArray, List.getElem_cons_succ, List.getElem_cons_zero, List.setIfInBounds_toArray, List.set_cons_zero, List.set_cons_succ]
              refine wpAnyH_take (i := 21) (v := .bool true) rfl (by kernel_rfl) (by kernel_rfl) (by kernel_rfl) (fun _ _ _ h => h) (Yields.yieldsIf (Or.inl ⟨by rfl, by intro wz; go_simp⟩)) hS0 ?_
              try simp only [Act.put, List.getElem_toArray, List.getElem_cons_succ, List.getElem_cons_zero, List.setIfInBounds_toArray, List.set_cons_zero, List.set_cons_succ]
              refine wpAnyH_take (i := 22) (v := .slice (some ⟨gm, om, none⟩) m.length capm) rfl (by kernel_rfl) (by kernel_rfl) (by kernel_rfl) (fun _ _ _ h => h) (Yields.yieldsIf (Or.inl ⟨by rfl, by intro wz; go_simp⟩)) hS0 ?_
              try simp only [Act.put, List.getElem_toArray, List.getElem_cons_succ, List.getElem_cons_zero, List.setIfInBounds_toArray, List.set_cons_zero, List.set_cons_succ]
              refine wpAnyH_take (i := 23) (v := .slice adn ns.length capn) rfl (by kernel_rfl) (by kernel_rfl) (by kernel_rfl) (fun _ _ _ h => h) (Yields.yieldsIf (Or.inl ⟨by rfl, by intro wz; go_simp⟩)) hS0 ?_
              try simp only [Act.put, List.getElem_toArray, List.getElem_cons_succ, List.getElem_cons_zero, List.setIfInBounds_toArray, List.set_cons_zero, List.set_cons_succ]
              refine wpAnyH_take (i := 25) (v := .slice (some ⟨gm, om, none⟩) m.length capm) rfl (by kernel_rfl) (by kernel_rfl) (by kernel_rfl) (fun _ _ _ h => h) (Yields.yieldsIf (Or.inl ⟨by rfl, by intro wz; go_simp⟩)) hS0 ?_
              try simp only [Act.put, List.getElem_toArray, List.getElem_cons_succ, List.getElem_cons_zero, List.setIfInBounds_toArray, List.set_cons_zero, List.set_cons_succ]
              refine wpAnyH_take (i := 26) (v := .slice adn ns.length capn) rfl (by kernel_rfl) (by kernel_rfl) (by kernel_rfl) (fun _ _ _ h => h) (Yields.yieldsIf (Or.inl ⟨by rfl, by intro wz; go_simp⟩)) hS0 ?_
              try simp only [Act.put, List.getElem_toArray, List.getElem_cons_succ, List.getElem_cons_zero, List.setIfInBounds_toArray, List.set_cons_zero, List.set_cons_succ]
              refine wpAnyH_ready (rs := [24]) (by kernel_rfl) (by simp) ?_
              refine AllReadyH.cons rfl (fun K' hK => ?_) AllReadyH.nil
              go_simp
              refine (HLS.out _ HB6.out).mono ?_
              rintro e x9 ⟨rfl, hb'⟩
              have HB9 : Hid (Below W.heap.size W x9) := HB6.out.trans (hb'.mono HB6.out.size)
              have hb9 := hb6.trans (hb'.mono hb6.size)
              clear hb'
              refine hK.out _ _ trivial (fun _ => ?_)
              clear hK K'
              try simp only [Act.put, List.getElem_toArray, List.getElem_cons_succ, List.getElem_cons_zero, List.setIfInBounds_toArray, List.set_cons_zero, List.set_cons_succ]
              refine wpAnyH_ready (rs := [27]) (by kernel_rfl) (by simp) ?_
              refine AllReadyH.cons rfl (fun K' hK => ?_) AllReadyH.nil
              go_simp
              refine (HLT.out _ HB9.out).mono ?_
              rintro e x10 ⟨rfl, hb'⟩
              have HB10 : Hid (Below W.heap.size W x10) := HB9.out.trans (hb'.mono HB9.out.size)
              have hb10 := hb9.trans (hb'.mono hb9.size)
              clear hb'
              refine hK.out _ _ trivial (fun _ => ?_)
              clear hK K'
              try simp only [Act.put, List.getElem_toArray, List.getElem_cons_succ, List.getElem_cons_zero, List.setIfInBounds_toArray, List.set_cons_zero, List.set_cons_succ]
              refine wpAnyH_take (i := 28) (v := .bool true) rfl (by kernel_rfl) (by kernel_rfl) (by kernel_rfl) (fun _ _ _ h => h) (Yields.yieldsIf (Or.inl ⟨by rfl, by intro wz; go_simp⟩)) hS0 ?_
              try simp only [Act.put, List.getElem_toArray, List.getElem_cons_succ, List.getElem_cons_zero, List.setIfInBounds_toArray, List.set_cons_zero, List.set_cons_succ]
              refine wpAnyH_take (i := 29) (v := .bool true) rfl (by kernel_rfl) (by kernel_rfl) (by kernel_rfl) (fun _ _ _ h => h) (Yields.yieldsIf (Or.inl ⟨by rfl, by intro wz; go_simp⟩)) hS0 ?_
              try simp only [Act.put, List.getElem_toArray, List.getElem_cons_succ, List.getElem_cons_zero, List.setIfInBounds_toArray, List.set_cons_zero, List.set_cons_succ]
              refine wpAnyH_take (i := 30) (v := .bool true) rfl (by kernel_rfl) (by kernel_rfl) (by kernel_rfl) (fun _ _ _ h => h) (Yields.yieldsIf (Or.inl ⟨by rfl, by intro wz; go_simp⟩)) hS0 ?_
              try simp only [Act.put, List.getElem_toArray, List.getElem_cons_succ, List.getElem_cons_zero, List.setIfInBounds_toArray, List.set_cons_zero, List.set_cons_succ]
              refine wpAnyH_take (i := 31) (v := .slice (some ⟨gm, om, none⟩) m.length capm) rfl (by kernel_rfl) (by kernel_rfl) (by kernel_rfl) (fun _ _ _ h => h) (Yields.yieldsIf (Or.inl ⟨by rfl, by intro wz; go_simp⟩)) hS0 ?_
              try simp only [Act.put, List.getElem_toArray, List.getElem_cons_succ, List.getElem_cons_zero, List.setIfInBounds_toArray, List.set_cons_zero, List.set_cons_succ]
              refine wpAnyH_take (i := 34) (v := .slice (some ⟨gm, om, none⟩) m.length capm) rfl (by kernel_rfl) (by kernel_rfl) (by kernel_rfl) (fun _ _ _ h => h) (Yields.yieldsIf (Or.inl ⟨by rfl, by intro wz; go_simp⟩)) hS0 ?_
              try simp only [Act.put, List.getElem_toArray, List.getElem_cons_succ, List.getElem_cons_zero, List.setIfInBounds_toArray, List.set_cons_zero, List.set_cons_succ]
              refine wpAnyH_ready (rs := [32]) (by kernel_rfl) (by simp) ?_
              refine AllReadyH.cons rfl (fun K' hK => ?_) AllReadyH.nil
              go_simp
              refine (HFT.out _ HB10.out).mono ?_
              rintro e x11 ⟨rfl, hb'⟩
              have HB11 : Hid (Below W.heap.size W x11) := HB10.out.trans (hb'.mono HB10.out.size)
              have hb11 := hb10.trans (hb'.mono hb10.size)
              clear hb'
              refine hK.out _ _ trivial (fun _ => ?_)
              clear hK K'
              try simp only [Act.put, List.getElem_toArray, List.getElem_cons_succ, List.getElem_cons_zero, List.setIfInBounds_toArray, List.set_cons_zero, List.set_cons_succ]
              cases ff
              · rw [show fitV (ea 0) false = bigV (ea 0) from rfl]
                refine wpAnyH_take (i := 33) (v := .bool false) rfl (by kernel_rfl) (by kernel_rfl) (by kernel_rfl) (fun _ _ _ h => h) (Yields.yieldsIf (Or.inl ⟨by rfl, by intro wz; go_simp⟩)) hS0 ?_
                try simp only [Act.put, List.getElem_toArray, List.getElem_cons_succ, List.getElem_cons_zero, List.setIfInBounds_toArray, List.set_cons_zero, List.set_cons_succ]
                refine wpAnyH_ready (rs := [35]) (by kernel_rfl) (by simp) ?_
                refine AllReadyH.cons rfl (fun K' hK => ?_) AllReadyH.nil
                go_simp
                refine (HFR.out _ HB11.out).mono ?_
                rintro e x12 ⟨rfl, hx12⟩
                subst hx12
                refine hK.out _ _ trivial (fun _ => ?_)
                clear hK K'
                try simp only [Act.put, List.getElem_toArray, List.getElem_cons_succ, List.getElem_cons_zero, List.setIfInBounds_toArray, List.set_cons_zero, List.set_cons_succ]
                refine wpAnyH_take (i := 36) (v := .bool true) rfl (by kernel_rfl) (by kernel_rfl) (by kernel_rfl) (fun _ _ _ h => h) (Yields.yieldsIf (Or.inl ⟨by rfl, by intro wz; go_simp⟩)) hS0 ?_
                try simp only [Act.put, List.getElem_toArray, List.getElem_cons_succ, List.getElem_cons_zero, List.setIfInBounds_toArray, List.set_cons_zero, List.set_cons_succ]
                refine wpAnyH_take (i := 37) (v := .bool true) rfl (by kernel_rfl) (by kernel_rfl) (by kernel_rfl) (fun _ _ _ h => h) (Yields.yieldsIf (Or.inl ⟨by rfl, by intro wz; go_simp⟩)) hS0 ?_
                try simp only [Act.put, List.getElem_toArray, List.getElem_cons_succ, List.getElem_cons_zero, List.setIfInBounds_toArray, List.set_cons_zero, List.set_cons_succ]
                refine wpAnyH_take (i := 38) (v := .bool true) rfl (by kernel_rfl) (by kernel_rfl) (by kernel_rfl) (fun _ _ _ h => h) (Yields.yieldsIf (Or.inl ⟨by rfl, by intro wz; go_simp⟩)) hS0 ?_
                try simp only [Act.put, List.getElem_toArray, List.getElem_cons_succ, List.getElem_cons_zero, List.setIfInBounds_toArray, List.set_cons_zero, List.set_cons_succ]
                refine wpAnyH_done (by kernel_rfl) ?_ _
                clear hS0
                go_wp2_with fail
                go_ret
                exact ⟨rfl, HB11.out⟩
              · rw [show fitV (ea 0) true = .nilIface from rfl]
                refine wpAnyH_take (i := 33) (v := .bool true) rfl (by kernel_rfl) (by kernel_rfl) (by kernel_rfl) (fun _ _ _ h => h) (Yields.yieldsIf (Or.inl ⟨by rfl, by intro wz; go_simp⟩)) hS0 ?_
                try simp only [Act.put, List.getElem_toArray, List.getElem_cons_succ, List.getElem_cons_zero, List.setIfInBounds_toArray, List.set_cons_zero, List.set_cons_succ]
                refine wpAnyH_ready (rs := [35]) (by kernel_rfl) (by simp) ?_
                refine AllReadyH.cons rfl (fun K' hK => ?_) AllReadyH.nil
                go_simp
                refine (HFR.out _ HB11.out).mono ?_
                rintro e x12 ⟨rfl, hx12⟩
                subst hx12
                refine hK.out _ _ trivial (fun _ => ?_)
                clear hK K'
                try simp only [Act.put, List.getElem_toArray, List.getElem_cons_succ, List.getElem_cons_zero, List.setIfInBounds_toArray, List.set_cons_zero, List.set_cons_succ]
                refine wpAnyH_take (i := 36) (v := .bool true) rfl (by kernel_rfl) (by kernel_rfl) (by kernel_rfl) (fun _ _ _ h => h) (Yields.yieldsIf (Or.inl ⟨by rfl, by intro wz; go_simp⟩)) hS0 ?_
                try simp only [Act.put, List.getElem_toArray, List.getElem_cons_succ, List.getElem_cons_zero, List.setIfInBounds_toArray, List.set_cons_zero, List.set_cons_succ]
                refine wpAnyH_take (i := 37) (v := .bool true) rfl (by kernel_rfl) (by kernel_rfl) (by kernel_rfl) (fun _ _ _ h => h) (Yields.yieldsIf (Or.inl ⟨by rfl, by intro wz; go_simp⟩)) hS0 ?_
                try simp only [Act.put, List.getElem_toArray, List.getElem_cons_succ, List.getElem_cons_zero, List.setIfInBounds_toArray, List.set_cons_zero, List.set_cons_succ]
                refine wpAnyH_take (i := 38) (v := .bool true) rfl (by kernel_rfl) (by kernel_rfl) (by kernel_rfl) (fun _ _ _ h => h) (Yields.yieldsIf (Or.inl ⟨by rfl, by intro wz; go_simp⟩)) hS0 ?_
                try simp only [Act.put, List.getElem_toArray, List.getElem_cons_succ, List.getElem_cons_zero, List.setIfInBounds_toArray, List.set_cons_zero, List.set_cons_succ]
                refine wpAnyH_done (by kernel_rfl) ?_ _
                clear hS0
                go_wp2_with fail
                go_ret
                exact ⟨rfl, HB11.out⟩
end Go.Proofs.YtdajacodfnidfaaGreatDoor
