/- The statement on the parts of two texts, walked. -/
import Derived.Test.YticmoepamnddbaaDoorEscapes
namespace Go.Proofs.YticmoepamnddbaaDoor
open Go.RowKit Go.Shelf

theorem splitR_length : ∀ (cs : List (List UInt8 × Lt)) (acc : List UInt8), (splitR acc cs).length ≤ cs.length + 1
  | [], acc => by simp only [splitR, one]; split <;> simp
  | (raw, l) :: cs, acc => by
    simp only [splitR]
    split
    · have h1 := splitR_length cs []
      have h2 : (one acc).length ≤ 1 := by unfold one; split <;> simp
      simp only [List.length_append, List.length_cons]; omega
    · have h1 := splitR_length cs (acc ++ raw)
      simp only [List.length_cons]; omega
theorem splitL_length (l : List UInt8) : (splitL l).length ≤ l.length + 1 := by
  have h1 := splitR_length (chunks l) []
  have h2 : (chunks l).length ≤ l.length := by
    have := letts_length_le l
    rw [← chunks_snd, List.length_map] at this
    exact this
  unfold splitL
  omega
theorem splitR_mem : ∀ (cs : List (List UInt8 × Lt)) (acc z : List UInt8), z ∈ splitR acc cs → z.length ≤ acc.length + (cs.flatMap Prod.fst).length
  | [], acc, z, h => by
    simp only [splitR, one] at h
    split at h
    · cases h
    · rw [List.mem_singleton] at h
      subst h
      omega
  | (raw, l) :: cs, acc, z, h => by
    simp only [splitR] at h
    rw [List.flatMap_cons, List.length_append]
    split at h
    · rcases List.mem_append.1 h with h1 | h1
      · unfold one at h1
        split at h1
        · cases h1
        · rw [List.mem_singleton] at h1
          subst h1
          omega
      · have := splitR_mem cs [] z h1
        rw [List.length_nil] at this
        omega
    · have := splitR_mem cs (acc ++ raw) z h
      rw [List.length_append] at this
      simp only
      omega
theorem splitL_mem (l z : List UInt8) (h : z ∈ splitL l) : z.length ≤ l.length := by
  have h1 := splitR_mem (chunks l) [] z h
  rw [chunks_flat, List.length_nil] at h1
  omega
theorem addr_add (g o j : Nat) : (⟨g, o, none⟩ : Addr).add j = ⟨g, o + j, none⟩ := by
  unfold Addr.add
  split
  · rename_i h; subst h; rfl
  · simp
theorem txV_append (a b : List (List UInt8)) : txV (a ++ b) = txV a ++ txV b := by simp [txV]
theorem txV_length (a : List (List UInt8)) : (txV a).length = a.length := by simp [txV]
theorem txV_cells {W : World} {ps : List (List UInt8)} {g o : Nat} (h : ∀ k p, ps[k]? = some p → W.cell? ⟨g, o + k, none⟩ = some (.string ⟨p.toArray⟩)) : ∀ j u, (txV ps)[j]? = some u → W.cell? ((⟨g, o, none⟩ : Addr).add j) = some u := by
  intro j u hu
  rw [addr_add]
  unfold txV at hu
  rw [List.getElem?_map] at hu
  cases hp : ps[j]? with
  | none => rw [hp] at hu; cases hu
  | some p => rw [hp] at hu; cases hu; exact h j p hp

theorem owns_some {W : World} {base e size k : Nat} {v : Value} {xs : List Value} (h : W.ownsRow base e size v k xs) (hn : v ≠ .slice none 0 0) : ∃ g cap, v = .slice (some ⟨g, 0, none⟩) k cap ∧ k ≤ cap := by
  rcases h.2 with ⟨h0, _⟩ | ⟨g, cap, cur, rfl, _, _, hc, _⟩
  · exact absurd h0 hn
  · exact ⟨g, cap, rfl, hc⟩
theorem tx_one (ps : List (List UInt8)) (u : Value) (h : u ∈ txV ps) : u.oneCell' = true := by
  obtain ⟨p, _, rfl⟩ := List.mem_map.1 h
  rfl

set_option maxRecDepth 100000 in
set_option maxHeartbeats 4000000 in
theorem parts_main (a b : ByteArray) (tab : Bool) (sep : UInt8) (hsep : sep = if tab then 9 else 32) (h1 : ¬ a.size > 60) (h2 : ¬ b.size > 60) (hcl : closedL a.data.toList = true) (w : World) :
    Calls Tryd.prog 6 #[.string a, .string b, .bool tab] w fun e w' => e = .returned (.bool true) ∧ Below w.heap.size w w' := by
  obtain ⟨i0, hi0, hz0, hz1, hz2⟩ := info_parts info9
  have hbl : blankC sep = true := by rw [hsep]; cases tab <;> decide
  have HCL : Hid (cl a.data.toList = true) := by rw [← closed_cl]; exact hcl
  have HSP : Hid (splitL (a.data.toList ++ sep :: b.data.toList) = splitL a.data.toList ++ splitL b.data.toList) := split_two _ _ sep HCL.out hbl
  have HPL : Hid ((letts (a.data.toList ++ b.data.toList)).map Prod.fst = (letts a.data.toList).map Prod.fst ++ (letts b.data.toList).map Prod.fst) := by
    unfold Hid; rw [letts_append _ _ HCL.out, List.map_append]
  have ha32 : a.size < 4294967296 := by omega
  have hb32 : b.size < 4294967296 := by omega
  have habs : (a ++ (⟨#[sep]⟩ : ByteArray) ++ b).size < 4294967296 := by rw [ByteArray.size_append, ByteArray.size_append]; have : (⟨#[sep]⟩ : ByteArray).size = 1 := rfl; omega
  have hab : (a ++ b).size < 4294967296 := by rw [ByteArray.size_append]; omega
  have HABS : Hid _ := habs
  have HAB : Hid _ := hab
  have HD : Hid ((a ++ (⟨#[sep]⟩ : ByteArray) ++ b).data.toList = a.data.toList ++ sep :: b.data.toList) := by unfold Hid; simp
  have HD2 : Hid ((a ++ b).data.toList = a.data.toList ++ b.data.toList) := by unfold Hid; simp
  clear habs hab
  obtain ⟨SA, hSA⟩ : ∃ SA, splitL a.data.toList = SA := ⟨_, rfl⟩
  obtain ⟨SB, hSB⟩ : ∃ SB, splitL b.data.toList = SB := ⟨_, rfl⟩
  have hal : SA.length ≤ 61 := by rw [← hSA]; have := splitL_length a.data.toList; simp at this; omega
  have hbl2 : SB.length ≤ 61 := by rw [← hSB]; have := splitL_length b.data.toList; simp at this; omega
  have HALONE : Hid (∀ z ∈ SA ++ SB, z ≠ [] ∧ splitL z = [z]) := by
    intro z hz
    rw [← hSA, ← hSB, ← HSP.out] at hz
    exact part_alone _ z hz
  have HSA : Hid _ := hSA
  have HSB : Hid _ := hSB
  have HZL : Hid (∀ z ∈ SA ++ SB, z.length ≤ 200) := by
    intro z hz
    rcases List.mem_append.1 hz with h | h
    · rw [← hSA] at h; have := splitL_mem _ z h; simp at this; omega
    · rw [← hSB] at h; have := splitL_mem _ z h; simp at this; omega
  clear hSA hSB hbl
  rw [HSA.out, HSB.out] at HSP
  go_enter Tryd.func6, Tryd.ntmps6
  go_wp2_with fail
  refine (first_any _).mono ?_
  rintro e w1 ⟨rfl, hb1⟩
  go_wp2_with fail
  refine (closed_any _ (by omega) _).mono ?_
  rintro e w2 ⟨rfl, hw2⟩
  obtain rfl := hw2.symm
  rw [hcl]
  clear hcl
  go_upto_if 34 with fail
  go_cut [8] (fun v wx => v = .string ⟨#[sep]⟩ ∧ wx = w1)
  case first => as_aux_lemma =>
    cases tab
    · have hs : sep = 32 := hsep
      subst hs
      clear hsep
      go_wp2_with fail
      go_meet
      case rel => exact ⟨rfl, rfl⟩
    · have hs : sep = 9 := hsep
      subst hs
      clear hsep
      go_wp2_with fail
      go_meet
      case rel => exact ⟨rfl, rfl⟩
  case rest =>
    obtain ⟨rfl, rfl⟩ := hcut
    clear hsep
    go_wp2_with fail
    refine (split_any a ha32 _).mono ?_
    rintro e w3 ⟨vx, rfl, ho3, hb3⟩
    rw [HSA.out] at ho3
    have tx3 := TxAt.owned ho3
    have B3 := hb1.trans (hb3.mono hb1.size)
    go_wp2_with fail
    refine (split_any b hb32 _).mono ?_
    rintro e w4 ⟨vy, rfl, ho4, hb4⟩
    rw [HSB.out] at ho4
    have ty4 := TxAt.owned ho4
    have tx4 := tx3.below hb4 (Nat.le_refl _)
    have B4 := B3.trans (hb4.mono B3.size)
    go_wp2_with fail
    refine (split_any (a ++ (⟨#[sep]⟩ : ByteArray) ++ b) HABS.out _).mono ?_
    rintro e w5 ⟨vz, rfl, ho5, hb5⟩
    rw [HD.out, HSP.out] at ho5
    have tz5 := TxAt.owned ho5
    have tx5 := tx4.below hb5 (Nat.le_refl _)
    have ty5 := ty4.below hb5 (Nat.le_refl _)
    have B5 := B4.trans (hb5.mono B4.size)
    clear tx3 tx4 ty4 ho3 ho4 ho5
    go_upto_region 10 with fail
    go_cut [12] from 45 to 49 (fun v wx => TxAt wx v (SA ++ SB) ∧ Below w5.heap.size w5 wx)
    case first => as_aux_lemma =>
      obtain ⟨gx, ox, adx, capx, rfl, hcx, hnx, hex⟩ := tx5
      obtain ⟨gy, oy, ady, capy, rfl, hcy, hny, hey⟩ := ty5
      have HX : Hid _ := hex
      have HY : Hid _ := hey
      clear hex hey
      have hm0 : 200 ≤ maxLen := by decide
      have HXN : Hid (∀ aa, adx = some aa → ∀ wq, Below w5.heap.size w5 wq → ∀ j u, (txV SA)[j]? = some u → wq.cell? (aa.add j) = some u) := by
        intro aa haa wq hbq j u hu
        have hne : SA ≠ [] := fun e => by rw [e] at hu; simp [txV] at hu
        obtain ⟨e1, e2⟩ := hnx hne
        rw [haa] at e1
        cases e1
        exact txV_cells (fun k p hp => (hbq.cell (p := ⟨gx, ox + k, none⟩) e2).trans (HX.out k p hp)) j u hu
      have HYN : Hid (∀ aa, ady = some aa → ∀ wq, Below w5.heap.size w5 wq → ∀ j u, (txV SB)[j]? = some u → wq.cell? (aa.add j) = some u) := by
        intro aa haa wq hbq j u hu
        have hne : SB ≠ [] := fun e => by rw [e] at hu; simp [txV] at hu
        obtain ⟨e1, e2⟩ := hny hne
        rw [haa] at e1
        cases e1
        exact txV_cells (fun k p hp => (hbq.cell (p := ⟨gy, oy + k, none⟩) e2).trans (HY.out k p hp)) j u hu
      have HX0 : Hid (adx = none → SA = []) := by
        intro e
        cases h : SA with
        | nil => rfl
        | cons x r => have := (hnx (by rw [h]; simp)).1; rw [e] at this; cases this
      have HY0 : Hid (ady = none → SB = []) := by
        intro e
        cases h : SB with
        | nil => rfl
        | cons x r => have := (hny (by rw [h]; simp)).1; rw [e] at this; cases this
      clear hnx hny
      cases adx with
      | none =>
        have hSA0 := HX0.out rfl
        subst hSA0
        cases ady with
        | none =>
          have hSB0 := HY0.out rfl
          subst hSB0
          go_wp2_with (at_make; refine wpList_make_own _ rfl _ _ 22 rfl w5.heap.size 9 i0 (.string ⟨#[]⟩) 1 Tryd.underlying22 hi0 hz0 hz1 .i64 .i64 200 200 rfl rfl rfl (by rw [hz2]; decide) hm0 (Nat.le_refl _) ?_; intro wm hom hgm; have hbm : Below w5.heap.size w5 wm := (Below.refl _ w5).grown hgm (Nat.le_refl _) (fun k e => by cases e))
          go_meet
          case rel => exact ⟨TxAt.owned hom, hbm⟩
        | some ab =>
          go_wp2_with (first | (at_make; refine wpList_make_own _ rfl _ _ 22 rfl w5.heap.size 9 i0 (.string ⟨#[]⟩) 1 Tryd.underlying22 hi0 hz0 hz1 .i64 .i64 200 200 rfl rfl rfl (by rw [hz2]; decide) hm0 (Nat.le_refl _) ?_; intro wm hom hgm; have hbm : Below w5.heap.size w5 wm := (Below.refl _ w5).grown hgm (Nat.le_refl _) (fun k e => by cases e)) | (at_builtin; refine wpList_append_own _ rfl _ _ 22 rfl w5.heap.size 9 i0 (.string ⟨#[]⟩) 1 16 Tryd.underlying22 hi0 hz0 hz1 hz2 rfl (by decide) _ _ _ rfl hom ab SB.length capy (txV SB) rfl (by rw [txV_length]; simp) (HYN.out ab rfl _ hbm) (fun u hu => tx_one _ u hu) (by omega) (by omega) (hbm.size) ?_; intro va2 wa2 hoa2 hga2 _))
          go_meet
          case rel =>
            rw [Nat.zero_add, List.nil_append] at hoa2
            exact ⟨TxAt.owned hoa2, hbm.grown hga2 hbm.size (fun k e => (hom.lt k e).1)⟩
      | some aa =>
        cases ady with
        | none =>
          have hSB0 := HY0.out rfl
          subst hSB0
          go_wp2_with (first | (at_make; refine wpList_make_own _ rfl _ _ 22 rfl w5.heap.size 9 i0 (.string ⟨#[]⟩) 1 Tryd.underlying22 hi0 hz0 hz1 .i64 .i64 200 200 rfl rfl rfl (by rw [hz2]; decide) hm0 (Nat.le_refl _) ?_; intro wm hom hgm; have hbm : Below w5.heap.size w5 wm := (Below.refl _ w5).grown hgm (Nat.le_refl _) (fun k e => by cases e)) | (at_builtin; refine wpList_append_own _ rfl _ _ 22 rfl w5.heap.size 9 i0 (.string ⟨#[]⟩) 1 16 Tryd.underlying22 hi0 hz0 hz1 hz2 rfl (by decide) _ _ _ rfl hom aa SA.length capx (txV SA) rfl (by rw [txV_length]; simp) (HXN.out aa rfl _ hbm) (fun u hu => tx_one _ u hu) (by omega) (by omega) (hbm.size) ?_; intro va1 wa1 hoa1 hga1 hif1; have hba1 : Below w5.heap.size w5 wa1 := hbm.grown hga1 hbm.size (fun k e => (hom.lt k e).1); rw [Nat.zero_add, List.nil_append] at hoa1; obtain ⟨ag1, ac1, rfl, hac1⟩ := owns_some hoa1 (fun e => by have := (hif1.1 e).1; cases this)))
          go_meet
          case rel =>
            rw [List.append_nil]
            exact ⟨TxAt.owned hoa1, hba1⟩
        | some ab =>
          go_wp2_with (first | (at_make; refine wpList_make_own _ rfl _ _ 22 rfl w5.heap.size 9 i0 (.string ⟨#[]⟩) 1 Tryd.underlying22 hi0 hz0 hz1 .i64 .i64 200 200 rfl rfl rfl (by rw [hz2]; decide) hm0 (Nat.le_refl _) ?_; intro wm hom hgm; have hbm : Below w5.heap.size w5 wm := (Below.refl _ w5).grown hgm (Nat.le_refl _) (fun k e => by cases e)) | (at_builtin; refine wpList_append_own _ rfl _ _ 22 rfl w5.heap.size 9 i0 (.string ⟨#[]⟩) 1 16 Tryd.underlying22 hi0 hz0 hz1 hz2 rfl (by decide) _ _ _ rfl hom aa SA.length capx (txV SA) rfl (by rw [txV_length]; simp) (HXN.out aa rfl _ hbm) (fun u hu => tx_one _ u hu) (by omega) (by omega) (hbm.size) ?_; intro va1 wa1 hoa1 hga1 _; have hba1 : Below w5.heap.size w5 wa1 := hbm.grown hga1 hbm.size (fun k e => (hom.lt k e).1); rw [Nat.zero_add, List.nil_append] at hoa1) | (at_builtin; refine wpList_append_own _ rfl _ _ 22 rfl w5.heap.size 9 i0 (.string ⟨#[]⟩) 1 16 Tryd.underlying22 hi0 hz0 hz1 hz2 rfl (by decide) _ _ _ rfl hoa1 ab SB.length capy (txV SB) rfl (by rw [txV_length]; simp) (HYN.out ab rfl _ hba1) (fun u hu => tx_one _ u hu) (by omega) (by omega) (hba1.size) ?_; intro va2 wa2 hoa2 hga2 _))
          go_meet
          case rel =>
            refine ⟨TxAt.owned (B := w5.heap.size) ?_, hba1.grown hga2 hba1.size (fun k e => (hoa1.lt k e).1)⟩
            rw [txV_append, List.length_append]
            exact hoa2
    case rest =>
      obtain ⟨tb, hb6⟩ := hcut
      have tz6 := tz5.below hb6 (Nat.le_refl _)
      have B6 := B5.trans (hb6.mono B5.size)
      clear tx5 ty5 tz5
      obtain ⟨SZ, hSZ⟩ : ∃ SZ, SA ++ SB = SZ := ⟨_, rfl⟩
      have hzlen : SZ.length ≤ 122 := by rw [← hSZ, List.length_append]; omega
      rw [hSZ] at tb tz6 HALONE HZL
      clear hSZ HSP HSA HSB
      go_wp2_with fail
      go_loopw [13, 14] (fun v13 _ wr => ∃ k : Nat, v13 = .int .i64 k ∧ k ≤ SZ.length ∧ Below wc.heap.size wc wr) (fun v13 _ _ => SZ.length - (intOf v13).toNat)
      case atStart => exact ⟨0, rfl, by omega, Below.refl _ _⟩
      case round =>
        obtain ⟨k, rfl, hk, hbr⟩ := hrel
        have tzr := tz6.below hbr (Nat.le_refl _)
        have tbr := tb.below hbr (Nat.le_refl _)
        have Br := B6.trans (hbr.mono B6.size)
        by_cases hkl : k < SZ.length
        · obtain ⟨z, hz⟩ : ∃ z, SZ[k]? = some z := ⟨_, List.getElem?_eq_getElem hkl⟩
          obtain ⟨hz1', hz2'⟩ := HALONE.out z (List.mem_of_getElem? hz)
          have hzl := HZL.out z (List.mem_of_getElem? hz)
          have hz32 : (⟨z.toArray⟩ : ByteArray).size < 4294967296 := by rw [str_size]; omega
          have HZ32 : Hid _ := hz32
          have HZ2 : Hid _ := hz2'
          have hze : z.isEmpty = false := by cases z with | nil => exact absurd rfl hz1' | cons _ _ => rfl
          obtain ⟨gz, oz, adz, capz, rfl, hcz, hnz, hez⟩ := tzr
          obtain ⟨rfl, hgz⟩ := hnz (fun e => by rw [e] at hkl; simp at hkl)
          have c0 := hez k z hz
          have HEZ : Hid _ := hez
          have HZ : Hid _ := hz
          clear hez hz hz32 hz2' hz1'
          go_wp2_with fail
          refine (split_any _ HZ32.out _).mono ?_
          rintro e w7 ⟨vw, rfl, ho7, hb7⟩
          rw [str_data, HZ2.out] at ho7
          obtain ⟨gw, ow, adw, capw, rfl, hcw, hnw, hew⟩ := TxAt.owned ho7
          obtain ⟨rfl, hgw⟩ := hnw (by simp)
          have d0 := hew 0 z rfl
          rw [Nat.add_zero] at d0
          have c7 := (hb7.cell (p := ⟨gz, oz + k, none⟩) hgz).trans c0
          have c7d : w7.drew.cell? ⟨gz, oz + k, none⟩ = some (.string ⟨z.toArray⟩) := c7
          have d0d : w7.drew.cell? ⟨gw, ow, none⟩ = some (.string ⟨z.toArray⟩) := d0
          clear hew hnw hnz
          have hzz : (z == z) = true := by simp
          go_wp2_with fail
          refine wp_region_any (by kernel_rfl) ?_
          try (change wpAny _ _ _ _ _ _ _ (World.drew _))
          refine wpAny_take (i := 0) (v := .slice (some ⟨gz, oz, none⟩) SZ.length capz) rfl (by kernel_rfl) (by kernel_rfl) (by kernel_rfl) (fun _ _ _ h => h) (Or.inl ⟨by rfl, by intro wz; go_simp⟩) ?_
          try simp only [Act.put, List.getElem_toArray, List.getElem_cons_zero, List.setIfInBounds_toArray, List.set_cons_zero, List.set_cons_succ]
          refine wpAny_take (i := 1) (v := .int .i64 (k : Int)) rfl (by kernel_rfl) (by kernel_rfl) (by kernel_rfl) (fun _ _ _ h => h) (Or.inl ⟨by rfl, by intro wz; go_simp⟩) ?_
          try simp only [Act.put, List.getElem_toArray, List.getElem_cons_succ, List.getElem_cons_zero, List.setIfInBounds_toArray, List.set_cons_zero, List.set_cons_succ]
          refine wpAny_take (i := 2) (v := .pointer (some ⟨gz, oz + k, none⟩)) rfl (by kernel_rfl) (by kernel_rfl) (by kernel_rfl) (fun _ _ _ h => h) (Or.inl ⟨by rfl, by intro wz; go_simp⟩) ?_
          try simp only [Act.put, List.getElem_toArray, List.getElem_cons_succ, List.getElem_cons_zero, List.setIfInBounds_toArray, List.set_cons_zero, List.set_cons_succ]
          refine wpAny_ready (rs := [3]) (by kernel_rfl) (by simp) ?_
          refine AllReady.cons rfl (fun K hK => ?_) ?_
          · go_simp
            refine hK _ _ ?_
            clear hK K
            try simp only [Act.put, List.getElem_toArray, List.getElem_cons_succ, List.getElem_cons_zero, List.setIfInBounds_toArray, List.set_cons_zero, List.set_cons_succ]
            refine wpAny_take (i := 4) (v := .bool false) rfl (by kernel_rfl) (by kernel_rfl) (by kernel_rfl) (fun _ _ _ h => h) (Or.inl ⟨by rfl, by intro wz; go_simp⟩) ?_
            try simp only [Act.put, List.getElem_toArray, List.getElem_cons_succ, List.getElem_cons_zero, List.setIfInBounds_toArray, List.set_cons_zero, List.set_cons_succ]
            refine wpAny_take (i := 5) (v := .bool false) rfl (by kernel_rfl) (by kernel_rfl) (by kernel_rfl) (fun _ _ _ h => h) (Or.inl ⟨by rfl, by intro wz; go_simp⟩) ?_
            try simp only [Act.put, List.getElem_toArray, List.getElem_cons_succ, List.getElem_cons_zero, List.setIfInBounds_toArray, List.set_cons_zero, List.set_cons_succ]
            refine wpAny_take (i := 6) (v := .slice (some ⟨gw, ow, none⟩) 1 capw) rfl (by kernel_rfl) (by kernel_rfl) (by kernel_rfl) (fun _ _ _ h => h) (Or.inl ⟨by rfl, by intro wz; go_simp⟩) ?_
            try simp only [Act.put, List.getElem_toArray, List.getElem_cons_succ, List.getElem_cons_zero, List.setIfInBounds_toArray, List.set_cons_zero, List.set_cons_succ]
            refine wpAny_take (i := 7) (v := .int .i64 1) rfl (by kernel_rfl) (by kernel_rfl) (by kernel_rfl) (fun _ _ _ h => h) (Or.inl ⟨by rfl, by intro wz; go_simp⟩) ?_
            try simp only [Act.put, List.getElem_toArray, List.getElem_cons_succ, List.getElem_cons_zero, List.setIfInBounds_toArray, List.set_cons_zero, List.set_cons_succ]
            refine wpAny_take (i := 8) (v := .bool false) rfl (by kernel_rfl) (by kernel_rfl) (by kernel_rfl) (fun _ _ _ h => h) (Or.inl ⟨by rfl, by intro wz; go_simp⟩) ?_
            try simp only [Act.put, List.getElem_toArray, List.getElem_cons_succ, List.getElem_cons_zero, List.setIfInBounds_toArray, List.set_cons_zero, List.set_cons_succ]
            refine wpAny_take (i := 9) (v := .bool false) rfl (by kernel_rfl) (by kernel_rfl) (by kernel_rfl) (fun _ _ _ h => h) (Or.inl ⟨by rfl, by intro wz; go_simp⟩) ?_
            try simp only [Act.put, List.getElem_toArray, List.getElem_cons_succ, List.getElem_cons_zero, List.setIfInBounds_toArray, List.set_cons_zero, List.set_cons_succ]
            refine wpAny_take (i := 10) (v := .bool false) rfl (by kernel_rfl) (by kernel_rfl) (by kernel_rfl) (fun _ _ _ h => h) (Or.inl ⟨by rfl, by intro wz; go_simp⟩) ?_
            try simp only [Act.put, List.getElem_toArray, List.getElem_cons_succ, List.getElem_cons_zero, List.setIfInBounds_toArray, List.set_cons_zero, List.set_cons_succ]
            refine wpAny_take (i := 11) (v := .slice (some ⟨gw, ow, none⟩) 1 capw) rfl (by kernel_rfl) (by kernel_rfl) (by kernel_rfl) (fun _ _ _ h => h) (Or.inl ⟨by rfl, by intro wz; go_simp⟩) ?_
            try simp only [Act.put, List.getElem_toArray, List.getElem_cons_succ, List.getElem_cons_zero, List.setIfInBounds_toArray, List.set_cons_zero, List.set_cons_succ]
            refine wpAny_take (i := 12) (v := .pointer (some ⟨gw, ow, none⟩)) rfl (by kernel_rfl) (by kernel_rfl) (by kernel_rfl) (fun _ _ _ h => h) (Or.inl ⟨by rfl, by intro wz; go_simp⟩) ?_
            try simp only [Act.put, List.getElem_toArray, List.getElem_cons_succ, List.getElem_cons_zero, List.setIfInBounds_toArray, List.set_cons_zero, List.set_cons_succ]
            refine wpAny_take (i := 14) (v := .slice (some ⟨gz, oz, none⟩) SZ.length capz) rfl (by kernel_rfl) (by kernel_rfl) (by kernel_rfl) (fun _ _ _ h => h) (Or.inl ⟨by rfl, by intro wz; go_simp⟩) ?_
            try simp only [Act.put, List.getElem_toArray, List.getElem_cons_succ, List.getElem_cons_zero, List.setIfInBounds_toArray, List.set_cons_zero, List.set_cons_succ]
            refine wpAny_take (i := 15) (v := .int .i64 (k : Int)) rfl (by kernel_rfl) (by kernel_rfl) (by kernel_rfl) (fun _ _ _ h => h) (Or.inl ⟨by rfl, by intro wz; go_simp⟩) ?_
            try simp only [Act.put, List.getElem_toArray, List.getElem_cons_succ, List.getElem_cons_zero, List.setIfInBounds_toArray, List.set_cons_zero, List.set_cons_succ]
            refine wpAny_take (i := 16) (v := .pointer (some ⟨gz, oz + k, none⟩)) rfl (by kernel_rfl) (by kernel_rfl) (by kernel_rfl) (fun _ _ _ h => h) (Or.inl ⟨by rfl, by intro wz; go_simp⟩) ?_
            try simp only [Act.put, List.getElem_toArray, List.getElem_cons_succ, List.getElem_cons_zero, List.setIfInBounds_toArray, List.set_cons_zero, List.set_cons_succ]
            refine wpAny_ready (rs := [13, 17]) (by kernel_rfl) (by simp) ?_
            refine AllReady.cons rfl (fun K hK => ?_) ?_
            · go_simp
              refine hK _ _ ?_
              clear hK K
              try simp only [Act.put, List.getElem_toArray, List.getElem_cons_succ, List.getElem_cons_zero, List.setIfInBounds_toArray, List.set_cons_zero, List.set_cons_succ]
              refine wpAny_ready (rs := [17]) (by kernel_rfl) (by simp) ?_
              refine AllReady.cons rfl (fun K hK => ?_) ?_
              · go_simp
                refine hK _ _ ?_
                clear hK K
                try simp only [Act.put, List.getElem_toArray, List.getElem_cons_succ, List.getElem_cons_zero, List.setIfInBounds_toArray, List.set_cons_zero, List.set_cons_succ]
                refine wpAny_take (i := 18) (v := .bool false) rfl (by kernel_rfl) (by kernel_rfl) (by kernel_rfl) (fun _ _ _ h => h) (Or.inl ⟨by rfl, by intro wz; go_simp⟩) ?_
                try simp only [Act.put, List.getElem_toArray, List.getElem_cons_succ, List.getElem_cons_zero, List.setIfInBounds_toArray, List.set_cons_zero, List.set_cons_succ]
                refine wpAny_take (i := 19) (v := .bool false) rfl (by kernel_rfl) (by kernel_rfl) (by kernel_rfl) (fun _ _ _ h => h) (Or.inl ⟨by rfl, by intro wz; go_simp⟩) ?_
                try simp only [Act.put, List.getElem_toArray, List.getElem_cons_succ, List.getElem_cons_zero, List.setIfInBounds_toArray, List.set_cons_zero, List.set_cons_succ]
                refine wpAny_done (by kernel_rfl) ?_ _
                go_wp2_with fail
                refine ⟨⟨k + 1, by simp, by omega, (hbr.trans (hb7.mono hbr.size)).drew⟩, by simp [intOf]; omega⟩
              exact AllReady.nil
            refine AllReady.cons rfl (fun K hK => ?_) ?_
            · go_simp
              refine hK _ _ ?_
              clear hK K
              try simp only [Act.put, List.getElem_toArray, List.getElem_cons_succ, List.getElem_cons_zero, List.setIfInBounds_toArray, List.set_cons_zero, List.set_cons_succ]
              refine wpAny_ready (rs := [13]) (by kernel_rfl) (by simp) ?_
              refine AllReady.cons rfl (fun K hK => ?_) ?_
              · go_simp
                refine hK _ _ ?_
                clear hK K
                try simp only [Act.put, List.getElem_toArray, List.getElem_cons_succ, List.getElem_cons_zero, List.setIfInBounds_toArray, List.set_cons_zero, List.set_cons_succ]
                refine wpAny_take (i := 18) (v := .bool false) rfl (by kernel_rfl) (by kernel_rfl) (by kernel_rfl) (fun _ _ _ h => h) (Or.inl ⟨by rfl, by intro wz; go_simp⟩) ?_
                try simp only [Act.put, List.getElem_toArray, List.getElem_cons_succ, List.getElem_cons_zero, List.setIfInBounds_toArray, List.set_cons_zero, List.set_cons_succ]
                refine wpAny_take (i := 19) (v := .bool false) rfl (by kernel_rfl) (by kernel_rfl) (by kernel_rfl) (fun _ _ _ h => h) (Or.inl ⟨by rfl, by intro wz; go_simp⟩) ?_
                try simp only [Act.put, List.getElem_toArray, List.getElem_cons_succ, List.getElem_cons_zero, List.setIfInBounds_toArray, List.set_cons_zero, List.set_cons_succ]
                refine wpAny_done (by kernel_rfl) ?_ _
                go_wp2_with fail
                refine ⟨⟨k + 1, by simp, by omega, (hbr.trans (hb7.mono hbr.size)).drew⟩, by simp [intOf]; omega⟩
              exact AllReady.nil
            exact AllReady.nil
          exact AllReady.nil
        · have hkz : k = SZ.length := by omega
          subst hkz
          obtain ⟨gz, oz, adz, capz, rfl, hcz, hnz, hez⟩ := tzr
          have HEZ : Hid _ := hez
          have HNZ : Hid _ := hnz
          clear hez hnz
          go_wp2_with fail
          refine (sameTexts_any _ _ SZ SZ _ ⟨gz, oz, adz, capz, rfl, hcz, HNZ.out, HEZ.out⟩ tbr (by omega) (by omega)).mono ?_
          rintro e w8 ⟨rfl, hb8⟩
          have hdt : decide (SZ = SZ) = true := decide_eq_true rfl
          rw [hdt]
          go_wp2_with fail
          obtain ⟨PA, HPA⟩ : ∃ PA : ByteArray, Hid ((⟨((letts a.data.toList).map Prod.fst).toArray⟩ : ByteArray) = PA) := ⟨_, rfl⟩
          obtain ⟨PB, HPB⟩ : ∃ PB : ByteArray, Hid ((⟨((letts b.data.toList).map Prod.fst).toArray⟩ : ByteArray) = PB) := ⟨_, rfl⟩
          have hpa : PA.size ≤ 60 := by rw [← HPA.out, str_size, List.length_map]; have := letts_length_le a.data.toList; simp at this; omega
          have hpb : PB.size ≤ 60 := by rw [← HPB.out, str_size, List.length_map]; have := letts_length_le b.data.toList; simp at this; omega
          have HPAB : Hid ((⟨((letts (a ++ b).data.toList).map Prod.fst).toArray⟩ : ByteArray) = PA ++ PB) := by
            unfold Hid
            rw [HD2.out, HPL.out, ← HPA.out, ← HPB.out]
            apply ByteArray.ext
            simp
          refine (plain_any (a ++ b) (by have := HAB.out; omega) _).mono ?_
          rintro e w9 ⟨rfl, hb9⟩
          rw [HPAB.out]
          go_wp2_with fail
          refine (plain_any a (by omega) _).mono ?_
          rintro e w10 ⟨rfl, hb10⟩
          rw [HPA.out]
          go_wp2_with fail
          refine (plain_any b (by omega) _).mono ?_
          rintro e w11 ⟨rfl, hb11⟩
          rw [HPB.out]
          go_wp2_with fail
          go_ret
          have b8 := Br.trans (hb8.mono Br.size)
          have b9 := b8.trans (hb9.mono b8.size)
          have b10 := b9.trans (hb10.mono b9.size)
          exact ⟨ret_bool (by first | rfl | simp), b10.trans (hb11.mono b10.size)⟩

set_option maxRecDepth 100000 in
set_option maxHeartbeats 4000000 in
theorem parts_any (a b : ByteArray) (tab : Bool) (w : World) :
    Calls Tryd.prog 6 #[.string a, .string b, .bool tab] w fun e w' => e = .returned (.bool true) ∧ Below w.heap.size w w' := by
  by_cases h1 : a.size > 60
  · go_enter Tryd.func6, Tryd.ntmps6
    go_wp2_with fail
    refine (first_any _).mono ?_
    rintro e w1 ⟨rfl, hb1⟩
    go_wp2_with fail
    go_ret
    exact ⟨rfl, hb1⟩
  by_cases h2 : b.size > 60
  · go_enter Tryd.func6, Tryd.ntmps6
    go_wp2_with fail
    refine (first_any _).mono ?_
    rintro e w1 ⟨rfl, hb1⟩
    go_wp2_with fail
    go_ret
    exact ⟨rfl, hb1⟩
  cases hcl : closedL a.data.toList
  · go_enter Tryd.func6, Tryd.ntmps6
    go_wp2_with fail
    refine (first_any _).mono ?_
    rintro e w1 ⟨rfl, hb1⟩
    go_wp2_with fail
    refine (closed_any _ (by omega) _).mono ?_
    rintro e w2 ⟨rfl, hw2⟩
    obtain rfl := hw2.symm
    rw [hcl]
    clear hcl
    go_wp2_with fail
    go_ret
    exact ⟨rfl, hb1⟩
  exact parts_main a b tab _ rfl h1 h2 hcl w
end Go.Proofs.YticmoepamnddbaaDoor
