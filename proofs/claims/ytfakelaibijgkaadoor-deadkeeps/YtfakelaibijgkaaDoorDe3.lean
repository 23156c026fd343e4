/- Commands one behind the other, without Nops ahead of the last. -/
import Derived.Test.YtfakelaibijgkaaDoorDe2
namespace Go.Proofs.YtfakelaibijgkaaDoor
open Go.RowKit
attribute [local go_sem] Oper.semAt_some

set_option maxRecDepth 100000 in
theorem seqs_any (v : Value) (K : List (Value × List Nd)) (w : World) (h : KdAt w v K) (hK : K.length ≤ 3000) (hl : (kidL K).length ≤ 3000) :
    Calls Tryd.prog 17 #[v] w fun e w' => ∃ v', e = .returned v' ∧ NdOwn w' w.heap.size v' (seqC (K.map Prod.snd)) ∧ Below w.heap.size w w' := by
  match K, h, hK, hl with
  | [], h, _, _ =>
    have HN : Hid (Calls Tryd.prog 15 #[.int .i64 20, .int .i64 0, .string ⟨#[]⟩, .slice none 0 0] w fun e w' => ∃ v', e = .returned v' ∧ NdOwn w' w.heap.size v' (seqC (([] : List (Value × List Nd)).map Prod.snd)) ∧ Below w.heap.size w w') := new_leaf 20 0 [] w
    obtain ⟨ad, cap, rfl⟩ := h.form
    clear h
    simp only [List.length_nil]
    go_enter Tryd.func17, Tryd.ntmps17
    go_wp2_with fail
    refine Calls.mono HN.out ?_
    rintro e w1 ⟨v1, rfl, ho, hb⟩
    have HO : Hid _ := ho
    clear ho
    go_wp2_with fail
    go_ret
    exact ⟨_, rfl, HO.out, hb⟩
  | [q], h, _, hl =>
    obtain ⟨g, o, cap, rfl, hg, c0, hN⟩ := h.at (j := 0) (p := q) rfl
    obtain ⟨qv, Y⟩ := q
    have hY : Y.length < 4294967296 := by simp [kidL] at hl; omega
    have HC : Hid (Calls Tryd.prog 20 #[qv] w fun e w' => ∃ v', e = .returned v' ∧ NdOwn w' w.heap.size v' (seqC ([(qv, Y)].map Prod.snd)) ∧ Below w.heap.size w w') := clone_any qv Y w hN hY
    simp only [Nat.add_zero] at c0
    clear h hN hl
    simp only [List.length_cons, List.length_nil]
    go_enter Tryd.func17, Tryd.ntmps17
    go_wp2_with fail
    refine Calls.mono HC.out ?_
    rintro e w1 ⟨v1, rfl, ho, hb⟩
    have HO : Hid _ := ho
    clear ho
    go_wp2_with fail
    go_ret
    exact ⟨_, rfl, HO.out, hb⟩
  | q :: r :: K, h, hK, hl => exact seq_many v (q :: r :: K) w h (by simp) (by omega) (by omega)
theorem fits_map {d : Nat} {K : List (Value × List Nd)} {L : List (List Nd)} (h : K.map Prod.snd = L) (hF : ∀ Z ∈ L, Fits d false Z) : ∀ q ∈ K, Fits d false q.2 := fun q hq => hF q.2 (by rw [← h]; exact List.mem_map_of_mem hq)
theorem filter_len (l : List (List Nd)) : (l.filter fun Y => kindOf Y != 20).length ≤ l.length := List.length_filter_le _ _
theorem flat_sub : ∀ {l m : List (List Nd)}, l.Sublist m → l.flatten.length ≤ m.flatten.length := by
  intro l m h
  induction h with
  | slnil => exact Nat.le_refl _
  | cons a _ ih => rw [List.flatten_cons, List.length_append]; omega
  | cons_cons a _ ih => rw [List.flatten_cons, List.flatten_cons, List.length_append, List.length_append]; omega
theorem lastNop_sublist : ∀ (Ys : List (List Nd)), (lastNop Ys).Sublist Ys
  | [] => List.Sublist.refl _
  | [Y] => List.Sublist.refl _
  | Y :: Z :: r => by
    rw [lastNop]
    split
    · exact List.Sublist.cons Y (lastNop_sublist (Z :: r))
    · exact List.Sublist.cons_cons Y (lastNop_sublist (Z :: r))
set_option maxRecDepth 100000 in
set_option maxHeartbeats 4000000 in
theorem dseq_any {d B : Nat} {v : Value} {K : List (Value × List Nd)} {W : World} (h : KdOwn W B v K) (hB : B ≤ W.heap.size) (hF : ∀ q ∈ K, Fits d false q.2) (hl : (kidL K).length ≤ 3000) (h0 : K ≠ []) :
    Calls Tryd.prog 50 #[v] W fun e w' => ∃ v', e = .returned v' ∧ NdOwn w' W.heap.size v' (seqD (K.map Prod.snd)) ∧ Below W.heap.size W w' := by
  obtain ⟨i0, hi0, hz0, hz1, hz2⟩ := info_parts info25
  have HOp : Hid _ := opened_any h hB hF hl
  have hFs : ∀ Y ∈ K.map Prod.snd, Fits d false Y := fun Y hY => by
    obtain ⟨q, hq, rfl⟩ := List.mem_map.1 hY
    exact hF q hq
  have HFO : Hid (∀ Z ∈ openK (K.map Prod.snd), Fits d false Z) := openK_fits hFs
  have HFL : Hid ((openK (K.map Prod.snd)).flatten.length ≤ 3000 ∧ (openK (K.map Prod.snd)).length ≤ 3000) := by
    have h1 := openK_flat (K.map Prod.snd) hFs
    have h2 := openK_len (K.map Prod.snd) hFs
    unfold kidL at hl
    exact ⟨by omega, by omega⟩
  have hne := openK_ne hFs (by intro e; exact h0 (by simpa using e))
  have HSD : Hid (seqD (K.map Prod.snd) = seqC (lastNop (openK (K.map Prod.snd)))) := rfl
  rw [HSD.out]
  clear HSD hFs
  obtain ⟨ad, cap, rfl⟩ := h.at.form
  generalize openK (K.map Prod.snd) = L1 at HOp HFO HFL hne
  have HNE : Hid (L1 ≠ []) := hne
  clear h hF hl h0 hne
  go_enter Tryd.func50, Tryd.ntmps50
  go_wp2_with fail
  refine Calls.mono HOp.out ?_
  rintro e w1 ⟨v1, K1, rfl, hk1, hs1, hb1⟩
  have HK1 : Hid (∀ w, Below w1.heap.size w1 w → KdOwn w B v1 K1) := fun w hb => hk1.below hb
  have HS1 : Hid (K1.map Prod.snd = L1) := hs1
  have HB1 : Hid (Below W.heap.size W w1) := hb1
  obtain ⟨ad1, cap1, rfl⟩ := hk1.at.form
  have hl1 : K1.length = L1.length := by rw [← hs1, List.length_map]
  have hL3 : L1.length ≤ 3000 := HFL.out.2
  rw [hl1]
  have HL1 : Hid (K1.length = L1.length) := hl1
  clear hk1 hs1 hb1 HOp hl1
  go_wp2_with fail
  go_loopw [4, 11] (fun v4 v11 wr => ∃ (i : Nat) (K' : List (Value × List Nd)), v11 = .int .i64 i ∧ i ≤ L1.length ∧ Hid (K'.map Prod.snd = if i = L1.length then lastNop L1 else (L1.take i).filter fun Y => kindOf Y != 20) ∧ Hid (wr.ownsRow w1.heap.size 22 1 v4 K'.length (K'.map Prod.fst)) ∧ Hid (∀ q ∈ K', NdOwn wr B q.1 q.2) ∧ Hid (Below w1.heap.size w1 wr)) (fun _ v11 _ => L1.length - (intOf v11).toNat)
  case atStart => exact ⟨0, [], rfl, by omega, by unfold Hid; rw [if_neg (fun e => HNE.out (List.eq_nil_of_length_eq_zero e.symm))]; simp, World.ownsRow_nil _ _ _ _, (fun q hq => by cases hq), Below.refl _ _⟩
  case round =>
    obtain ⟨i, K', rfl, hi, HS, HR, HO, HB⟩ := hrel
    obtain ⟨ado, capo, rfl⟩ := owns_slice HR.out
    have hws := HB.out.size
    by_cases hlt : i < L1.length
    · have hlt' : (i : Int) < (L1.length : Int) := by omega
      have HS0 : Hid (K'.map Prod.snd = (L1.take i).filter fun Y => kindOf Y != 20) := by
        have := HS.out
        rw [if_neg (by omega)] at this
        exact this
      have hKl' : K'.length ≤ 3000 := by
        have h1 := congrArg List.length HS0.out
        have h2 := filter_len (L1.take i)
        rw [List.length_map] at h1
        rw [List.length_take] at h2
        omega
      obtain ⟨q, hq⟩ : ∃ q, K1[i]? = some q := ⟨_, List.getElem?_eq_getElem (by rw [HL1.out]; exact hlt)⟩
      have hKd := HK1.out _ HB.out
      obtain ⟨g, o, cp, hv, hg, c0, hN⟩ := hKd.at.at hq
      injection hv with e1 _ e3
      subst e1
      subst e3
      have hm := List.mem_of_getElem? hq
      have hfq := HFO.out q.2 (by rw [← HS1.out]; exact List.mem_map_of_mem hm)
      have hQ := hKd.2 q hm
      have hLi : L1[i]? = some q.2 := by rw [← HS1.out, List.getElem?_map, hq]; rfl
      have HT : Hid (L1.take (i + 1) = L1.take i ++ [q.2]) := take_one hLi
      have HLi : Hid (L1[i]? = some q.2) := hLi
      obtain ⟨qv, Y⟩ := q
      simp only at c0 hN hfq hQ HT HLi
      obtain ⟨adp, capp, rfl⟩ := hN.form
      have HIs : Hid _ := is_any _ Y wr 20 hN hfq.pos
      have HQ : Hid (NdOwn wr B (.slice adp Y.length capp) Y) := hQ
      clear hq hKd hm hQ hN hfq hLi HS
      have hrA := World.ownsRow.alloc HR.out (.cells [Value.slice adp Y.length capp].toArray 22)
      have hbA : Below wr.heap.size wr (wr.alloc (.cells [Value.slice adp Y.length capp].toArray 22)) := below_new _ _
      have HRA : Hid _ := hrA
      have HBA : Hid _ := hbA
      clear hrA hbA
      by_cases hla : i + 1 = L1.length
      · have hl2 : (i : Int) = (L1.length : Int) - 1 := by omega
        have hl3 : ((i : Int) == (L1.length : Int) - 1) = true := by simp [hl2]
        clear HIs hl2
        go_wp2_with (at_builtin; refine wpList_append_own_at _ rfl _ _ 36 rfl w1.heap.size 22 i0 _ 1 24 Tryd.underlying36 hi0 hz0 hz1 hz2 rfl (by decide) _ K'.length _ rfl (World.ownsRow.alloc HR.out _) ⟨wr.heap.size, 0, none⟩ 1 1 [.slice adp Y.length capp] rfl rfl (cells_new wr _ 22) (slice_one _ ⟨_, _, _, rfl⟩) (by have := maxLen_big; omega) (by omega) (by simp; omega) ?_; intro v4 w4 hown4 hgrow4 _ _)
        refine ⟨⟨i + 1, K' ++ [(.slice adp Y.length capp, Y)], by simp, by omega, ?_, by rw [List.length_append, List.map_append]; exact hown4, fun q hq => ?_, ?_⟩, by simp [intOf]; omega⟩
        · unfold Hid
          rw [if_pos hla, List.map_append, HS0.out, lastNop_eq L1 HNE.out, List.dropLast_eq_take]
          have e1 : L1.length - 1 = i := by omega
          have e2 : L1.getLast HNE.out = Y := by
            have := HLi.out
            rw [List.getElem?_eq_getElem hlt] at this
            rw [List.getLast_eq_getElem]
            have h3 := Option.some.inj this
            simp only [e1]
            exact h3
          rw [e1, e2]
          rfl
        · rcases List.mem_append.1 hq with hq | hq
          · exact ((HO.out q hq).below HBA.out).grownK HRA.out hgrow4
          · rw [List.mem_singleton] at hq
            subst hq
            exact (HQ.out.below HBA.out).grownK HRA.out hgrow4
        · exact HB.out.trans ((HBA.out.mono hws).trans (grown_below HRA.out (by simp; omega) hgrow4))
      · have hl3 : ((i : Int) == (L1.length : Int) - 1) = false := beq_eq_false_iff_ne.2 (by omega)
        cases hk : (kindOf Y == 20) with
        | true =>
          rw [hk] at HIs
          have HKY : Hid ((kindOf Y != 20) = false) := by unfold Hid; simp at hk; simp [hk]
          clear hk
          go_wp2_with fail
          refine Calls.mono HIs.out ?_
          rintro e w2 ⟨rfl, hw⟩
          obtain rfl := hw.symm
          clear hw
          go_wp2_with fail
          refine ⟨⟨i + 1, K', by simp, by omega, ?_, HR.out, HO.out, HB.out⟩, by simp [intOf]; omega⟩
          unfold Hid
          rw [if_neg hla, HT.out, List.filter_append, HS0.out]
          simp [HKY.out]
        | false =>
          rw [hk] at HIs
          have HKY : Hid ((kindOf Y != 20) = true) := by unfold Hid; simp at hk; simp [hk]
          clear hk
          go_wp2_with fail
          refine Calls.mono HIs.out ?_
          rintro e w2 ⟨rfl, hw⟩
          obtain rfl := hw.symm
          clear hw
          go_wp2_with (at_builtin; refine wpList_append_own_at _ rfl _ _ 36 rfl w1.heap.size 22 i0 _ 1 24 Tryd.underlying36 hi0 hz0 hz1 hz2 rfl (by decide) _ K'.length _ rfl (World.ownsRow.alloc HR.out _) ⟨wr.heap.size, 0, none⟩ 1 1 [.slice adp Y.length capp] rfl rfl (cells_new wr _ 22) (slice_one _ ⟨_, _, _, rfl⟩) (by have := maxLen_big; omega) (by omega) (by simp; omega) ?_; intro v4 w4 hown4 hgrow4 _ _)
          refine ⟨⟨i + 1, K' ++ [(.slice adp Y.length capp, Y)], by simp, by omega, ?_, by rw [List.length_append, List.map_append]; exact hown4, fun q hq => ?_, ?_⟩, by simp [intOf]; omega⟩
          · unfold Hid
            rw [if_neg hla, HT.out, List.filter_append, List.map_append, HS0.out]
            simp [HKY.out]
          · rcases List.mem_append.1 hq with hq | hq
            · exact ((HO.out q hq).below HBA.out).grownK HRA.out hgrow4
            · rw [List.mem_singleton] at hq
              subst hq
              exact (HQ.out.below HBA.out).grownK HRA.out hgrow4
          · exact HB.out.trans ((HBA.out.mono hws).trans (grown_below HRA.out (by simp; omega) hgrow4))
    · have hlt' : ¬ (i : Int) < (L1.length : Int) := by omega
      have hie : i = L1.length := by omega
      have HE : Hid (K'.map Prod.snd = lastNop L1) := by
        have := HS.out
        rw [if_pos hie] at this
        exact this
      have hkl : (kidL K').length ≤ 3000 := by
        unfold kidL
        rw [HE.out]
        have := flat_sub (lastNop_sublist L1)
        have := HFL.out.1
        omega
      have hkl2 : K'.length ≤ 3000 := by
        have h1 := congrArg List.length HE.out
        have h2 := (lastNop_sublist L1).length_le
        rw [List.length_map] at h1
        omega
      have hat : KdAt wr (.slice ado K'.length capo) K' := KdOwn.at (B := 0) ⟨owns_lower HR.out (Nat.zero_le _), fun q hq => owns_lower (HO.out q hq) (Nat.zero_le _)⟩
      have HC : Hid _ := seqs_any _ K' wr hat hkl2 hkl
      rw [HE.out] at HC
      clear hat hkl hkl2 HE HS
      go_wp2_with fail
      refine Calls.mono HC.out ?_
      rintro e w2 ⟨v2, rfl, ho2, hb2⟩
      have hbw : Below W.heap.size W wr := HB1.out.trans (HB.out.mono HB1.out.size)
      have HO2 : Hid (NdOwn w2 W.heap.size v2 (seqC (lastNop L1))) := owns_lower ho2 hbw.size
      have HBW : Hid (Below W.heap.size W w2) := hbw.trans (hb2.mono hbw.size)
      clear ho2 hb2 hbw HC
      go_wp2_with fail
      go_ret
      exact ⟨_, rfl, HO2.out, HBW.out⟩
end Go.Proofs.YtfakelaibijgkaaDoor
