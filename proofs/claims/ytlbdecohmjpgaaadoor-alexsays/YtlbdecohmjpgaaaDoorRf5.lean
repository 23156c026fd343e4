/- The document's own lexer: what a dollar begins, whatever stands there. -/
import Derived.Test.YtlbdecohmjpgaaaDoorRfD
import Derived.Test.YtlbdecohmjpgaaaDoorPureN
namespace Go.Proofs.YtlbdecohmjpgaaaDoor
open Go.RowKit

theorem ba_length (a : ByteArray) : a.data.toList.length = a.size := by rw [Array.length_toList]; rfl
theorem ext_nm (s : ByteArray) (a k : Nat) : s.extract a k = ⟨((s.data.toList.drop a).take (k - a)).toArray⟩ := by rw [Lib.extract_eq]
theorem take_self (l : List UInt8) (p : UInt8 → Bool) : l.take (l.takeWhile p).length = l.takeWhile p := (List.prefix_iff_eq_take.1 (List.takeWhile_prefix p)).symm
theorem drop_two (s : ByteArray) (i : Nat) (h : i + 1 < s.size) (h36 : s[i] = 36) : s.data.toList.drop i = 36 :: s[i + 1] :: s.data.toList.drop (i + 2) := by
  rw [drop_cons s i (by omega), drop_cons s (i + 1) h, h36]
theorem mem_tw {p : UInt8 → Bool} {x : UInt8} : ∀ {l : List UInt8}, x ∈ l.takeWhile p → p x = true
  | [], h => by cases h
  | c :: t, h => by
    rw [List.takeWhile_cons] at h
    split at h
    · rename_i hc
      rcases List.mem_cons.1 h with e | h
      · rw [e]; exact hc
      · exact mem_tw h
    · cases h
theorem nameB_run {l : List UInt8} {c : UInt8} {t : List UInt8} (hl : l = c :: t) (h1 : start8 c = true) : nameB (nrun l) = decide ((nrun l).length ≤ 20) ∧ 0 < (nrun l).length := by
  subst hl
  have hn : nrun (c :: t) = c :: t.takeWhile cont8 := by
    rw [nrun, if_pos h1, List.takeWhile_cons, show cont8 c = true by show contB _ = true; rw [contB, show startB (c.toNat : Int) = true from h1]; rfl]
    rfl
  have ha : allCont (c :: t.takeWhile cont8) = true := by
    rw [allCont, List.all_cons, show cont8 c = true by show contB _ = true; rw [contB, show startB (c.toNat : Int) = true from h1]; rfl, Bool.true_and, List.all_eq_true]
    intro x hx
    exact mem_tw hx
  rw [hn]
  refine ⟨?_, by simp⟩
  rw [nameB, h1, ha]
  simp
theorem isNB_at (s : ByteArray) (a k : Nat) (hk : k < s.size) (h1 : a ≤ k) (h2 : k < a + ((s.data.toList.drop a).takeWhile isNB).length) : s[k] ≠ 125 := by
  have hm : (s.data.toList.drop a)[k - a]? = some s[k] := by rw [List.getElem?_drop, show a + (k - a) = k by omega]; exact s_get s k hk
  have hp := List.takeWhile_prefix (l := s.data.toList.drop a) isNB
  have hm2 : ((s.data.toList.drop a).takeWhile isNB)[k - a]? = some s[k] := by
    rw [List.prefix_iff_eq_take.1 hp, List.getElem?_take_of_lt (by omega)]
    exact hm
  have := mem_tw (List.mem_of_getElem? hm2)
  simpa [isNB] using this
theorem tw_end {p : UInt8 → Bool} : ∀ {l : List UInt8}, (l.takeWhile p).length < l.length → ∃ x, l[(l.takeWhile p).length]? = some x ∧ p x = false
  | [], h => absurd h (by simp)
  | c :: t, h => by
    rw [List.takeWhile_cons] at h ⊢
    cases hc : p c with
    | true =>
      rw [hc] at h
      simp only [if_true, List.length_cons] at h ⊢
      obtain ⟨x, h1, h2⟩ := tw_end (p := p) (l := t) (by omega)
      exact ⟨x, by rw [List.getElem?_cons_succ]; exact h1, h2⟩
    | false => exact ⟨c, rfl, hc⟩
theorem isNB_end (s : ByteArray) (a : Nat) (hK : a + ((s.data.toList.drop a).takeWhile isNB).length < s.size) : s[a + ((s.data.toList.drop a).takeWhile isNB).length] = 125 := by
  obtain ⟨x, h1, h2⟩ := tw_end (p := isNB) (l := s.data.toList.drop a) (by rw [len_drop']; omega)
  rw [List.getElem?_drop, s_get s _ hK] at h1
  cases h1
  simpa [isNB] using h2
theorem dolR_any {W : World} {b : Nat} {s : ByteArray} {i : Nat} {av : Value} (h : Lx W b s i 0 av) (q : Bool) (hs : s.size < 1099511627776) (hi : i < s.size) (h36 : s[i] = 36) :
    Calls Tryd.prog 38 #[.pointer (some ⟨b, 0, none⟩), .bool q] W fun e w' => ∃ p is, e = .returned (.tuple #[.agg (ptC p).toArray, .bool is]) ∧ DolR W b s i av q (if dolB (s.data.toList.drop i) = true then some (dollar s.size (s.data.toList.drop i)) else none) p is w' := by
  have none_ : ∀ {e : Ending} {w' : World}, (e = .returned (.tuple #[.agg zC, .bool false]) ∧ TL W b s i av w') → dolB (s.data.toList.drop i) = false → ∃ p is, e = .returned (.tuple #[.agg (ptC p).toArray, .bool is]) ∧ DolR W b s i av q (if dolB (s.data.toList.drop i) = true then some (dollar s.size (s.data.toList.drop i)) else none) p is w' := by
    rintro e w' ⟨h1, h2⟩ h3
    refine ⟨ptZ, false, h1, ?_⟩
    rw [h3]
    exact ⟨rfl, h2.1, h2.2⟩
  have bad_ : ∀ {e : Ending} {w' : World} {x : Er}, (e = .returned (.tuple #[.agg zC, .bool false]) ∧ Flt W b s x w') → dolB (s.data.toList.drop i) = true → dollar s.size (s.data.toList.drop i) = .error x → ∃ p is, e = .returned (.tuple #[.agg (ptC p).toArray, .bool is]) ∧ DolR W b s i av q (if dolB (s.data.toList.drop i) = true then some (dollar s.size (s.data.toList.drop i)) else none) p is w' := by
    rintro e w' x ⟨h1, h2⟩ h3 h4
    refine ⟨ptZ, false, h1, ?_⟩
    rw [h3, h4]
    exact ⟨rfl, h2⟩
  have ok_ : ∀ {e : Ending} {w' : World} {k n j : Nat} {nm u : List UInt8}, (e = .returned (.tuple #[.agg (ptC ⟨k, i, n, q, nm⟩).toArray, .bool true]) ∧ TL W b s j av w') → dolB (s.data.toList.drop i) = true → dollar s.size (s.data.toList.drop i) = .ok (⟨k, i, n, false, nm⟩, u) → j ≤ s.size → u = s.data.toList.drop j → ∃ p is, e = .returned (.tuple #[.agg (ptC p).toArray, .bool is]) ∧ DolR W b s i av q (if dolB (s.data.toList.drop i) = true then some (dollar s.size (s.data.toList.drop i)) else none) p is w' := by
    rintro e w' k n j nm u ⟨h1, h2⟩ h3 h4 h5 h6
    refine ⟨⟨k, i, n, q, nm⟩, true, h1, ?_⟩
    rw [h3, h4]
    exact ⟨rfl, rfl, j, h2.1, h2.2, h5, h6⟩
  by_cases hi1 : i + 1 < s.size
  · have hd := drop_two s i hi1 h36
    have hd1 := drop_cons s (i + 1) hi1
    have hl2 := len_drop' s (i + 2)
    have hpos : s.size - ((s.data.toList.drop (i + 2)).length + 2) = i := by omega
    have hdb : dolB (s.data.toList.drop i) = dolC s[i + 1] := by rw [hd]; simp [dolB]
    cases hst : start8 s[i + 1] with
    | true =>
      obtain ⟨n1, n2, n3, n4, n5⟩ := start_no hst
      have hdt : dolB (s.data.toList.drop i) = true := by rw [hdb, dolC, hst]; simp
      obtain ⟨hb1, hb2⟩ := nameB_run hd1 hst
      have hci : contB ((s[i + 1]).toNat : Int) = true := by rw [contB, show startB ((s[i + 1]).toNat : Int) = true from hst]; rfl
      have hlo : ((s[i + 1]).toNat : Int) < 48 ∨ 57 < ((s[i + 1]).toNat : Int) := by
        have h0 : startB ((s[i + 1]).toNat : Int) = true := hst
        simp only [startB, decide_eq_true_eq] at h0
        omega
      have hrun := fun w => run_yes s (i + 1) w hs hi1 hci hlo
      have hnl := nrun_len (s.data.toList.drop (i + 1))
      have hl1 := len_drop' s (i + 1)
      have hdol : dollar s.size (s.data.toList.drop i) = varR i (nrun (s.data.toList.drop (i + 1))) ((s.data.toList.drop (i + 1)).drop (nrun (s.data.toList.drop (i + 1))).length) := by
        rw [hd, dollar, if_neg n1, if_neg n2, if_neg n3, if_neg n4, if_neg (by rw [n5]; simp), ← hd1, hpos]
      have hne : nrun (s.data.toList.drop (i + 1)) = (s.data.toList.drop (i + 1)).takeWhile cont8 := nrun_lets s (i + 1) hi1 hci hlo
      have hex : s.extract (i + 1) (i + 1 + (nrun (s.data.toList.drop (i + 1))).length) = ⟨(nrun (s.data.toList.drop (i + 1))).toArray⟩ := by
        rw [ext_nm, show i + 1 + (nrun (s.data.toList.drop (i + 1))).length - (i + 1) = (nrun (s.data.toList.drop (i + 1))).length by omega, hne, take_self]
      have hdd : (s.data.toList.drop (i + 1)).drop (nrun (s.data.toList.drop (i + 1))).length = s.data.toList.drop (i + 1 + (nrun (s.data.toList.drop (i + 1))).length) := List.drop_drop
      by_cases h20 : (nrun (s.data.toList.drop (i + 1))).length ≤ 20
      · refine (dolR_name h q hs _ hrun hb2 h20 (by omega) hex).mono fun e w' hw => ok_ hw hdt ?_ (by omega) hdd
        rw [hdol, varR, hb1, decide_eq_true h20]
        rfl
      · refine (dolR_long h q hs _ hrun (by omega) (by omega) hex).mono fun e w' hw => bad_ hw hdt ?_
        rw [hdol, varR, hb1, decide_eq_false h20]
        rfl
    | false =>
      have hrun := fun w => run_no s (i + 1) w (by rw [hd1, nrun, hst]; rfl)
      by_cases c40 : s[i + 1] = 40
      · have hdt : dolB (s.data.toList.drop i) = true := by rw [hdb, c40]; rfl
        have hdol : dollar s.size (s.data.toList.drop i) = (match pass ((s.data.toList.drop (i + 2)).length + 2) 1 (s.data.toList.drop (i + 2)) with
          | none => .error ⟨1, i⟩
          | some u => .ok (⟨4, i, 0, false, (s.data.toList.drop (i + 2)).take ((s.data.toList.drop (i + 2)).length - u.length - 1)⟩, u)) := by
          rw [hd, dollar, if_pos c40, hpos]
          cases pass ((s.data.toList.drop (i + 2)).length + 2) 1 (s.data.toList.drop (i + 2)) <;> rfl
        have hcl := fun (w : World) (hc : w.cell? ⟨b, 0, none⟩ = some (.string s)) => closes_any b s w hc hs (s.size + 2) (i + 2) ((s.data.toList.drop (i + 2)).length + 2) (by omega) (by omega) (by omega)
        cases hp : pass ((s.data.toList.drop (i + 2)).length + 2) 1 (s.data.toList.drop (i + 2)) with
        | none =>
          rw [hp] at hdol
          refine (dolR_open h q hs hrun hi1 c40 (fun w hc => ?_)).mono fun e w' hw => bad_ hw hdt hdol
          have := hcl w hc
          rwa [hp] at this
        | some u =>
          rw [hp] at hdol
          replace hdol : dollar s.size (s.data.toList.drop i) = .ok (⟨4, i, 0, false, (s.data.toList.drop (i + 2)).take ((s.data.toList.drop (i + 2)).length - u.length - 1)⟩, u) := hdol
          obtain ⟨hu1, hu2⟩ := pass_drop hp
          refine (dolR_sub h q hs hrun hi1 c40 (s.size - u.length - 1) (fun w hc => ?_) (by omega) (by omega) _ (ext_nm s (i + 2) (s.size - u.length - 1))).mono fun e w' hw => ok_ (u := u) hw hdt ?_ (by omega) ?_
          · have := hcl w hc
            rwa [hp, show clR s.size (some u) = ((s.size - u.length - 1 : Nat) : Int) by simp only [clR]; omega] at this
          · rw [hdol, show (s.data.toList.drop (i + 2)).length - u.length - 1 = s.size - u.length - 1 - (i + 2) by omega]
          · rw [show s.size - u.length - 1 + 1 = s.size - u.length by omega]
            exact hu1
      · by_cases c123 : s[i + 1] = 123
        · have hdt : dolB (s.data.toList.drop i) = true := by rw [hdb, c123]; rfl
          obtain ⟨nb, hnb⟩ : ∃ nb, nb = (s.data.toList.drop (i + 2)).takeWhile isNB := ⟨_, rfl⟩
          have hdol : dollar s.size (s.data.toList.drop i) = if nb.length < (s.data.toList.drop (i + 2)).length then varR i nb ((s.data.toList.drop (i + 2)).drop (nb.length + 1)) else .error ⟨0, i⟩ := by
            rw [hd, dollar, if_neg c40, if_pos c123, hpos, ← hnb]
          have hle : nb.length ≤ (s.data.toList.drop (i + 2)).length := by rw [hnb]; exact (List.takeWhile_sublist _).length_le
          have hA : ∀ k (hk : k < s.size), i + 2 ≤ k → k < i + 2 + nb.length → s[k] ≠ 125 := fun k hk h1 h2 => isNB_at s (i + 2) k hk h1 (by rw [← hnb]; exact h2)
          by_cases hin : nb.length < (s.data.toList.drop (i + 2)).length
          · rw [if_pos hin] at hdol
            have hB : s[i + 2 + nb.length] = 125 := by
              have := isNB_end s (i + 2) (by rw [← hnb]; omega)
              simpa [← hnb] using this
            have hex : s.extract (i + 2) (i + 2 + nb.length) = ⟨nb.toArray⟩ := by
              rw [ext_nm, show i + 2 + nb.length - (i + 2) = nb.length by omega, hnb, take_self]
            have hna := fun w => rname_any (s.extract (i + 2) (i + 2 + nb.length)) w
            have hnl : (s.extract (i + 2) (i + 2 + nb.length)).data.toList = nb := by rw [hex]
            cases hnm : nameB nb with
            | true =>
              rw [varR, hnm, if_pos rfl] at hdol
              refine (dolR_brace h q hs hrun hi1 c123 (i + 2 + nb.length) (by omega) (by omega) hA (by omega) hB (fun w => ?_) nb hex).mono fun e w' hw => ok_ hw hdt hdol (by omega) ?_
              · have := hna w
                rwa [hnl, hnm] at this
              · rw [List.drop_drop, show i + 2 + (nb.length + 1) = i + 2 + nb.length + 1 by omega]
            | false =>
              rw [varR, hnm, if_neg (by simp)] at hdol
              refine (dolR_nobrace h q hs hrun hi1 c123 (i + 2 + nb.length) (by omega) (by omega) hA (by omega) hB (fun w => ?_)).mono fun e w' hw => bad_ hw hdt hdol
              have := hna w
              rwa [hnl, hnm] at this
          · rw [if_neg hin] at hdol
            exact (dolR_unbraced h q hs hrun hi1 c123 (i + 2 + nb.length) (by omega) (by omega) hA (by omega)).mono fun e w' hw => bad_ hw hdt hdol
        · by_cases c42 : s[i + 1] = 42
          · have hdt : dolB (s.data.toList.drop i) = true := by rw [hdb, c42]; rfl
            exact (dolR_star h q hs hrun hi1 c42).mono fun e w' hw => ok_ hw hdt (by rw [hd, dollar, if_neg c40, if_neg c123, if_pos c42, hpos]) (by omega) rfl
          · by_cases c35 : s[i + 1] = 35
            · have hdt : dolB (s.data.toList.drop i) = true := by rw [hdb, c35]; rfl
              exact (dolR_many h q hs hrun hi1 c35).mono fun e w' hw => ok_ hw hdt (by rw [hd, dollar, if_neg c40, if_neg c123, if_neg c42, if_pos c35, hpos]) (by omega) rfl
            · cases hct : cnts s[i + 1] with
              | true =>
                have hdt : dolB (s.data.toList.drop i) = true := by rw [hdb, dolC, hct]; simp
                have hct2 := hct
                simp only [cnts, Bool.and_eq_true, decide_eq_true_eq] at hct2
                exact (dolR_num h q hs hrun hi1 hct2.1 hct2.2).mono fun e w' hw => ok_ hw hdt (by rw [hd, dollar, if_neg c40, if_neg c123, if_neg c42, if_neg c35, if_pos hct, hpos]) (by omega) rfl
              | false =>
                have hdf : dolB (s.data.toList.drop i) = false := by
                  rw [hdb, dolC, hct, hst]
                  simp [c40, c123, c42, c35]
                have hct2 := hct
                simp only [cnts, Bool.and_eq_false_iff, decide_eq_false_iff_not] at hct2
                rcases hct2 with h49 | h57
                · exact (dolR_low h q hs hrun hi1 c123 c42 c35 c40 (by omega)).mono fun e w' hw => none_ hw hdf
                · exact (dolR_high h q hs hrun hi1 c123 c42 c35 c40 (by omega)).mono fun e w' hw => none_ hw hdf
  · have hdf : dolB (s.data.toList.drop i) = false := by
      rw [drop_cons s i hi, drop_out s (i + 1) (by omega)]
      rfl
    have hrun := fun w => run_no s (i + 1) w (by rw [drop_out s (i + 1) (by omega)]; rfl)
    exact (dolR_end h q hs hrun hi (by omega)).mono fun e w' hw => none_ hw hdf
end Go.Proofs.YtlbdecohmjpgaaaDoor
