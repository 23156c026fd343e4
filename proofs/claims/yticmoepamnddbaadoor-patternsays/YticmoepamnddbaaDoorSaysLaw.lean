/- PatternSays answers true, whatever it is handed. -/
import Derived.Test.YticmoepamnddbaaDoorRefU
import Derived.Test.YticmoepamnddbaaDoorRefE
import Derived.Test.YticmoepamnddbaaDoorFirst
namespace Go.Proofs.YticmoepamnddbaaDoor
open Go.RowKit Go.Shelf

theorem closed_cl' (l : List UInt8) : closedL l = cl l := by
  unfold closedL
  rw [tr_eq, cl_eq]
theorem anyM_snoc (s : List UInt8) {ns : List (List UInt8)} {k : Nat} {n : List UInt8} (h : ns[k]? = some n) : anyM s (ns.take (k + 1)) = (anyM s (ns.take k) || matchL n s) := by
  unfold anyM
  rw [take_snoc h, List.any_append]
  simp
theorem splitR_len (cs : List (List UInt8 × Lt)) : ∀ acc, (splitR acc cs).length ≤ cs.length + 1 := by
  have h1 : ∀ acc : List UInt8, (one acc).length ≤ 1 := fun acc => by unfold one; split <;> simp
  induction cs with
  | nil => intro acc; simpa [splitR] using h1 acc
  | cons x r ih =>
    intro acc
    obtain ⟨raw, l⟩ := x
    unfold splitR
    split
    · rw [List.length_append]
      have := h1 acc
      have := ih []
      simp only [List.length_cons]
      omega
    · have := ih (acc ++ raw)
      simp only [List.length_cons]
      omega
theorem chunks_len (l : List UInt8) : (chunks l).length ≤ l.length := by
  have h1 : (chunks l).length = (letts l).length := by rw [← chunks_snd, List.length_map]
  rw [h1]
  exact letts_length_le l

set_option maxRecDepth 100000 in
set_option maxHeartbeats 8000000 in
theorem says_any (p s : ByteArray) (v : Value) (ns : List (List UInt8)) (w : World) (h : TxAt w v ns) (hl : ns.length < 140737488355328) (hz : ∀ t ∈ ns, t.length ≤ 140737488355328) :
    Calls Tryd.prog 3 #[.string p, .string s, v] w fun e w' => e = .returned (.bool true) ∧ Below w.heap.size w w' := by
  obtain ⟨P, rfl⟩ : ∃ P : List UInt8, p = ⟨P.toArray⟩ := ⟨p.data.toList, bytes_eq p⟩
  obtain ⟨S, rfl⟩ : ∃ S : List UInt8, s = ⟨S.toArray⟩ := ⟨s.data.toList, bytes_eq s⟩
  have HT : Hid (∀ W', Below w.heap.size w W' → TxAt W' v ns) := fun W' hb => h.below hb (Nat.le_refl _)
  have HZ : Hid (∀ t ∈ ns, t.length ≤ 140737488355328) := hz
  obtain ⟨gz, oz, adz, capz, rfl, hcz, hnz, hez⟩ := h
  have HN : Hid (ns ≠ [] → adz = some ⟨gz, oz, none⟩ ∧ gz < w.heap.size) := hnz
  have HE : Hid (∀ k p, ns[k]? = some p → w.cell? ⟨gz, oz + k, none⟩ = some (.string ⟨p.toArray⟩)) := hez
  clear hnz hez hz
  go_enter Tryd.func3, Tryd.ntmps3
  go_wp2_with fail
  refine (first_any w).mono ?_
  rintro e w1 ⟨rfl, hb1⟩
  by_cases h1 : 60 < P.length
  · go_wp2_with fail
    go_ret
    exact ⟨rfl, hb1⟩
  by_cases h2 : 60 < S.length
  · go_wp2_with fail
    go_ret
    exact ⟨rfl, hb1⟩
  by_cases h3 : 20 < ns.length
  · go_wp2_with fail
    go_ret
    exact ⟨rfl, hb1⟩
  go_wp2_with fail
  go_loopw [8, 9] (fun v8 v9 wr => ∃ k : Nat, v9 = .int .i64 k ∧ k ≤ ns.length ∧ v8 = .bool (anyM S (ns.take k)) ∧ Hid (∀ j t, j < k → ns[j]? = some t → t.length ≤ 60) ∧ Below w.heap.size w wr) (fun _ v9 _ => ns.length - (intOf v9).toNat)
  case atStart => exact ⟨0, rfl, Nat.zero_le _, rfl, fun j t hj => absurd hj (Nat.not_lt_zero _), hb1⟩
  case round =>
    obtain ⟨k, rfl, hk, rfl, HK, hbr⟩ := hrel
    by_cases hkl : k < ns.length
    · obtain ⟨n, hn⟩ : ∃ n, ns[k]? = some n := ⟨_, List.getElem?_eq_getElem hkl⟩
      have hn32 := HZ.out n (List.mem_of_getElem? hn)
      obtain ⟨rfl, hgz⟩ := HN.out (fun e => by rw [e] at hkl; simp at hkl)
      have c0 := (hbr.cell (p := ⟨gz, oz + k, none⟩) hgz).trans (HE.out k n hn)
      have HA : Hid (anyM S (ns.take (k + 1)) = (anyM S (ns.take k) || matchL n S)) := anyM_snoc S hn
      have HNN : Hid (ns[k]? = some n) := hn
      clear hn
      by_cases h4 : 60 < n.length
      · go_wp2_with fail
        go_ret
        exact ⟨rfl, hbr⟩
      have HK2 : Hid (∀ j t, j < k + 1 → ns[j]? = some t → t.length ≤ 60) := fun j t hj ht => by
        rcases Nat.lt_or_ge j k with h5 | h5
        · exact HK.out j t h5 ht
        · rw [show j = k by omega, HNN.out] at ht
          cases ht
          omega
      have HM : Hid (∀ W, Calls Tryd.prog 8 #[.string ⟨n.toArray⟩, .string ⟨S.toArray⟩] W fun e w' => e = .returned (.bool (matchL n S)) ∧ Below W.heap.size W w') := fun W => by
        have := rmatch_any ⟨n.toArray⟩ ⟨S.toArray⟩ (by rw [str_size']; omega) (by rw [str_size']; omega) W
        rw [str_data', str_data'] at this
        exact this
      generalize anyM S (ns.take k) = a at HA
      cases a
      · go_wp2_with fail
        refine (HM.out _).mono ?_
        rintro e w2 ⟨rfl, hb2⟩
        rw [show matchL n S = anyM S (ns.take (k + 1)) by rw [HA.out]; simp]
        go_wp2_with fail
        exact ⟨⟨k + 1, by simp, by omega, rfl, HK2, hbr.trans (hb2.mono hbr.size)⟩, by simp [intOf]; omega⟩
      · go_wp2_with fail
        exact ⟨⟨k + 1, by simp, by omega, by rw [HA.out]; simp, HK2, hbr⟩, by simp [intOf]; omega⟩
    · have hkz : k = ns.length := by omega
      subst hkz
      have HS32 : Hid (∀ t ∈ ns, t.length < 4294967296) := fun t ht => by
        obtain ⟨j, hj⟩ := List.mem_iff_getElem?.1 ht
        have := HK.out j t (List.getElem?_eq_some_iff.1 hj).1 hj
        omega
      rw [List.take_length]
      have HB : ∀ {w2 : World}, Below wr.heap.size wr w2 → Below w.heap.size w w2 := fun hb => hbr.trans (hb.mono hbr.size)
      have e1 : (⟨P.toArray⟩ : ByteArray).size < 4294967296 := by rw [str_size']; omega
      have e2 : (⟨S.toArray⟩ : ByteArray).size < 4294967296 := by rw [str_size']; omega
      have E1 : Hid ((⟨P.toArray⟩ : ByteArray).size < 4294967296) := e1
      have E2 : Hid ((⟨S.toArray⟩ : ByteArray).size < 4294967296) := e2
      clear e1 e2
      go_wp2_with fail
      refine (closed_any _ (Nat.lt_trans E1.out (by decide)) _).mono ?_
      rintro e w2 ⟨rfl, hw2⟩
      obtain rfl := hw2.symm
      go_wp2_with fail
      refine (rclosed_any _ E1.out _).mono ?_
      rintro e w2 ⟨rfl, hw2⟩
      obtain rfl := hw2.symm
      rw [closed_cl']
      generalize cl (⟨P.toArray⟩ : ByteArray).data.toList = b
      have hbb : (b == b) = true := beq_self_eq_true b
      go_wp2_with fail
      refine (escape_any _ (Nat.lt_trans E1.out (by decide)) _).mono ?_
      rintro e w2 ⟨rfl, hb2⟩
      have h2 := HB hb2
      go_wp2_with fail
      refine (rescape_any _ E1.out _).mono ?_
      rintro e w3 ⟨rfl, hb3⟩
      have h3 : Below w.heap.size w w3 := h2.trans (hb3.mono h2.size)
      clear hbb
      generalize (⟨(escL (⟨P.toArray⟩ : ByteArray).data.toList).toArray⟩ : ByteArray) = X
      go_wp2_with fail
      refine (plain_any _ (Nat.lt_trans E1.out (by decide)) _).mono ?_
      rintro e w4 ⟨rfl, hb4⟩
      have h4 : Below w.heap.size w w4 := h3.trans (hb4.mono h3.size)
      go_wp2_with fail
      refine (rplain_any _ E1.out _).mono ?_
      rintro e w5 ⟨rfl, hb5⟩
      have h5 : Below w.heap.size w w5 := h4.trans (hb5.mono h4.size)
      generalize (⟨((letts (⟨P.toArray⟩ : ByteArray).data.toList).map Prod.fst).toArray⟩ : ByteArray) = Y
      go_wp2_with fail
      refine (live_any _ E1.out _).mono ?_
      rintro e w6 ⟨rfl, hb6⟩
      have h6 : Below w.heap.size w w6 := h5.trans (hb6.mono h5.size)
      go_wp2_with fail
      refine (rlive_any _ E1.out _).mono ?_
      rintro e w7 ⟨rfl, hb7⟩
      have h7 : Below w.heap.size w w7 := h6.trans (hb7.mono h6.size)
      generalize liveR (letts (⟨P.toArray⟩ : ByteArray).data.toList) = lv
      have hlv : (lv == lv) = true := beq_self_eq_true lv
      go_wp2_with fail
      refine (match_any _ _ E1.out E2.out _).mono ?_
      rintro e w8 ⟨rfl, hb8⟩
      have h8 : Below w.heap.size w w8 := h7.trans (hb8.mono h7.size)
      clear hlv
      go_wp2_with fail
      refine (rmatch_any _ _ E1.out E2.out _).mono ?_
      rintro e w9 ⟨rfl, hb9⟩
      have h9 : Below w.heap.size w w9 := h8.trans (hb9.mono h8.size)
      generalize matchL (⟨P.toArray⟩ : ByteArray).data.toList (⟨S.toArray⟩ : ByteArray).data.toList = mv
      have hmv : (mv == mv) = true := beq_self_eq_true mv
      go_wp2_with fail
      refine (split_any _ E1.out _).mono ?_
      rintro e wa ⟨va, rfl, hoa, hba⟩
      have ha : Below w.heap.size w wa := h9.trans (hba.mono h9.size)
      clear hmv
      go_wp2_with fail
      refine (rsplit_any _ E1.out _).mono ?_
      rintro e wb ⟨vb, rfl, hob, hbb⟩
      have hb : Below w.heap.size w wb := ha.trans (hbb.mono ha.size)
      have hta := (TxAt.owned hoa).below hbb (Nat.le_refl _)
      have htb := TxAt.owned hob
      have hsl : (splitL (⟨P.toArray⟩ : ByteArray).data.toList).length < 4294967296 := by
        have q1 := splitR_len (chunks (⟨P.toArray⟩ : ByteArray).data.toList) []
        have q2 := chunks_len (⟨P.toArray⟩ : ByteArray).data.toList
        rw [str_data'] at q1 q2 ⊢
        unfold splitL
        omega
      have HST := sameTexts_any va vb _ _ wb hta htb hsl hsl
      have HSH : Hid (Calls Tryd.prog 18 #[va, vb] wb fun e w' => e = .returned (.bool true) ∧ Below wb.heap.size wb w') := by
        refine HST.mono fun e w' ⟨he, hb'⟩ => ⟨?_, hb'⟩
        rw [he]; simp
      clear hoa hob hta htb HST hsl
      go_wp2_with fail
      refine HSH.out.mono ?_
      rintro e wc ⟨rfl, hbc⟩
      have hc : Below w.heap.size w wc := hb.trans (hbc.mono hb.size)
      clear HSH
      go_wp2_with fail
      refine (any_any S (by omega) _ ns (by omega) HS32.out wc (HT.out _ hc)).mono ?_
      rintro e wd ⟨rfl, hbd⟩
      have hd : Below w.heap.size w wd := hc.trans (hbd.mono hc.size)
      generalize anyM S ns = av
      have hav : (av == av) = true := beq_self_eq_true av
      go_wp2_with fail
      refine (files_any _ E1.out _ ns (by omega) HS32.out wd (HT.out _ hd)).mono ?_
      rintro e we ⟨ve, rfl, hte, hbe⟩
      have he : Below w.heap.size w we := hd.trans (hbe.mono hd.size)
      clear hav
      go_wp2_with fail
      refine (rfiles_any P (by omega) _ ns (by omega) HS32.out we (HT.out _ he)).mono ?_
      rintro e wf ⟨vf, rfl, htf, hbf⟩
      have hf : Below w.heap.size w wf := he.trans (hbf.mono he.size)
      have htg := hte.below hbf (Nat.le_refl _)
      have hfl : (filesB (dotL P) (pcs (letts P)) ns).length < 4294967296 := Nat.lt_of_le_of_lt (filesB_length _ _ _) (by omega)
      have HST := sameTexts_any ve vf _ _ wf htg htf hfl hfl
      have HSH : Hid (Calls Tryd.prog 18 #[ve, vf] wf fun e w' => e = .returned (.bool true) ∧ Below wf.heap.size wf w') := by
        refine HST.mono fun e w' ⟨he, hb'⟩ => ⟨?_, hb'⟩
        rw [he]; simp
      clear hte htf htg HST hfl
      go_wp2_with fail
      refine HSH.out.mono ?_
      rintro e wg ⟨rfl, hbg⟩
      go_wp2_with fail
      go_ret
      exact ⟨rfl, hf.trans (hbg.mono hf.size)⟩
end Go.Proofs.YticmoepamnddbaaDoor
