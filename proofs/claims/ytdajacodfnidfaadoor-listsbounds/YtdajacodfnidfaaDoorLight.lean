/- light. -/
import Derived.Test.YtdajacodfnidfaaDoorFirst3
namespace Go.Proofs.YtdajacodfnidfaaDoor
open Go.RowKit Go.Shelf

def sumL (l : List (List UInt8)) : Nat := (l.map List.length).sum
def sumLs (ls : List (List (List UInt8))) : Nat := (ls.map sumL).sum
/-- Few lists, of few bytes? -/
def lightB (ls : List (List (List UInt8))) : Bool := ls.all (fun l => decide (l.length ≤ 130)) && decide (sumLs ls ≤ 20000)
theorem sumL_nil : sumL [] = 0 := rfl
theorem sumL_take (l : List (List UInt8)) (j : Nat) (s : List UInt8) (h : l[j]? = some s) : sumL (l.take (j + 1)) = sumL (l.take j) + s.length := by
  unfold sumL
  rw [List.take_add_one, h]
  simp
theorem sumLs_take (ls : List (List (List UInt8))) (j : Nat) (l : List (List UInt8)) (h : ls[j]? = some l) : sumLs (ls.take (j + 1)) = sumLs (ls.take j) + sumL l := by
  unfold sumLs
  rw [List.take_add_one, h]
  simp
theorem sumL_le (l : List (List UInt8)) (M : Nat) (h : ∀ s ∈ l, s.length ≤ M) : sumL l ≤ l.length * M := by
  induction l with
  | nil => simp [sumL]
  | cons s l ih =>
    have h1 := ih (fun t ht => h t (List.mem_cons_of_mem _ ht))
    have h2 := h s (by simp)
    unfold sumL at *
    simp only [List.map_cons, List.sum_cons, List.length_cons, Nat.add_mul, Nat.one_mul]
    omega
theorem sumL_mem (l : List (List UInt8)) (s : List UInt8) (h : s ∈ l) : s.length ≤ sumL l := by
  induction l with
  | nil => simp at h
  | cons t l ih =>
    unfold sumL at *
    simp only [List.map_cons, List.sum_cons]
    rcases List.mem_cons.1 h with rfl | h
    · omega
    · have := ih h
      omega
theorem sumLs_mem (ls : List (List (List UInt8))) (l : List (List UInt8)) (h : l ∈ ls) : sumL l ≤ sumLs ls := by
  induction ls with
  | nil => simp at h
  | cons t ls ih =>
    unfold sumLs at *
    simp only [List.map_cons, List.sum_cons]
    rcases List.mem_cons.1 h with rfl | h
    · omega
    · have := ih h
      omega
theorem lightB_iff (ls : List (List (List UInt8))) : lightB ls = true ↔ (∀ l ∈ ls, l.length ≤ 130) ∧ sumLs ls ≤ 20000 := by
  simp [lightB]

set_option maxRecDepth 100000 in
set_option maxHeartbeats 4000000 in
theorem light_any (v : Value) (ls : List (List (List UInt8))) (w : World) (h : Tss w v ls) (hls : ls.length ≤ 8) (hz : ∀ l ∈ ls, l.length < 140737488355328) (hzz : ∀ l ∈ ls, ∀ s ∈ l, s.length ≤ 140737488355328) :
    Calls Tryd.prog 9 #[v] w fun e w' => e = .returned (.bool (lightB ls)) ∧ w' = w := by
  have HZ : Hid (∀ l ∈ ls, l.length < 140737488355328) := hz
  have HZZ : Hid (∀ l ∈ ls, ∀ s ∈ l, s.length ≤ 140737488355328) := hzz
  obtain ⟨g, o, ad, cap, rfl, hcap, hne, hce⟩ := h
  have HN : Hid (ls ≠ [] → ad = some ⟨g, o, none⟩ ∧ g < w.heap.size) := hne
  have HC : Hid (∀ k l, ls[k]? = some l → ∃ vl, w.cell? ⟨g, o + k, none⟩ = some vl ∧ Tx w vl l) := hce
  clear hne hce hz hzz
  go_enter Tryd.func9, Tryd.ntmps9
  go_wp2_with fail
  go_loopw [3, 4] (fun v3 v4 wr => ∃ k m : Nat, v4 = .int .i64 k ∧ k ≤ ls.length ∧ v3 = .int .i64 m ∧ Hid (m = sumLs (ls.take k)) ∧ m ≤ k * 18295873486192640 ∧ Hid (∀ l ∈ ls.take k, l.length ≤ 130) ∧ wr = w) (fun _ v4 _ => ls.length - (intOf v4).toNat)
  case atStart => exact ⟨0, 0, rfl, by omega, rfl, rfl, by omega, fun l hl => by simp at hl, rfl⟩
  case round =>
    obtain ⟨k, m, rfl, hk, rfl, HM, hm, HA, hwr⟩ := hrel
    subst hwr
    by_cases hkl : k < ls.length
    · obtain ⟨l, hl⟩ : ∃ l, ls[k]? = some l := ⟨_, List.getElem?_eq_getElem hkl⟩
      obtain ⟨rfl, hg⟩ := HN.out (fun e => by rw [e] at hkl; simp at hkl)
      obtain ⟨vl, c0, htx⟩ := HC.out k l hl
      have hlm := List.mem_of_getElem? hl
      have HLZ : Hid (∀ s ∈ l, s.length ≤ 140737488355328) := HZZ.out l hlm
      have hll := HZ.out l hlm
      have HTX : Hid (Tx wr vl l) := htx
      have HS : Hid (sumLs (ls.take (k + 1)) = sumLs (ls.take k) + sumL l) := sumLs_take ls k l hl
      have HTA : Hid (ls.take (k + 1) = ls.take k ++ [l]) := by unfold Hid; rw [List.take_add_one, hl]; rfl
      have HLM : Hid (l ∈ ls) := hlm
      obtain ⟨adl, capl, rfl⟩ := htx.form
      clear htx hl hlm
      by_cases h130 : l.length > 130
      · go_wp2_with fail
        go_ret
        refine ⟨ret_bool ?_, rfl⟩
        cases e : lightB ls
        · rfl
        · have := ((lightB_iff ls).1 e).1 l HLM.out
          omega
      · go_wp2_with fail
        go_loopw [3, 5] (fun v3 v5 w2 => ∃ j m2 : Nat, v5 = .int .i64 j ∧ j ≤ l.length ∧ v3 = .int .i64 m2 ∧ Hid (m2 = m + sumL (l.take j)) ∧ m2 ≤ m + j * 140737488355328 ∧ w2 = wr) (fun _ v5 _ => l.length - (intOf v5).toNat)
        case atStart => exact ⟨0, m, rfl, by omega, rfl, rfl, by omega, rfl⟩
        case round =>
          obtain ⟨j, m2, rfl, hj, rfl, HM2, hm2, hw2⟩ := hrel
          obtain rfl := hw2.symm
          by_cases hjl : j < l.length
          · obtain ⟨s, hs⟩ : ∃ s, l[j]? = some s := ⟨_, List.getElem?_eq_getElem hjl⟩
            obtain ⟨gl, ol, cap', hv, hcc, hgl, hce⟩ := HTX.out.inRow (fun e => by rw [e] at hjl; simp at hjl)
            cases hv
            have c1 := hce j s hs
            have hsz : (⟨s.toArray⟩ : ByteArray).size ≤ 140737488355328 := by rw [str_size']; exact HLZ.out s (List.mem_of_getElem? hs)
            have HSZ : Hid ((⟨s.toArray⟩ : ByteArray).size = s.length) := str_size' s
            have hsl : s.length ≤ 140737488355328 := HLZ.out s (List.mem_of_getElem? hs)
            have HSS : Hid _ := sumL_take l j s hs
            have hm2b : m2 ≤ 1000000000000000000 := by omega
            clear hce hs
            go_wp2_with fail
            refine ⟨⟨j + 1, m2 + s.length, by simp, by omega, ?_, ?_, ?_, trivial⟩, by simp [intOf]; omega⟩
            · simp
            · have h1 := HSS.out
              have h2 := HM2.out
              show m2 + s.length = m + sumL (l.take (j + 1))
              omega
            · have := HSZ.out
              omega
          · have hjz : j = l.length := by omega
            subst hjz
            go_wp2_with fail
            go_roundw
            case rel =>
              refine ⟨k + 1, m2, by simp, by omega, rfl, ?_, by omega, ?_, trivial⟩
              · have h1 := HS.out
                have h2 := HM2.out
                have h3 := HM.out
                rw [List.take_length] at h2
                show m2 = sumLs (ls.take (k + 1))
                omega
              · intro q hq
                rw [HTA.out] at hq
                rcases List.mem_append.1 hq with hq | hq
                · exact HA.out q hq
                · simp at hq
                  subst hq
                  omega
            case measure => simp [intOf]; omega
    · have hkz : k = ls.length := by omega
      subst hkz
      have hA := HA.out
      have hM := HM.out
      rw [List.take_length] at hA hM
      have HR : Hid (lightB ls = decide (m ≤ 20000)) := by
        unfold Hid
        rw [Bool.eq_iff_iff, lightB_iff, decide_eq_true_eq, hM]
        exact ⟨fun h => h.2, fun h => ⟨hA, h⟩⟩
      clear hA hM
      go_wp2_with fail
      go_ret
      exact ⟨ret_bool (by rw [HR.out]; exact decide_eq_decide.2 (by omega)), rfl⟩
end Go.Proofs.YtdajacodfnidfaaDoor
