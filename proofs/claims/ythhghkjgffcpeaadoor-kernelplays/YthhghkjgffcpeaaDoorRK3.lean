/- The document's kernel: row, Reads, Names. -/
import Derived.Test.YthhghkjgffcpeaaDoorRK2
import Derived.Test.YthhghkjgffcpeaaDoorTexts
namespace Go.Proofs.YthhghkjgffcpeaaDoor
open Go.RowKit

variable {W W' : World} {K K' S : Nat → Prop} {xb : Nat} {fv rv tv : Value} {F : Fls} {X : List (Ev × Value)} {Y : List (Rw × Value)}
def idxR (Y : List (Rw × Value)) (name : Txt) (args : List Txt) : Option Nat := Y.findIdx? fun p => fits name args p.1

set_option maxRecDepth 100000 in
set_option maxHeartbeats 4000000 in
theorem rrow_any (name : Txt) (args : List Txt) (va : Value) (h : Rk W K xb fv rv tv F X) (hr : RwAt W rv Y) (hY : Y.length < 60000) (ha : Tx W va args) (hla : args.length < 4294967296) (hl : ∀ p ∈ Y, p.1.args.length < 4294967296) :
    Calls Tryd.prog 51 #[xP xb, str name, va] W fun e w' => e = .returned (.int .i64 (idxV (idxR Y name args))) ∧ Below W.heap.size W w' := by
  have HH : Hid (∀ W', Below W.heap.size W W' → Rk W' K xb fv rv tv F X) := fun W' hb => h.below hb
  have HR : Hid (∀ W', Below W.heap.size W W' → RwAt W' rv Y) := fun W' hb => hr.below hb (Nat.le_refl _)
  have HA : Hid (∀ W', Below W.heap.size W W' → Tx W' va args) := fun W' hb => ha.below hb (Nat.le_refl _)
  have HL : Hid (∀ p ∈ Y, p.1.args.length < 4294967296) := hl
  obtain ⟨ada, capa, rfl⟩ := ha.form
  obtain ⟨adr, capr, rfl⟩ := hr.form
  clear h ha hl hr
  go_enter Tryd.func51, Tryd.ntmps51
  go_wp2_with fail
  go_loopw [7, 8, 9] (fun v7 _ _ wr => ∃ k : Nat, v7 = .int .i64 k ∧ k ≤ Y.length ∧ Hid (∀ j q, j < k → Y[j]? = some q → fits name args q.1 = false) ∧ Below W.heap.size W wr) (fun v7 _ _ _ => Y.length - (intOf v7).toNat)
  case atStart => exact ⟨0, rfl, Nat.zero_le _, fun j q hj => absurd hj (Nat.not_lt_zero _), Below.refl _ _⟩
  case round =>
    obtain ⟨k, rfl, hk, HN, hbr⟩ := hrel
    have x1 := (HH.out _ hbr).xc.cell 1
    by_cases hkl : k < Y.length
    · obtain ⟨q, hq⟩ : ∃ q, Y[k]? = some q := ⟨_, List.getElem?_eq_getElem hkl⟩
      obtain ⟨g, o, cap', hv, hg, c0, c1, c2, c3, c4, c5, c6⟩ := (HR.out _ hbr).at hq
      cases hv
      have hqm := List.mem_of_getElem? hq
      have HT : Hid (∀ W', Below W.heap.size W W' → Tx W' q.2 q.1.args) := fun W' hb => (HR.out W' hb).2 q hqm
      have hql := HL.out q hqm
      have HQ : Hid (Y[k]? = some q) := hq
      obtain ⟨⟨nm, ars, an, re, co, ou, st⟩, lv⟩ := q
      obtain ⟨adl, capl, hlv⟩ := (HT.out _ hbr).form
      obtain rfl : lv = .slice adl ars.length capl := hlv
      clear hq hqm
      have hba : Below W.heap.size W (wr.alloc (.cells #[str nm, .slice adl ars.length capl, .bool an, .bool re, .bool co, str ou, .int .i64 st] 77)) := hbr.alloc hbr.size _
      have CN : Hid (Cel (wr.alloc (.cells #[str nm, .slice adl ars.length capl, .bool an, .bool re, .bool co, str ou, .int .i64 st] 77)) wr.heap.size 77 #[str nm, .slice adl ars.length capl, .bool an, .bool re, .bool co, str ou, .int .i64 st]) := Cel.new wr 77 _
      have HNX : Hid (fits name args ⟨nm, ars, an, re, co, ou, st⟩ = false → ∀ j q, j < k + 1 → Y[j]? = some q → fits name args q.1 = false) := fun hf j q hj hq => by
        by_cases hjk : j < k
        · exact HN.out j q hjk hq
        · obtain rfl : j = k := by omega
          rw [HQ.out] at hq
          cases hq
          exact hf
      have HIX : Hid (fits name args ⟨nm, ars, an, re, co, ou, st⟩ = true → idxR Y name args = some k) := fun hf => by
        unfold idxR
        rw [List.findIdx?_eq_some_iff_getElem]
        refine ⟨hkl, ?_, fun j hj => ?_⟩
        · rw [(List.getElem?_eq_some_iff.1 HQ.out).2]; exact hf
        · rw [HN.out j Y[j] hj (List.getElem?_eq_getElem _)]
          simp
      have HST : Hid (Calls Tryd.prog 31 #[.slice adl ars.length capl, .slice ada args.length capa] (wr.alloc (.cells #[str nm, .slice adl ars.length capl, .bool an, .bool re, .bool co, str ou, .int .i64 st] 77)) fun e w' => e = .returned (.bool (decide (ars = args))) ∧ Below (wr.alloc (.cells #[str nm, .slice adl ars.length capl, .bool an, .bool re, .bool co, str ou, .int .i64 st] 77)).heap.size (wr.alloc (.cells #[str nm, .slice adl ars.length capl, .bool an, .bool re, .bool co, str ou, .int .i64 st] 77)) w') := sameTexts_any _ _ _ _ _ (HT.out _ hba) (HA.out _ hba) hql hla
      go_wp2_with fail
      refine HST.out.mono ?_
      rintro e w2 ⟨rfl, hb2⟩
      have hb2w : Below W.heap.size W w2 := hba.trans (hb2.mono hba.size)
      have CN2 := CN.out.below hb2 (by simp)
      have z0 := CN2.cell 0
      have z2 := CN2.cell 2
      clear HST c0 c1 c2 c3 c4 c5 c6
      obtain ⟨sm, hsm⟩ : ∃ sm, decide (ars = args) = sm := ⟨_, rfl⟩
      rw [hsm]
      have HSM : Hid (decide (ars = args) = sm) := hsm
      clear hsm
      cases hn : (nm == name) with
      | false =>
        have HF : Hid (fits name args ⟨nm, ars, an, re, co, ou, st⟩ = false) := by unfold Hid fits; rw [hn]; rfl
        go_wp2_with fail
        exact ⟨⟨k + 1, by simp, by omega, HNX.out HF.out, hb2w⟩, by simp [intOf]; omega⟩
      | true =>
        cases an with
        | true =>
          have HF : Hid (idxR Y name args = some k) := HIX.out (by unfold fits; rw [hn]; rfl)
          go_wp2_with fail
          go_ret
          exact ⟨by rw [HF.out]; rfl, hb2w⟩
        | false =>
          cases sm with
          | true =>
            have HF : Hid (idxR Y name args = some k) := HIX.out (by unfold fits; rw [hn]; simpa using HSM.out)
            go_wp2_with fail
            go_ret
            exact ⟨by rw [HF.out]; rfl, hb2w⟩
          | false =>
            have HF : Hid (fits name args ⟨nm, ars, false, re, co, ou, st⟩ = false) := by unfold Hid fits; rw [hn]; simpa using HSM.out
            go_wp2_with fail
            exact ⟨⟨k + 1, by simp, by omega, HNX.out HF.out, hb2w⟩, by simp [intOf]; omega⟩
    · have hkz : k = Y.length := by omega
      have HF : Hid (idxR Y name args = none) := by
        unfold Hid idxR
        rw [List.findIdx?_eq_none_iff]
        intro q hq
        obtain ⟨j, hj⟩ := List.mem_iff_getElem?.1 hq
        exact HN.out j q (by have := (List.getElem?_eq_some_iff.1 hj).1; omega) hj
      subst hkz
      go_wp2_with fail
      go_ret
      exact ⟨by rw [HF.out]; rfl, hbr⟩
theorem rowOf_idx (Y : List (Rw × Value)) (name : Txt) (args : List Txt) : (idxR Y name args = none ∧ rowOf (Y.map Prod.fst) name args = none) ∨ ∃ i p, idxR Y name args = some i ∧ Y[i]? = some p ∧ rowOf (Y.map Prod.fst) name args = some p.1 := by
  cases hi : idxR Y name args with
  | none =>
    left
    refine ⟨rfl, ?_⟩
    unfold idxR at hi
    rw [List.findIdx?_eq_none_iff] at hi
    refine rowOf_none _ _ _ fun j q _ hq => ?_
    rw [List.getElem?_map] at hq
    obtain ⟨p, hp, rfl⟩ := Option.map_eq_some_iff.1 hq
    exact hi p (List.mem_of_getElem? hp)
  | some i =>
    right
    unfold idxR at hi
    obtain ⟨hil, hf, hn⟩ := List.findIdx?_eq_some_iff_getElem.1 hi
    refine ⟨i, Y[i], rfl, List.getElem?_eq_getElem hil, rowOf_some _ _ _ i _ (by rw [List.getElem?_map, List.getElem?_eq_getElem hil]; rfl) hf fun j q hj hq => ?_⟩
    rw [List.getElem?_map] at hq
    obtain ⟨p, hp, rfl⟩ := Option.map_eq_some_iff.1 hq
    have := hn j hj
    rw [(List.getElem?_eq_some_iff.1 hp).2] at this
    simpa using this

set_option maxRecDepth 100000 in
set_option maxHeartbeats 2000000 in
theorem rreads_any (name : Txt) (args : List Txt) (va : Value) (h : Rk W K xb fv rv tv F X) (hr : RwAt W rv Y) (hY : Y.length < 60000) (ha : Tx W va args) (hla : args.length < 4294967296) (hl : ∀ p ∈ Y, p.1.args.length < 4294967296) (o : Option Rw) (ho : rowOf (Y.map Prod.fst) name args = o) :
    Calls Tryd.prog 19 #[xP xb, str name, va] W fun e w' => e = .returned (.bool (readsB o)) ∧ Below W.heap.size W w' := by
  have HC : Hid (Calls Tryd.prog 51 #[xP xb, str name, va] W fun e w' => e = .returned (.int .i64 (idxV (idxR Y name args))) ∧ Below W.heap.size W w') := rrow_any name args va h hr hY ha hla hl
  have HH : Hid (∀ W', Below W.heap.size W W' → Rk W' K xb fv rv tv F X) := fun W' hb => h.below hb
  have HR : Hid (∀ W', Below W.heap.size W W' → RwAt W' rv Y) := fun W' hb => hr.below hb (Nat.le_refl _)
  subst ho
  clear h hr ha hl
  go_enter Tryd.func19, Tryd.ntmps19
  go_wp2_with fail
  refine HC.out.mono ?_
  rintro e w2 ⟨rfl, hb2⟩
  have x1 := (HH.out _ hb2).xc.cell 1
  rcases rowOf_idx Y name args with ⟨hi, hro⟩ | ⟨i, p, hi, hp, hro⟩
  · have HO : Hid (rowOf (Y.map Prod.fst) name args = none) := hro
    rw [hi]
    clear hi hro
    simp only [idxV]
    go_wp2_with fail
    go_ret
    exact ⟨by rw [HO.out]; rfl, hb2⟩
  · have HO : Hid (rowOf (Y.map Prod.fst) name args = some p.1) := hro
    rw [hi]
    have hil := (List.getElem?_eq_some_iff.1 hp).1
    obtain ⟨g, o, cap', hv, hg, c0, c1, c2, c3, c4, c5, c6⟩ := (HR.out _ hb2).at hp
    subst hv
    clear hi hro hp c0 c1 c2 c4 c5 c6
    simp only [idxV]
    go_wp2_with fail
    go_ret
    exact ⟨by rw [HO.out]; rfl, hb2⟩

set_option maxRecDepth 100000 in
set_option maxHeartbeats 2000000 in
theorem rnames_any (h : Rk W K xb fv rv tv F X) (hF : F.length < 60000) :
    Calls Tryd.prog 33 #[xP xb] W fun e w' => ∃ v', e = .returned v' ∧ w'.ownsRow W.heap.size 9 1 v' (F.map Prod.fst).length (txV (F.map Prod.fst)) ∧ Below W.heap.size W w' := by
  obtain ⟨i0, hi0, hz0, hz1, hz2⟩ := info_parts info9
  have HH : Hid (∀ W', Below W.heap.size W W' → Rk W' K xb fv rv tv F X) := fun W' hb => h.below hb
  obtain ⟨adf, capf, rfl⟩ := owns_slice h.fr
  clear h
  go_enter Tryd.func33, Tryd.ntmps33
  go_wp2_with fail
  go_loopw [3, 4] (fun v3 v4 wr => ∃ k : Nat, v4 = .int .i64 k ∧ k ≤ F.length ∧ Hid (wr.ownsRow W.heap.size 9 1 v3 k (txV ((F.take k).map Prod.fst))) ∧ Below W.heap.size W wr) (fun _ v4 _ => F.length - (intOf v4).toNat)
  case atStart => exact ⟨0, rfl, Nat.zero_le _, ⟨rfl, .inl ⟨rfl, rfl⟩⟩, Below.refl _ _⟩
  case round =>
    obtain ⟨k, rfl, hk, HO, hbr⟩ := hrel
    have x0 := (HH.out _ hbr).xc.cell 0
    by_cases hkl : k < F.length
    · obtain ⟨p, hp⟩ : ∃ p, F[k]? = some p := ⟨_, List.getElem?_eq_getElem hkl⟩
      obtain ⟨g, cap, hv, hcap, d0, d1⟩ := fl_at (HH.out _ hbr).fr hp
      cases hv
      have HS : Hid (txV ((F.take (k + 1)).map Prod.fst) = txV ((F.take k).map Prod.fst) ++ [str p.1]) := by
        unfold Hid
        rw [List.take_add_one, hp]
        simp [txV]
      clear hp d1
      have ho := HO.out
      have hba : Below W.heap.size W (wr.alloc (.cells #[str p.1] 9)) := hbr.alloc hbr.size _
      go_wp2_with (at_builtin; refine wpList_append_own _ rfl _ _ 39 rfl W.heap.size 9 i0 (.string ⟨#[]⟩) 1 16 Tryd.underlying39 hi0 hz0 hz1 hz2 rfl (by decide) _ _ _ rfl (ho.alloc _) ⟨wr.heap.size, 0, none⟩ 1 1 [str p.1] rfl rfl (cells_new _ [str p.1] _) (by simp [Value.oneCell']) (by have := maxLen_big; omega) (by omega) hba.size ?_; intro v' w5 hown' hgrow _)
      refine ⟨⟨k + 1, by simp, by omega, ?_, grown_own hba.size hba (ho.alloc _) hgrow⟩, by simp [intOf]; omega⟩
      unfold Hid
      rw [HS.out]
      exact hown'
    · have hkz : k = F.length := by omega
      subst hkz
      have ho := HO.out
      rw [List.take_length] at ho
      go_wp2_with fail
      go_ret
      exact ⟨_, rfl, by rw [List.length_map]; exact ho, hbr⟩
end Go.Proofs.YthhghkjgffcpeaaDoor
