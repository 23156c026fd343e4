/- The document's own answers: Plain, closes, Live, has. -/
import Derived.Test.YtdajacodfnidfaaGreatDoorRefC
import Derived.Test.YtdajacodfnidfaaGreatDoorLive
namespace Go.Proofs.YtdajacodfnidfaaGreatDoor
open Go.RowKit Go.Shelf

theorem lt_owned {W : World} {B e : Nat} {v : Value} {l : List Lt} (h : W.ownsRow B e 2 v l.length (ltCells l)) : ∃ g ad cap, v = .slice ad l.length cap ∧ (l ≠ [] → ad = some ⟨g, 0, none⟩ ∧ l.length ≤ cap ∧ g < W.heap.size ∧ B ≤ g) ∧ LtAt W g 0 l := by
  rcases h.2 with ⟨hv, h0⟩ | ⟨g, cap, cur, hv, hb, hc, h1, _, h2, h3⟩
  · have hl : l = [] := List.eq_nil_of_length_eq_zero h0
    subst hl
    exact ⟨0, none, 0, hv, fun e => absurd rfl e, fun k x hx => by simp at hx⟩
  · refine ⟨g, _, cap, hv, fun _ => ⟨rfl, h1, (Array.getElem?_eq_some_iff.1 hc).1, hb⟩, fun k x hx => ?_⟩
    have hk := (List.getElem?_eq_some_iff.1 hx).1
    have key : ∀ j, j < 2 → W.cell? ⟨g, 0 + k * 2 + j, none⟩ = (ltCells l)[k * 2 + j]? := by
      intro j hj
      have e1 : W.cell? ⟨g, 0 + k * 2 + j, none⟩ = cur[k * 2 + j]? := by simp [World.cell?, hc]
      rw [e1, ← h3, List.getElem?_take_of_lt (by omega), Array.getElem?_toList]
    have hg : ∀ (l : List Lt) k x, l[k]? = some x → (ltCells l)[k * 2]? = some (.int .u8 x.1.toNat) ∧ (ltCells l)[k * 2 + 1]? = some (.bool x.2) := by
      intro l
      induction l with
      | nil => intro k x h; simp at h
      | cons y l ih =>
        intro k x h
        cases k with
        | zero => simp at h; subst h; exact ⟨rfl, rfl⟩
        | succ k =>
          have := ih k x (by simpa using h)
          rw [show (k + 1) * 2 = k * 2 + 2 by omega]
          exact this
    obtain ⟨g1, g2⟩ := hg l k x hx
    exact ⟨(key 0 (by omega)).trans g1, (key 1 (by omega)).trans g2⟩
theorem dd_get {l : List Lt} {k : Nat} {x : Lt} (h : l[k]? = some x) : (dd l)[k]? = some (x.1, !x.2) := by
  unfold dd
  rw [List.getElem?_map, h]
  rfl

set_option maxRecDepth 100000 in
set_option maxHeartbeats 2000000 in
theorem rplain_any (s : ByteArray) (hs : s.size < 4294967296) (w : World) :
    Calls Tryz.prog 43 #[.string s] w fun e w' => e = .returned (.string ⟨((letts s.data.toList).map Prod.fst).toArray⟩) ∧ Below w.heap.size w w' := by
  obtain ⟨i0, hi0, hz0, hz1, hz2⟩ := info_parts info5
  obtain ⟨L, hL⟩ : ∃ L, letts s.data.toList = L := ⟨_, rfl⟩
  have hLs : L.length < 4294967296 := by rw [← hL]; exact Nat.lt_of_le_of_lt (letts_length_le _) (by simpa using hs)
  rw [hL]
  have HL : Hid _ := hL
  clear hL
  obtain ⟨P, hP⟩ : ∃ P, L.map Prod.fst = P := ⟨_, rfl⟩
  rw [hP]
  have HP : Hid _ := hP
  clear hP
  go_enter Tryz.func43, Tryz.ntmps43
  go_wp2_with fail
  refine (rread_any s hs w).mono ?_
  rintro e w1 ⟨v, rfl, ho1, hb1⟩
  rw [HL.out] at ho1
  rw [← dd_length L] at ho1
  obtain ⟨g, ad, cap, rfl, hne, hlt⟩ := lt_owned ho1
  rw [dd_length] at hne ⊢
  clear ho1
  go_wp2_with fail
  go_loopw [3, 5] (fun v3 v5 wr => ∃ k : Nat, v5 = .int .i64 k ∧ k ≤ L.length ∧ Hid (wr.ownsRow w1.heap.size 5 1 v3 k (Lib.byteCells ((L.take k).map Prod.fst))) ∧ Below w1.heap.size w1 wr) (fun _ v5 _ => L.length - (intOf v5).toNat)
  case atStart => exact ⟨0, rfl, by omega, ⟨rfl, .inl ⟨rfl, rfl⟩⟩, Below.refl _ _⟩
  case round =>
    obtain ⟨k, rfl, hk, HO, hbr⟩ := hrel
    by_cases hkl : k < L.length
    · obtain ⟨x, hx⟩ : ∃ x, L[k]? = some x := ⟨_, List.getElem?_eq_getElem hkl⟩
      obtain ⟨rfl, hcap, hgw, _⟩ := hne (by intro e; have := dd_length L; rw [e] at this; simp at this; omega)
      have HS : Hid ((L.take (k + 1)).map Prod.fst = (L.take k).map Prod.fst ++ [x.1]) := by
        unfold Hid
        rw [take_snoc hx]; simp
      obtain ⟨q1, q2⟩ := hlt.below hbr hgw k _ (dd_get hx)
      simp only [Nat.zero_add] at q1 q2
      clear hx hne
      have HLT : Hid _ := hlt
      clear hlt
      have ho := HO.out
      have hba : ∀ o, Below w1.heap.size w1 (wr.alloc o) := fun o => hbr.alloc hbr.size o
      go_wp2_with (at_builtin; refine wpList_append_own _ rfl _ _ 56 rfl w1.heap.size 5 i0 (.int .u8 0) 1 1 Tryz.underlying56 hi0 hz0 hz1 hz2 rfl (by decide) _ _ _ rfl (ho.alloc _) ⟨wr.heap.size, 0, none⟩ 1 1 [.int .u8 (x.1.toNat : Int)] rfl rfl (cells_new _ [.int .u8 (x.1.toNat : Int)] _) (by simp [Value.oneCell']) (by have := maxLen_big; omega) (by omega) (hba _).size ?_; intro v' w5 hown' hgrow _)
      refine ⟨⟨k + 1, by simp, by omega, ?_, grown_any (hba _).size (hba _) (ho.alloc _) hgrow⟩, by simp [intOf]; omega⟩
      unfold Hid
      rw [HS.out, bcells_snoc]
      exact hown'
    · have hkz : k = L.length := by omega
      have e1 : L.take k = L := List.take_of_length_le (by omega)
      have ho := HO.out
      rw [e1, hkz] at ho
      have e2 : L.length = (L.map Prod.fst).length := by simp
      rw [e2, HP.out] at ho
      have hcv := conv_own ho
      clear hne hlt e1 e2 hkz ho
      go_wp2_with fail
      go_ret
      exact ⟨rfl, hb1.trans (hbr.mono hb1.size)⟩

/-- Where the set that begins at i ends. -/
def closesL (L : List Lt) (i : Nat) : Int := match (L.drop (i + 2)).findIdx? (isL · 93) with | some k => ((i + 2 + k : Nat) : Int) | none => -1

set_option maxRecDepth 100000 in
set_option maxHeartbeats 2000000 in
theorem rcloses_any (g o cap : Nat) (L : List Lt) (i : Nat) (hi : i < 4294967296) (hl : L.length < 4294967296) (_hcap : L.length ≤ cap) (w : World) (h : LtAt w g o (dd L)) :
    Calls Tryz.prog 74 #[.slice (some ⟨g, o, none⟩) L.length cap, .int .i64 i] w fun e w' => e = .returned (.int .i64 (closesL L i)) ∧ w' = w := by
  have H : Hid (LtAt w g o (dd L)) := h
  clear h
  obtain ⟨R, hR⟩ : ∃ R, closesL L i = R := ⟨_, rfl⟩
  have HR : Hid _ := hR
  rw [hR]
  clear hR
  go_enter Tryz.func74, Tryz.ntmps74
  go_wp2_with fail
  go_loopw [5] (fun ve wr => ∃ j : Nat, ve = .int .i64 ((i + 2 + j : Nat) : Int) ∧ Hid (∀ j' < j, ∀ x, L[i + 2 + j']? = some x → isL x 93 = false) ∧ wr = w) (fun ve _ => L.length - (intOf ve).toNat)
  case atStart => exact ⟨0, by simp, (fun j' h => by omega), rfl⟩
  case round =>
    obtain ⟨j, rfl, HF, hwr⟩ := hrel
    obtain rfl := hwr.symm
    by_cases hjl : i + 2 + j < L.length
    · obtain ⟨x, hx⟩ : ∃ x, L[i + 2 + j]? = some x := ⟨_, List.getElem?_eq_getElem hjl⟩
      obtain ⟨q1, q2⟩ := H.out _ _ (dd_get hx)
      dsimp only at q1 q2
      have e5 : ((x.1.toNat : Int) == 93) = (x.1 == 93) := beq_u8 x.1 93
      have HX : Hid _ := hx
      clear hx
      cases hq : isL x 93
      · have HF' : Hid (∀ j' < j + 1, ∀ x, L[i + 2 + j']? = some x → isL x 93 = false) := by
          intro j' hj' y hy
          by_cases e : j' = j
          · subst e
            have := HX.out.symm.trans hy
            simp at this
            rw [← this]; exact hq
          · exact HF.out j' (by omega) y hy
        cases hz : x.1 == 93
        · rw [hz] at e5
          clear hz hq
          go_wp2_with fail
          exact ⟨⟨j + 1, by congr 1, HF', trivial⟩, by simp [intOf]; omega⟩
        · have hl2 : x.2 = false := by
            unfold isL at hq
            rw [hz] at hq
            simpa using hq
          rw [hz] at e5
          rw [hl2] at q2
          clear hz hq
          go_wp2_with fail
          exact ⟨⟨j + 1, by congr 1, HF', trivial⟩, by simp [intOf]; omega⟩
      · have hz : (x.1 == 93) = true ∧ x.2 = true := by
          unfold isL at hq
          simp at hq
          exact ⟨by simpa using hq.2, hq.1⟩
        rw [hz.1] at e5
        rw [hz.2] at q2
        have HR2 : Hid (R = ((i + 2 + j : Nat) : Int)) := by
          unfold Hid
          rw [← HR.out]
          unfold closesL
          have hs : (L.drop (i + 2)).findIdx? (isL · 93) = some j := by
            refine List.findIdx?_eq_some_iff_getElem.2 ⟨by simp; omega, ?_, ?_⟩
            · have := HX.out
              rw [← List.getElem?_drop] at this
              rw [(List.getElem?_eq_some_iff.1 this).2]; exact hq
            · intro j' hj'
              have hjj : j' < (L.drop (i + 2)).length := by simp; omega
              have := HF.out j' hj' ((L.drop (i + 2))[j']) (by rw [← List.getElem?_drop, List.getElem?_eq_getElem hjj])
              simpa using this
          rw [hs]
        clear hz hq
        go_wp2_with fail
        go_ret
        exact ⟨by rw [HR2.out]; rfl, rfl⟩
    · have HR2 : Hid (R = -1) := by
        unfold Hid
        rw [← HR.out]
        unfold closesL
        have hs : (L.drop (i + 2)).findIdx? (isL · 93) = none := by
          refine List.findIdx?_eq_none_iff.2 fun x hx => ?_
          obtain ⟨j', hj'⟩ := List.getElem?_of_mem hx
          have h1 := (List.getElem?_eq_some_iff.1 hj').1
          rw [List.getElem?_drop] at hj'
          simp at h1
          exact HF.out j' (by omega) x hj'
        rw [hs]
      go_wp2_with fail
      go_ret
      exact ⟨by rw [HR2.out]; rfl, rfl⟩
end Go.Proofs.YtdajacodfnidfaaGreatDoor
