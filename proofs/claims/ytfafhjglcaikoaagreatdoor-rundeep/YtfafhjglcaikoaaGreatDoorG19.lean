/- SameTexts; the chapter's examples. -/
import Derived.Test.YtfafhjglcaikoaaGreatDoorLPieces
import Derived.Deep.RegionHeld3
import Derived.Test.YtfafhjglcaikoaaGreatDoorG2
/-! Matching. -/
namespace Go.Proofs.YtfafhjglcaikoaaGreatDoor
open Go.RowKit Go.Shelf

/-- From cell 0 of block g on lie these pieces. -/
def PcAt (W : World) (g : Nat) (l : List Pc) : Prop := ∀ k p, l[k]? = some p → W.cell? ⟨g, k * 5, none⟩ = some (.bool p.1) ∧ ∀ j, j < 4 → W.cell? ⟨g, k * 5 + 1 + j, none⟩ = some (wVL p.2 j)
theorem PcAt.below {W W' : World} {g B : Nat} {l : List Pc} (h : PcAt W g l) (hb : Below B W W') (hg : l ≠ [] → g < B) : PcAt W' g l := fun k p hp => by
  have hg' := hg (fun e => by rw [e] at hp; simp at hp)
  exact ⟨(hb.cell (p := ⟨g, k * 5, none⟩) hg').trans (h k p hp).1, fun j hj => (hb.cell (p := ⟨g, k * 5 + 1 + j, none⟩) hg').trans ((h k p hp).2 j hj)⟩
theorem pcCells_get : ∀ (l : List Pc) (k : Nat) (p : Pc), l[k]? = some p → ∀ j, j < 5 → (pcCells l)[k * 5 + j]? = (pcC p)[j]?
  | [], k, p, h => by simp at h
  | q :: l, 0, p, h => by
    intro j hj
    simp at h; subst h
    simp only [pcCells, List.flatMap_cons, Nat.zero_mul, Nat.zero_add]
    rw [List.getElem?_append_left (by simp [pcC]; omega)]
  | q :: l, k + 1, p, h => by
    intro j hj
    have ih := pcCells_get l k p (by simpa using h) j hj
    have hl : (pcC q).length = 5 := rfl
    simp only [pcCells, List.flatMap_cons] at ih ⊢
    rw [List.getElem?_append_right (by omega), hl, show (k + 1) * 5 + j - 5 = k * 5 + j by omega]
    exact ih
theorem PcAt.owned {W : World} {B : Nat} {v : Value} {l : List Pc} (h : W.ownsRow B 313 5 v l.length (pcCells l)) : ∃ g ad cap, v = .slice ad l.length cap ∧ (l ≠ [] → ad = some ⟨g, 0, none⟩) ∧ l.length ≤ cap ∧ PcAt W g l ∧ (l ≠ [] → g < W.heap.size) := by
  rcases h.2 with ⟨hv, h0⟩ | ⟨g, cap, cur, hv, hb, hc, h1, _, h2, h3⟩
  · have hl : l = [] := List.eq_nil_of_length_eq_zero h0
    subst hl
    exact ⟨0, none, 0, hv, fun e => absurd rfl e, Nat.le_refl _, fun k x hx => by simp at hx, fun e => absurd rfl e⟩
  · refine ⟨g, some ⟨g, 0, none⟩, cap, hv, fun _ => rfl, h1, fun k p hp => ?_, fun _ => (Array.getElem?_eq_some_iff.1 hc).1⟩
    have hk := (List.getElem?_eq_some_iff.1 hp).1
    have key : ∀ j, j < 5 → W.cell? ⟨g, k * 5 + j, none⟩ = (pcC p)[j]? := by
      intro j hj
      have e1 : W.cell? ⟨g, k * 5 + j, none⟩ = cur[k * 5 + j]? := by simp [World.cell?, hc]
      rw [e1, ← pcCells_get l k p hp j hj, ← h3, List.getElem?_take_of_lt (by omega), Array.getElem?_toList]
    refine ⟨key 0 (by omega), fun j hj => ?_⟩
    rw [show k * 5 + 1 + j = k * 5 + (1 + j) by omega, key (1 + j) (by omega)]
    match j, hj with
    | 0, _ => rfl
    | 1, _ => rfl
    | 2, _ => rfl
    | 3, _ => rfl

/-- Where the search stands, in the program's variables. -/
def MtRel (w : World) (l : List Pc) (s : ByteArray) (v5 v6 v7 v8 : Value) (wr : World) : Prop :=
  ∃ (nx a st tk : Nat) (has : Bool), v5 = .int .i64 nx ∧ v6 = .int .i64 a ∧ v7 = .int .i64 (if has then (st : Int) else -1) ∧ v8 = .int .i64 tk ∧ Hid (Stand l s.data.toList nx a st tk has) ∧ nx ≤ l.length ∧ a ≤ s.size ∧ tk ≤ a ∧ (has = true → st < nx) ∧ Below w.heap.size w wr

def mtM (m n : Nat) (v5 v8 : Value) : Nat := (n - (intOf v8).toNat) * (m + 1) + (m - (intOf v5).toNat)

set_option maxRecDepth 100000 in
set_option maxHeartbeats 8000000 in
theorem matches_any (g cap : Nat) (ad : Option Addr) (l : List Pc) (s : ByteArray) (hs : s.size < 4294967296) (hl : l.length < 4294967296) (had : l ≠ [] → ad = some ⟨g, 0, none⟩) (_hcap : l.length ≤ cap) (w : World) (h : PcAt w g l) (hgw : l ≠ [] → g < w.heap.size) :
    Calls Tryz.prog 217 #[.slice ad l.length cap, .string s] w fun e w' => e = .returned (.bool (mt l s.data.toList)) ∧ Below w.heap.size w w' := by
  have H : Hid (PcAt w g l) := h
  clear h
  go_enter Tryz.func217, Tryz.ntmps217
  go_wp2
  go_loopw [5, 6, 7, 8] (fun v5 v6 v7 v8 wr => MtRel w l s v5 v6 v7 v8 wr) (fun v5 _ _ v8 _ => mtM l.length s.size v5 v8)
  case atStart => exact ⟨0, 0, 0, 0, false, rfl, rfl, rfl, rfl, Stand.start _ _ _ _, by omega, by omega, by omega, fun e => (by cases e), Below.refl _ _⟩
  case round =>
    obtain ⟨nx, a, st, tk, has, rfl, rfl, rfl, rfl, hst, hnl, has_, htk, hsn, hb⟩ := hrel
    by_cases hlt : a < s.size
    · have hc := s_get s a hlt
      have HC : Hid _ := hc
      clear hc
      by_cases hnx : nx < l.length
      · have hne : l ≠ [] := fun e => by rw [e] at hnx; simp at hnx
        obtain rfl := had hne
        obtain ⟨p, hp⟩ : ∃ p, l[nx]? = some p := ⟨_, List.getElem?_eq_getElem hnx⟩
        obtain ⟨pm, pf⟩ := p
        obtain ⟨q1, q2⟩ := (PcAt.below H.out hb hgw) nx (pm, pf) hp
        have HP : Hid _ := hp
        have Q2 : Hid (∀ j, j < 4 → wr.drew.cell? ⟨g, nx * 5 + 1 + j, none⟩ = some (wVL pf j)) := q2
        clear hp q2
        simp only at q1
        have hst7 : (-1 : Int) ≤ (if has then (st : Int) else -1) ∧ (if has then (st : Int) else -1) < 4294967296 := by
          cases has
          · simp
          · have := hsn rfl; simp; omega
        have hsn : Hid (has = true → st < nx) := hsn
        generalize hV : (if has then (st : Int) else -1) = V at hst7 ⊢
        have HV : Hid _ := hV
        clear hV
        cases pm
        · cases hf : pf s[a].toNat
          · go_wp2
            refine wp_region_any (by kernel_rfl) ?_
            try (change wpAny _ _ _ _ _ _ _ (World.drew _))
            refine wpAny_take (i := 0) (v := .int .i64 (nx : Int)) rfl (by kernel_rfl) (by kernel_rfl) (by kernel_rfl) (fun _ _ _ h => h) (Or.inl ⟨by rfl, by intro wz; go_simp⟩) ?_
            try simp only [Act.put, List.getElem_toArray, List.getElem_cons_zero, List.setIfInBounds_toArray, List.set_cons_zero, List.set_cons_succ]
            refine wpAny_take (i := 1) (v := .slice (some ⟨g, 0, none⟩) l.length cap) rfl (by kernel_rfl) (by kernel_rfl) (by kernel_rfl) (fun _ _ _ h => h) (Or.inl ⟨by rfl, by intro wz; go_simp⟩) ?_
            try simp only [Act.put, List.getElem_toArray, List.getElem_cons_succ, List.getElem_cons_zero, List.setIfInBounds_toArray, List.set_cons_zero, List.set_cons_succ]
            refine wpAny_take (i := 2) (v := .int .i64 (l.length : Int)) rfl (by kernel_rfl) (by kernel_rfl) (by kernel_rfl) (fun _ _ _ h => h) (Or.inl ⟨by rfl, by intro wz; go_simp⟩) ?_
            try simp only [Act.put, List.getElem_toArray, List.getElem_cons_succ, List.getElem_cons_zero, List.setIfInBounds_toArray, List.set_cons_zero, List.set_cons_succ]
            refine wpAny_take (i := 3) (v := .bool true) rfl (by kernel_rfl) (by kernel_rfl) (by kernel_rfl) (fun _ _ _ h => h) (Or.inl ⟨by rfl, by intro wz; go_simp⟩) ?_
            try simp only [Act.put, List.getElem_toArray, List.getElem_cons_succ, List.getElem_cons_zero, List.setIfInBounds_toArray, List.set_cons_zero, List.set_cons_succ]
            refine wpAny_take (i := 4) (v := .bool true) rfl (by kernel_rfl) (by kernel_rfl) (by kernel_rfl) (fun _ _ _ h => h) (Or.inl ⟨by rfl, by intro wz; go_simp⟩) ?_
            try simp only [Act.put, List.getElem_toArray, List.getElem_cons_succ, List.getElem_cons_zero, List.setIfInBounds_toArray, List.set_cons_zero, List.set_cons_succ]
            refine wpAny_take (i := 5) (v := .slice (some ⟨g, 0, none⟩) l.length cap) rfl (by kernel_rfl) (by kernel_rfl) (by kernel_rfl) (fun _ _ _ h => h) (Or.inl ⟨by rfl, by intro wz; go_simp⟩) ?_
            try simp only [Act.put, List.getElem_toArray, List.getElem_cons_succ, List.getElem_cons_zero, List.setIfInBounds_toArray, List.set_cons_zero, List.set_cons_succ]
            refine wpAny_take (i := 6) (v := .int .i64 (nx : Int)) rfl (by kernel_rfl) (by kernel_rfl) (by kernel_rfl) (fun _ _ _ h => h) (Or.inl ⟨by rfl, by intro wz; go_simp⟩) ?_
            try simp only [Act.put, List.getElem_toArray, List.getElem_cons_succ, List.getElem_cons_zero, List.setIfInBounds_toArray, List.set_cons_zero, List.set_cons_succ]
            refine wpAny_take (i := 7) (v := .pointer (some ⟨g, nx * 5, none⟩)) rfl (by kernel_rfl) (by kernel_rfl) (by kernel_rfl) (fun _ _ _ h => h) (Or.inl ⟨by rfl, by intro wz; go_simp⟩) ?_
            try simp only [Act.put, List.getElem_toArray, List.getElem_cons_succ, List.getElem_cons_zero, List.setIfInBounds_toArray, List.set_cons_zero, List.set_cons_succ]
            refine wpAny_take (i := 8) (v := .pointer (some ⟨g, nx * 5 + 1, none⟩)) rfl (by kernel_rfl) (by kernel_rfl) (by kernel_rfl) (fun _ _ _ h => h) (Or.inl ⟨by rfl, by intro wz; go_simp⟩) ?_
            try simp only [Act.put, List.getElem_toArray, List.getElem_cons_succ, List.getElem_cons_zero, List.setIfInBounds_toArray, List.set_cons_zero, List.set_cons_succ]
            refine wpAny_take (i := 9) (v := .string s) rfl (by kernel_rfl) (by kernel_rfl) (by kernel_rfl) (fun _ _ _ h => h) (Or.inl ⟨by rfl, by intro wz; go_simp⟩) ?_
            try simp only [Act.put, List.getElem_toArray, List.getElem_cons_succ, List.getElem_cons_zero, List.setIfInBounds_toArray, List.set_cons_zero, List.set_cons_succ]
            refine wpAny_take (i := 10) (v := .int .i64 (a : Int)) rfl (by kernel_rfl) (by kernel_rfl) (by kernel_rfl) (fun _ _ _ h => h) (Or.inl ⟨by rfl, by intro wz; go_simp⟩) ?_
            try simp only [Act.put, List.getElem_toArray, List.getElem_cons_succ, List.getElem_cons_zero, List.setIfInBounds_toArray, List.set_cons_zero, List.set_cons_succ]
            refine wpAny_take (i := 11) (v := .int .u8 (s[a].toNat : Int)) rfl (by kernel_rfl) (by kernel_rfl) (by kernel_rfl) (fun _ _ _ h => h) (Or.inl ⟨by rfl, by intro wz; go_simp⟩) ?_
            try simp only [Act.put, List.getElem_toArray, List.getElem_cons_succ, List.getElem_cons_zero, List.setIfInBounds_toArray, List.set_cons_zero, List.set_cons_succ]
            refine wpAny_ready (rs := [12]) (by kernel_rfl) (by simp) ?_
            refine AllReady.cons rfl (fun K hK => ?_) ?_
            · go_simp
              refine (has_any g (nx * 5 + 1) pf s[a] _ Q2.out).mono ?_
              rintro e w2 ⟨rfl, hw2⟩
              obtain rfl := hw2.symm
              rw [hf]
              go_wp2_with fail
              try simp only [Act.put, List.getElem_toArray, List.getElem_cons_succ, List.getElem_cons_zero, List.setIfInBounds_toArray, List.set_cons_zero, List.set_cons_succ]
              refine wpAny_take (i := 13) (v := .bool false) rfl (by kernel_rfl) (by kernel_rfl) (by kernel_rfl) (fun _ _ _ h => h) (Or.inl ⟨by rfl, by intro wz; go_simp⟩) ?_
              try simp only [Act.put, List.getElem_toArray, List.getElem_cons_succ, List.getElem_cons_zero, List.setIfInBounds_toArray, List.set_cons_zero, List.set_cons_succ]
              refine wpAny_take (i := 14) (v := .bool false) rfl (by kernel_rfl) (by kernel_rfl) (by kernel_rfl) (fun _ _ _ h => h) (Or.inl ⟨by rfl, by intro wz; go_simp⟩) ?_
              try simp only [Act.put, List.getElem_toArray, List.getElem_cons_succ, List.getElem_cons_zero, List.setIfInBounds_toArray, List.set_cons_zero, List.set_cons_succ]
              refine wpAny_done (by kernel_rfl) ?_ _
              go_wp2
              · have h0V : (0 : Int) ≤ V := by assumption
                obtain ⟨rfl, hVs⟩ : has = true ∧ V = (st : Int) := by
                  have h3 := HV.out
                  cases has
                  · simp at h3; omega
                  · simp at h3; exact ⟨rfl, h3.symm⟩
                subst hVs
                refine ⟨⟨st + 1, tk + 1, st, tk + 1, true, by simp, by simp, by simp, by simp, hst.out.back HC.out (show stuck l nx s[a] by unfold stuck; rw [HP.out]; exact ⟨rfl, hf⟩), by have := hsn.out rfl; omega, by omega, Nat.le_refl _, fun _ => by omega, hb.drew⟩, ?_⟩
                have := hsn.out rfl
                simp only [mtM, intOf]
                have e1 : s.size - tk = (s.size - (tk + 1)) + 1 := by omega
                have e3 : ((st : Int) + 1).toNat = st + 1 := by omega
                have e4 : ((tk : Int) + 1).toNat = tk + 1 := by omega
                have e5 : ((nx : Int)).toNat = nx := by omega
                have e6 : ((tk : Int)).toNat = tk := by omega
                rw [e3, e4, e5, e6, e1, Nat.succ_mul]
                omega
              · have h0V : ¬ (0 : Int) ≤ V := by first | assumption | omega
                obtain rfl : has = false := by
                  have h3 := HV.out
                  cases has
                  · rfl
                  · simp at h3; omega
                go_ret
                exact ⟨ret_bool (hst.out.fails HC.out (show stuck l nx s[a] by unfold stuck; rw [HP.out]; exact ⟨rfl, hf⟩)).symm, hb.drew⟩
            exact AllReady.nil
          · go_wp2
            refine wp_region_any (by kernel_rfl) ?_
            try (change wpAny _ _ _ _ _ _ _ (World.drew _))
            refine wpAny_take (i := 0) (v := .int .i64 (nx : Int)) rfl (by kernel_rfl) (by kernel_rfl) (by kernel_rfl) (fun _ _ _ h => h) (Or.inl ⟨by rfl, by intro wz; go_simp⟩) ?_
            try simp only [Act.put, List.getElem_toArray, List.getElem_cons_zero, List.setIfInBounds_toArray, List.set_cons_zero, List.set_cons_succ]
            refine wpAny_take (i := 1) (v := .slice (some ⟨g, 0, none⟩) l.length cap) rfl (by kernel_rfl) (by kernel_rfl) (by kernel_rfl) (fun _ _ _ h => h) (Or.inl ⟨by rfl, by intro wz; go_simp⟩) ?_
            try simp only [Act.put, List.getElem_toArray, List.getElem_cons_succ, List.getElem_cons_zero, List.setIfInBounds_toArray, List.set_cons_zero, List.set_cons_succ]
            refine wpAny_take (i := 2) (v := .int .i64 (l.length : Int)) rfl (by kernel_rfl) (by kernel_rfl) (by kernel_rfl) (fun _ _ _ h => h) (Or.inl ⟨by rfl, by intro wz; go_simp⟩) ?_
            try simp only [Act.put, List.getElem_toArray, List.getElem_cons_succ, List.getElem_cons_zero, List.setIfInBounds_toArray, List.set_cons_zero, List.set_cons_succ]
            refine wpAny_take (i := 3) (v := .bool true) rfl (by kernel_rfl) (by kernel_rfl) (by kernel_rfl) (fun _ _ _ h => h) (Or.inl ⟨by rfl, by intro wz; go_simp⟩) ?_
            try simp only [Act.put, List.getElem_toArray, List.getElem_cons_succ, List.getElem_cons_zero, List.setIfInBounds_toArray, List.set_cons_zero, List.set_cons_succ]
            refine wpAny_take (i := 4) (v := .bool true) rfl (by kernel_rfl) (by kernel_rfl) (by kernel_rfl) (fun _ _ _ h => h) (Or.inl ⟨by rfl, by intro wz; go_simp⟩) ?_
            try simp only [Act.put, List.getElem_toArray, List.getElem_cons_succ, List.getElem_cons_zero, List.setIfInBounds_toArray, List.set_cons_zero, List.set_cons_succ]
            refine wpAny_take (i := 5) (v := .slice (some ⟨g, 0, none⟩) l.length cap) rfl (by kernel_rfl) (by kernel_rfl) (by kernel_rfl) (fun _ _ _ h => h) (Or.inl ⟨by rfl, by intro wz; go_simp⟩) ?_
            try simp only [Act.put, List.getElem_toArray, List.getElem_cons_succ, List.getElem_cons_zero, List.setIfInBounds_toArray, List.set_cons_zero, List.set_cons_succ]
            refine wpAny_take (i := 6) (v := .int .i64 (nx : Int)) rfl (by kernel_rfl) (by kernel_rfl) (by kernel_rfl) (fun _ _ _ h => h) (Or.inl ⟨by rfl, by intro wz; go_simp⟩) ?_
            try simp only [Act.put, List.getElem_toArray, List.getElem_cons_succ, List.getElem_cons_zero, List.setIfInBounds_toArray, List.set_cons_zero, List.set_cons_succ]
            refine wpAny_take (i := 7) (v := .pointer (some ⟨g, nx * 5, none⟩)) rfl (by kernel_rfl) (by kernel_rfl) (by kernel_rfl) (fun _ _ _ h => h) (Or.inl ⟨by rfl, by intro wz; go_simp⟩) ?_
            try simp only [Act.put, List.getElem_toArray, List.getElem_cons_succ, List.getElem_cons_zero, List.setIfInBounds_toArray, List.set_cons_zero, List.set_cons_succ]
            refine wpAny_take (i := 8) (v := .pointer (some ⟨g, nx * 5 + 1, none⟩)) rfl (by kernel_rfl) (by kernel_rfl) (by kernel_rfl) (fun _ _ _ h => h) (Or.inl ⟨by rfl, by intro wz; go_simp⟩) ?_
            try simp only [Act.put, List.getElem_toArray, List.getElem_cons_succ, List.getElem_cons_zero, List.setIfInBounds_toArray, List.set_cons_zero, List.set_cons_succ]
            refine wpAny_take (i := 9) (v := .string s) rfl (by kernel_rfl) (by kernel_rfl) (by kernel_rfl) (fun _ _ _ h => h) (Or.inl ⟨by rfl, by intro wz; go_simp⟩) ?_
            try simp only [Act.put, List.getElem_toArray, List.getElem_cons_succ, List.getElem_cons_zero, List.setIfInBounds_toArray, List.set_cons_zero, List.set_cons_succ]
            refine wpAny_take (i := 10) (v := .int .i64 (a : Int)) rfl (by kernel_rfl) (by kernel_rfl) (by kernel_rfl) (fun _ _ _ h => h) (Or.inl ⟨by rfl, by intro wz; go_simp⟩) ?_
            try simp only [Act.put, List.getElem_toArray, List.getElem_cons_succ, List.getElem_cons_zero, List.setIfInBounds_toArray, List.set_cons_zero, List.set_cons_succ]
            refine wpAny_take (i := 11) (v := .int .u8 (s[a].toNat : Int)) rfl (by kernel_rfl) (by kernel_rfl) (by kernel_rfl) (fun _ _ _ h => h) (Or.inl ⟨by rfl, by intro wz; go_simp⟩) ?_
            try simp only [Act.put, List.getElem_toArray, List.getElem_cons_succ, List.getElem_cons_zero, List.setIfInBounds_toArray, List.set_cons_zero, List.set_cons_succ]
            refine wpAny_ready (rs := [12]) (by kernel_rfl) (by simp) ?_
            refine AllReady.cons rfl (fun K hK => ?_) ?_
            · go_simp
              refine (has_any g (nx * 5 + 1) pf s[a] _ Q2.out).mono ?_
              rintro e w2 ⟨rfl, hw2⟩
              obtain rfl := hw2.symm
              rw [hf]
              go_wp2_with fail
              try simp only [Act.put, List.getElem_toArray, List.getElem_cons_succ, List.getElem_cons_zero, List.setIfInBounds_toArray, List.set_cons_zero, List.set_cons_succ]
              refine wpAny_take (i := 13) (v := .bool true) rfl (by kernel_rfl) (by kernel_rfl) (by kernel_rfl) (fun _ _ _ h => h) (Or.inl ⟨by rfl, by intro wz; go_simp⟩) ?_
              try simp only [Act.put, List.getElem_toArray, List.getElem_cons_succ, List.getElem_cons_zero, List.setIfInBounds_toArray, List.set_cons_zero, List.set_cons_succ]
              refine wpAny_take (i := 14) (v := .bool true) rfl (by kernel_rfl) (by kernel_rfl) (by kernel_rfl) (fun _ _ _ h => h) (Or.inl ⟨by rfl, by intro wz; go_simp⟩) ?_
              try simp only [Act.put, List.getElem_toArray, List.getElem_cons_succ, List.getElem_cons_zero, List.setIfInBounds_toArray, List.set_cons_zero, List.set_cons_succ]
              refine wpAny_done (by kernel_rfl) ?_ _
              go_wp2
              refine ⟨⟨nx + 1, a + 1, st, tk, has, by simp, by simp, by rw [HV.out], rfl, hst.out.one HP.out HC.out rfl hf, by omega, by omega, by omega, fun h => by have := hsn.out h; omega, hb.drew⟩, ?_⟩
              simp only [mtM, intOf]
              omega
            exact AllReady.nil
        · go_wp2
          refine ⟨⟨nx + 1, a, nx, a, true, by simp, rfl, by simp, rfl, hst.out.star HP.out, by omega, by omega, Nat.le_refl _, fun _ => by omega, hb⟩, ?_⟩
          simp only [mtM, intOf]
          have e1 : (s.size - ((a : Int)).toNat) * (l.length + 1) ≤ (s.size - ((tk : Int)).toNat) * (l.length + 1) := Nat.mul_le_mul_right _ (by omega)
          omega
      · have hnl2 : nx = l.length := by omega
        have hst7 : (-1 : Int) ≤ (if has then (st : Int) else -1) ∧ (if has then (st : Int) else -1) < 4294967296 := by
          cases has
          · simp
          · have := hsn rfl; simp; omega
        have hsn : Hid (has = true → st < nx) := hsn
        generalize hV : (if has then (st : Int) else -1) = V at hst7 ⊢
        have HV : Hid _ := hV
        clear hV
        go_wp2
        go_region
        all_goals go_wp2
        · have h0V : (0 : Int) ≤ V := by assumption
          obtain ⟨rfl, hVs⟩ : has = true ∧ V = (st : Int) := by
            have h3 := HV.out
            cases has
            · simp at h3; omega
            · simp at h3; exact ⟨rfl, h3.symm⟩
          subst hVs
          refine ⟨⟨st + 1, tk + 1, st, tk + 1, true, by simp, by simp, by simp, by simp, hst.out.back HC.out (show stuck l nx s[a] by unfold stuck; rw [List.getElem?_eq_none (by omega)]; trivial), by have := hsn.out rfl; omega, by omega, Nat.le_refl _, fun _ => by omega, hb.drew⟩, ?_⟩
          have := hsn.out rfl
          simp only [mtM, intOf]
          have e1 : s.size - tk = (s.size - (tk + 1)) + 1 := by omega
          have e3 : ((st : Int) + 1).toNat = st + 1 := by omega
          have e4 : ((tk : Int) + 1).toNat = tk + 1 := by omega
          have e5 : ((nx : Int)).toNat = nx := by omega
          have e6 : ((tk : Int)).toNat = tk := by omega
          rw [e3, e4, e5, e6, e1, Nat.succ_mul]
          omega
        · have h0V : ¬ (0 : Int) ≤ V := by first | assumption | omega
          obtain rfl : has = false := by
            have h3 := HV.out
            cases has
            · rfl
            · simp at h3; omega
          go_ret
          exact ⟨ret_bool (hst.out.fails HC.out (show stuck l nx s[a] by unfold stuck; rw [List.getElem?_eq_none (by omega)]; trivial)).symm, hb.drew⟩
    · have haz : a = s.size := by omega
      have HE : Hid (mt l s.data.toList = (l.drop nx).all (·.1)) := hst.out.ends (by simpa using haz)
      clear hst hsn htk
      generalize (if has then (st : Int) else -1) = V
      go_wp2
      go_loopw [5] (fun v5 wx => ∃ k : Nat, v5 = .int .i64 k ∧ k ≤ l.length ∧ Hid (mt l s.data.toList = (l.drop k).all (·.1)) ∧ Below w.heap.size w wx) (fun v5 _ => l.length - (intOf v5).toNat)
      case atStart => exact ⟨nx, rfl, hnl, HE, hb⟩
      case round =>
        obtain ⟨k, rfl, hk, hE, hb2⟩ := hrel
        by_cases hkl : k < l.length
        · have hne : l ≠ [] := fun e => by rw [e] at hkl; simp at hkl
          obtain rfl := had hne
          obtain ⟨p, hp⟩ : ∃ p, l[k]? = some p := ⟨_, List.getElem?_eq_getElem hkl⟩
          obtain ⟨pm, pf⟩ := p
          obtain ⟨q1, q2⟩ := (PcAt.below H.out hb2 hgw) k (pm, pf) hp
          have HP : Hid _ := hp
          clear hp q2
          simp only at q1
          cases pm
          · go_wp2
            go_ret
            refine ⟨ret_bool ?_, hb2⟩
            rw [hE.out, drop_consL HP.out]
            simp; omega
          · go_wp2
            refine ⟨⟨k + 1, by simp, by omega, ?_, hb2⟩, by simp [intOf]; omega⟩
            unfold Hid
            rw [hE.out, drop_consL HP.out]
            simp
        · have hkl2 : k = l.length := by omega
          go_wp2
          go_ret
          refine ⟨ret_bool ?_, hb2⟩
          rw [hE.out, hkl2, List.drop_length]
          simp
end Go.Proofs.YtfafhjglcaikoaaGreatDoor
/-! Match, Live, SameTexts. -/
namespace Go.Proofs.YtfafhjglcaikoaaGreatDoor
open Go.RowKit Go.Shelf

theorem pcs_length : ∀ (n : Nat) (L : List Lt), L.length ≤ n → (pcs L).length ≤ L.length
  | 0, L, h => by
    have : L = [] := List.eq_nil_of_length_eq_zero (by omega)
    subst this; simp [pcs]
  | n + 1, [], _ => by simp [pcs]
  | n + 1, x :: r, h => by
    rw [pcs]
    have h1 := pcs_length n r (by simpa using h)
    split
    · simp; omega
    · split
      · simp; omega
      · split
        · rename_i k _
          have h2 := pcs_length n (r.drop (k + 2)) (by simp at h ⊢; omega)
          simp at h2 ⊢; omega
        · simp; omega

/-- What matching comes to. -/
def matchL (p s : List UInt8) : Bool := mt (pcs (letts p)) s

theorem liveR_step (L : List Lt) (i : Nat) (x : Lt) (hx : L[i]? = some x) : liveR (L.drop i) = ((isL x 42 || isL x 63 || (isL x 91 && decide (i + 1 < lastOf L))) || liveR (L.drop (i + 1))) := by
  have h1 : decide (i + 1 < lastOf L) = ((L.drop (i + 1)).drop 1).any (isL · 93) := by
    rw [List.drop_drop, Bool.eq_iff_iff, decide_eq_true_eq, last_iff]
  rw [drop_consL hx, liveR, h1]

set_option maxRecDepth 100000 in
set_option maxHeartbeats 4000000 in
theorem live_any (s : ByteArray) (hs : s.size < 4294967296) (w : World) :
    Calls Tryz.prog 282 #[.string s] w fun e w' => e = .returned (.bool (liveR (letts s.data.toList))) ∧ Below w.heap.size w w' := by
  obtain ⟨L, hL⟩ : ∃ L, letts s.data.toList = L := ⟨_, rfl⟩
  have hLs : L.length < 4294967296 := by rw [← hL]; exact Nat.lt_of_le_of_lt (letts_length_le _) (by simpa using hs)
  have HLE : Hid _ := hL
  rw [hL]
  clear hL
  go_enter Tryz.func282, Tryz.ntmps282
  go_wp2_with (go_at_call 251; refine (read_any s (by omega) _).mono ?_; rintro e w0 ⟨lv, rfl, hrow, hb0⟩; rw [HLE.out] at hrow ⊢; obtain ⟨lad, lcap, rfl⟩ := owns_slice hrow)
  obtain ⟨g, cap, hv1, hv2, hLt, hgb⟩ := LtAt.owned hrow
  have cT := Cel.new w0 316 #[.slice lad L.length lcap, .int .i64 (lastOf L)]
  have hB0 : Below w.heap.size w (w0.alloc (.cells #[.slice lad L.length lcap, .int .i64 (lastOf L)] 316)) := hb0.alloc hb0.size _
  obtain ⟨T, hT⟩ : ∃ T, w0.heap.size = T := ⟨_, rfl⟩
  have hLt2 : LtAt (w0.alloc (.cells #[.slice lad L.length lcap, .int .i64 (lastOf L)] 316)) g 0 L := by
    by_cases hne : L = []
    · subst hne; intro k x hx; simp at hx
    · exact LtAt.below hLt ((Below.refl w0.heap.size w0).alloc (Nat.le_refl _) _) (hgb hne).1
  rw [hT] at cT ⊢
  go_loopw [4, 5, 11] (fun _ _ v11 wr => ∃ i : Nat, v11 = .int .i64 i ∧ i ≤ L.length ∧ Hid (liveR L = liveR (L.drop i)) ∧ Cel wr T 316 #[.slice lad L.length lcap, .int .i64 (lastOf L)] ∧ Hid (LtAt wr g 0 L) ∧ Below w.heap.size w wr) (fun _ _ v11 _ => L.length - (intOf v11).toNat)
  case atStart => exact ⟨0, rfl, by omega, by simp [Hid], cT, hLt2, hB0⟩
  case round =>
    obtain ⟨i, rfl, hil, hE, cT, hLr, hw⟩ := hrel
    by_cases hlt : i < L.length
    · have hne : L ≠ [] := fun e => by rw [e] at hlt; simp at hlt
      obtain ⟨hva, hcap⟩ := hv1 hne
      obtain ⟨rfl, _, rfl⟩ : lad = some ⟨g, 0, none⟩ ∧ True ∧ lcap = cap := by simp at hva; exact ⟨hva.1, trivial, hva.2⟩
      have hgT : g < T := by rw [← hT]; exact (hgb hne).1
      clear hva hv1 hv2 hLt hgb hLt2 hrow
      obtain ⟨x, hx⟩ : ∃ x, L[i]? = some x := ⟨_, List.getElem?_eq_getElem hlt⟩
      obtain ⟨q1, q2⟩ := hLr.out i x hx
      simp only [Nat.zero_add] at q1 q2
      have hstep := liveR_step L i x hx
      rw [← hE.out] at hstep
      have HS : Hid _ := hstep
      have HX : Hid _ := hx
      clear hx hstep
      have hTr := cT.lt
      have hwz := hw.size
      have hgr : g < wr.heap.size := by omega
      have t0 : wr.cell? ⟨T, 0, none⟩ = some (.slice (some ⟨g, 0, none⟩) L.length lcap) := cT.cell 0
      have t1 : wr.cell? ⟨T, 1, none⟩ = some (.int .i64 (lastOf L)) := cT.cell 1
      have cX1 := Cel.new wr 319 #[.int .u8 x.1.toNat, .bool x.2]
      have cT1 := cT.alloc (.cells #[.int .u8 x.1.toNat, .bool x.2] 319)
      have hw1 : Below w.heap.size w (wr.alloc (.cells #[.int .u8 x.1.toNat, .bool x.2] 319)) := hw.alloc hwz _
      have hL1 : LtAt (wr.alloc (.cells #[.int .u8 x.1.toNat, .bool x.2] 319)) g 0 L := LtAt.below hLr.out ((Below.refl wr.heap.size wr).alloc (Nat.le_refl _) _) hgr
      have hgl1 : g < (wr.alloc (.cells #[.int .u8 x.1.toNat, .bool x.2] 319)).heap.size := by simp; omega
      cases hq1 : isL x 42
      · cases hq2 : isL x 63
        · cases hq3 : (isL x 91 && decide (i + 1 < lastOf L))
          · go_wp2_with fail
            refine (is_below x 42 42 rfl _).mono ?_
            rintro e w2 ⟨rfl, hb2⟩
            rw [hq1]
            have cX2 := cX1.below hb2 cX1.lt
            have cT2 := cT1.below hb2 cT1.lt
            have hL2 := LtAt.below hL1 hb2 hgl1
            have hw2 := hw1.trans (hb2.mono hw1.size)
            have hgl2 := Nat.lt_of_lt_of_le hgl1 hb2.size
            have x20 : w2.cell? ⟨wr.heap.size, 0, none⟩ = some (.int .u8 x.1.toNat) := cX2.cell 0
            have x21 : w2.cell? ⟨wr.heap.size, 1, none⟩ = some (.bool x.2) := cX2.cell 1
            have t20 : w2.cell? ⟨T, 0, none⟩ = some (.slice (some ⟨g, 0, none⟩) L.length lcap) := cT2.cell 0
            have t21 : w2.cell? ⟨T, 1, none⟩ = some (.int .i64 (lastOf L)) := cT2.cell 1
            go_wp2_with fail
            refine (is_below x 63 63 rfl _).mono ?_
            rintro e w3 ⟨rfl, hb3⟩
            rw [hq2]
            have cX3 := cX2.below hb3 cX2.lt
            have cT3 := cT2.below hb3 cT2.lt
            have hL3 := LtAt.below hL2 hb3 hgl2
            have hw3 := hw2.trans (hb3.mono hw2.size)
            have hgl3 := Nat.lt_of_lt_of_le hgl2 hb3.size
            have x30 : w3.cell? ⟨wr.heap.size, 0, none⟩ = some (.int .u8 x.1.toNat) := cX3.cell 0
            have x31 : w3.cell? ⟨wr.heap.size, 1, none⟩ = some (.bool x.2) := cX3.cell 1
            have t30 : w3.cell? ⟨T, 0, none⟩ = some (.slice (some ⟨g, 0, none⟩) L.length lcap) := cT3.cell 0
            have t31 : w3.cell? ⟨T, 1, none⟩ = some (.int .i64 (lastOf L)) := cT3.cell 1
            go_wp2_with fail
            refine (opens_any g 0 lcap (lastOf L) L i x HX.out _ hL3 (by omega) hcap).mono ?_
            rintro e w4 ⟨rfl, hb4⟩
            rw [hq3]
            have cX4 := cX3.below hb4 cX3.lt
            have cT4 := cT3.below hb4 cT3.lt
            have hL4 := LtAt.below hL3 hb4 hgl3
            have hw4 := hw3.trans (hb4.mono hw3.size)
            have hgl4 := Nat.lt_of_lt_of_le hgl3 hb4.size
            have x40 : w4.cell? ⟨wr.heap.size, 0, none⟩ = some (.int .u8 x.1.toNat) := cX4.cell 0
            have x41 : w4.cell? ⟨wr.heap.size, 1, none⟩ = some (.bool x.2) := cX4.cell 1
            have t40 : w4.cell? ⟨T, 0, none⟩ = some (.slice (some ⟨g, 0, none⟩) L.length lcap) := cT4.cell 0
            have t41 : w4.cell? ⟨T, 1, none⟩ = some (.int .i64 (lastOf L)) := cT4.cell 1
            go_wp2
            refine ⟨⟨i + 1, by simp, by omega, ?_, cT4, hL4, hw4⟩, by simp [intOf]; omega⟩
            have h7 := HS.out
            rw [hq1, hq2, hq3] at h7
            simpa [Hid] using h7
          · go_wp2_with fail
            refine (is_below x 42 42 rfl _).mono ?_
            rintro e w2 ⟨rfl, hb2⟩
            rw [hq1]
            have cX2 := cX1.below hb2 cX1.lt
            have cT2 := cT1.below hb2 cT1.lt
            have hL2 := LtAt.below hL1 hb2 hgl1
            have hw2 := hw1.trans (hb2.mono hw1.size)
            have hgl2 := Nat.lt_of_lt_of_le hgl1 hb2.size
            have x20 : w2.cell? ⟨wr.heap.size, 0, none⟩ = some (.int .u8 x.1.toNat) := cX2.cell 0
            have x21 : w2.cell? ⟨wr.heap.size, 1, none⟩ = some (.bool x.2) := cX2.cell 1
            have t20 : w2.cell? ⟨T, 0, none⟩ = some (.slice (some ⟨g, 0, none⟩) L.length lcap) := cT2.cell 0
            have t21 : w2.cell? ⟨T, 1, none⟩ = some (.int .i64 (lastOf L)) := cT2.cell 1
            go_wp2_with fail
            refine (is_below x 63 63 rfl _).mono ?_
            rintro e w3 ⟨rfl, hb3⟩
            rw [hq2]
            have cX3 := cX2.below hb3 cX2.lt
            have cT3 := cT2.below hb3 cT2.lt
            have hL3 := LtAt.below hL2 hb3 hgl2
            have hw3 := hw2.trans (hb3.mono hw2.size)
            have hgl3 := Nat.lt_of_lt_of_le hgl2 hb3.size
            have x30 : w3.cell? ⟨wr.heap.size, 0, none⟩ = some (.int .u8 x.1.toNat) := cX3.cell 0
            have x31 : w3.cell? ⟨wr.heap.size, 1, none⟩ = some (.bool x.2) := cX3.cell 1
            have t30 : w3.cell? ⟨T, 0, none⟩ = some (.slice (some ⟨g, 0, none⟩) L.length lcap) := cT3.cell 0
            have t31 : w3.cell? ⟨T, 1, none⟩ = some (.int .i64 (lastOf L)) := cT3.cell 1
            go_wp2_with fail
            refine (opens_any g 0 lcap (lastOf L) L i x HX.out _ hL3 (by omega) hcap).mono ?_
            rintro e w4 ⟨rfl, hb4⟩
            rw [hq3]
            have cX4 := cX3.below hb4 cX3.lt
            have cT4 := cT3.below hb4 cT3.lt
            have hL4 := LtAt.below hL3 hb4 hgl3
            have hw4 := hw3.trans (hb4.mono hw3.size)
            have hgl4 := Nat.lt_of_lt_of_le hgl3 hb4.size
            have x40 : w4.cell? ⟨wr.heap.size, 0, none⟩ = some (.int .u8 x.1.toNat) := cX4.cell 0
            have x41 : w4.cell? ⟨wr.heap.size, 1, none⟩ = some (.bool x.2) := cX4.cell 1
            have t40 : w4.cell? ⟨T, 0, none⟩ = some (.slice (some ⟨g, 0, none⟩) L.length lcap) := cT4.cell 0
            have t41 : w4.cell? ⟨T, 1, none⟩ = some (.int .i64 (lastOf L)) := cT4.cell 1
            go_wp2
            go_ret
            refine ⟨ret_bool ?_, hw4⟩
            have h7 := HS.out
            rw [hq3] at h7
            rw [h7]; simp
        · go_wp2_with fail
          refine (is_below x 42 42 rfl _).mono ?_
          rintro e w2 ⟨rfl, hb2⟩
          rw [hq1]
          have cX2 := cX1.below hb2 cX1.lt
          have cT2 := cT1.below hb2 cT1.lt
          have hL2 := LtAt.below hL1 hb2 hgl1
          have hw2 := hw1.trans (hb2.mono hw1.size)
          have hgl2 := Nat.lt_of_lt_of_le hgl1 hb2.size
          have x20 : w2.cell? ⟨wr.heap.size, 0, none⟩ = some (.int .u8 x.1.toNat) := cX2.cell 0
          have x21 : w2.cell? ⟨wr.heap.size, 1, none⟩ = some (.bool x.2) := cX2.cell 1
          have t20 : w2.cell? ⟨T, 0, none⟩ = some (.slice (some ⟨g, 0, none⟩) L.length lcap) := cT2.cell 0
          have t21 : w2.cell? ⟨T, 1, none⟩ = some (.int .i64 (lastOf L)) := cT2.cell 1
          go_wp2_with fail
          refine (is_below x 63 63 rfl _).mono ?_
          rintro e w3 ⟨rfl, hb3⟩
          rw [hq2]
          have cX3 := cX2.below hb3 cX2.lt
          have cT3 := cT2.below hb3 cT2.lt
          have hL3 := LtAt.below hL2 hb3 hgl2
          have hw3 := hw2.trans (hb3.mono hw2.size)
          have hgl3 := Nat.lt_of_lt_of_le hgl2 hb3.size
          have x30 : w3.cell? ⟨wr.heap.size, 0, none⟩ = some (.int .u8 x.1.toNat) := cX3.cell 0
          have x31 : w3.cell? ⟨wr.heap.size, 1, none⟩ = some (.bool x.2) := cX3.cell 1
          have t30 : w3.cell? ⟨T, 0, none⟩ = some (.slice (some ⟨g, 0, none⟩) L.length lcap) := cT3.cell 0
          have t31 : w3.cell? ⟨T, 1, none⟩ = some (.int .i64 (lastOf L)) := cT3.cell 1
          go_wp2
          go_ret
          refine ⟨ret_bool ?_, hw3⟩
          have h7 := HS.out
          rw [hq2] at h7
          rw [h7]; simp
      · go_wp2_with fail
        refine (is_below x 42 42 rfl _).mono ?_
        rintro e w2 ⟨rfl, hb2⟩
        rw [hq1]
        have cX2 := cX1.below hb2 cX1.lt
        have cT2 := cT1.below hb2 cT1.lt
        have hL2 := LtAt.below hL1 hb2 hgl1
        have hw2 := hw1.trans (hb2.mono hw1.size)
        have hgl2 := Nat.lt_of_lt_of_le hgl1 hb2.size
        have x20 : w2.cell? ⟨wr.heap.size, 0, none⟩ = some (.int .u8 x.1.toNat) := cX2.cell 0
        have x21 : w2.cell? ⟨wr.heap.size, 1, none⟩ = some (.bool x.2) := cX2.cell 1
        have t20 : w2.cell? ⟨T, 0, none⟩ = some (.slice (some ⟨g, 0, none⟩) L.length lcap) := cT2.cell 0
        have t21 : w2.cell? ⟨T, 1, none⟩ = some (.int .i64 (lastOf L)) := cT2.cell 1
        go_wp2
        go_ret
        refine ⟨ret_bool ?_, hw2⟩
        have h7 := HS.out
        rw [hq1] at h7
        rw [h7]; simp
    · have hiL : i = L.length := by omega
      have t0 : wr.cell? ⟨T, 0, none⟩ = some (.slice lad L.length lcap) := cT.cell 0
      go_wp2
      go_ret
      refine ⟨ret_bool ?_, hw⟩
      rw [hE.out, hiL, List.drop_length]
      rfl
end Go.Proofs.YtfafhjglcaikoaaGreatDoor
namespace Go.Proofs.YtfafhjglcaikoaaGreatDoor
open Go.RowKit Go.Shelf

/-- The value is a slice of these texts. -/
def TxAt (W : World) (v : Value) (ps : List (List UInt8)) : Prop :=
  ∃ (g o : Nat) (ad : Option Addr) (cap : Nat), v = .slice ad ps.length cap ∧ ps.length ≤ cap ∧ (ps ≠ [] → ad = some ⟨g, o, none⟩ ∧ g < W.heap.size) ∧ ∀ k p, ps[k]? = some p → W.cell? ⟨g, o + k, none⟩ = some (.string ⟨p.toArray⟩)
theorem TxAt.below {W W' : World} {v : Value} {ps : List (List UInt8)} {B : Nat} (h : TxAt W v ps) (hb : Below B W W') (hB : W.heap.size ≤ B) : TxAt W' v ps := by
  obtain ⟨g, o, ad, cap, h1, h2, h3, h4⟩ := h
  refine ⟨g, o, ad, cap, h1, h2, fun hne => ⟨(h3 hne).1, Nat.lt_of_lt_of_le (h3 hne).2 hb.size⟩, fun k p hp => ?_⟩
  have hg := (h3 (fun e => by rw [e] at hp; simp at hp)).2
  exact (hb.cell (p := ⟨g, o + k, none⟩) (by show g < B; omega)).trans (h4 k p hp)
theorem TxAt.owned {W : World} {B : Nat} {v : Value} {ps : List (List UInt8)} (h : W.ownsRow B 9 1 v ps.length (txV ps)) : TxAt W v ps := by
  rcases h.2 with ⟨hv, h0⟩ | ⟨g, cap, cur, hv, hb, hc, h1, _, h2, h3⟩
  · have hl : ps = [] := List.eq_nil_of_length_eq_zero h0
    subst hl
    exact ⟨0, 0, none, 0, hv, Nat.le_refl _, fun e => absurd rfl e, fun k p hp => by simp at hp⟩
  · refine ⟨g, 0, some ⟨g, 0, none⟩, cap, hv, h1, fun _ => ⟨rfl, (Array.getElem?_eq_some_iff.1 hc).1⟩, fun k p hp => ?_⟩
    have hk := (List.getElem?_eq_some_iff.1 hp).1
    have e1 : W.cell? ⟨g, 0 + k, none⟩ = cur[k]? := by simp [World.cell?, hc]
    rw [e1, ← Array.getElem?_toList, ← List.getElem?_take_of_lt (show k < ps.length * 1 by omega), h3, txV, List.getElem?_map, hp]
    rfl

set_option maxRecDepth 100000 in
set_option maxHeartbeats 2000000 in
theorem sameTexts_anyL (va vb : Value) (us vs : List (List UInt8)) (w : World) (ha : TxAt w va us) (hb : TxAt w vb vs) (hla : us.length < 4294967296) (_hlb : vs.length < 4294967296) :
    Calls Tryz.prog 21 #[va, vb] w fun e w' => e = .returned (.bool (decide (us = vs))) ∧ Below w.heap.size w w' := by
  obtain ⟨ga, oa, ada, capa, rfl, hca, hga, hcea⟩ := ha
  obtain ⟨gb, ob, adb, capb, rfl, hcb, hgb, hceb⟩ := hb
  have HA : Hid _ := hcea
  have HB : Hid _ := hceb
  clear hcea hceb
  by_cases hl : us.length = vs.length
  · have hf : ((us.length : Int) != (vs.length : Int)) = false := by rw [hl]; simp
    have hge : vs.length ≥ us.length ∧ us.length ≥ vs.length := by omega
    have HL : Hid _ := hl
    clear hl
    go_enter Tryz.func21, Tryz.ntmps21
    go_wp2
    go_loopw [5, 6] (fun v5 _ wr => ∃ k : Nat, v5 = .int .i64 k ∧ k ≤ us.length ∧ Hid (∀ j, j < k → us[j]? = vs[j]?) ∧ Below w.heap.size w wr) (fun v5 _ _ => us.length - (intOf v5).toNat)
    case atStart => exact ⟨0, rfl, by omega, fun j hj => absurd hj (by omega), Below.refl _ _⟩
    case round =>
      obtain ⟨k, rfl, hk, hh, hb⟩ := hrel
      by_cases hlt : k < us.length
      · obtain ⟨p, hp⟩ : ∃ p, us[k]? = some p := ⟨_, List.getElem?_eq_getElem hlt⟩
        obtain ⟨q, hq⟩ : ∃ q, vs[k]? = some q := ⟨_, List.getElem?_eq_getElem (by omega)⟩
        obtain ⟨rfl, hga2⟩ := hga (fun e => by rw [e] at hlt; simp at hlt)
        obtain ⟨rfl, hgb2⟩ := hgb (fun e => by have h5 := HL.out; rw [e] at h5; simp at h5; rw [h5] at hlt; simp at hlt)
        have q1 := (hb.cell (p := ⟨ga, oa + k, none⟩) hga2).trans (HA.out k p hp)
        have q2 := (hb.cell (p := ⟨gb, ob + k, none⟩) hgb2).trans (HB.out k q hq)
        have HP : Hid _ := hp
        have HQ : Hid _ := hq
        clear hp hq
        have hltb : k < vs.length := by omega
        by_cases hpq : p = q
        · have hbt : (p == q) = true := by simpa using hpq
          go_wp2
          go_region
          all_goals go_wp2
          refine ⟨⟨k + 1, by simp, by omega, ?_, hb.drew⟩, by simp [intOf]; omega⟩
          intro j hj
          by_cases hjk : j < k
          · exact hh.out j hjk
          · rw [show j = k by omega, HP.out, HQ.out, hpq]
        · have hbf : (p == q) = false := by simpa using hpq
          go_wp2
          go_region
          all_goals go_wp2
          go_ret
          refine ⟨ret_bool (decide_eq_false (fun e => ?_)).symm, hb.drew⟩
          have h1 := HP.out
          rw [e, HQ.out] at h1
          exact hpq (by simpa using h1.symm)
      · go_wp2
        go_ret
        refine ⟨ret_bool (decide_eq_true (list_ext_upto us vs k HL.out hh.out (by omega))).symm, hb⟩
  · have hf : ((us.length : Int) != (vs.length : Int)) = true := by simp; omega
    go_enter Tryz.func21, Tryz.ntmps21
    go_wp2
    go_ret
    exact ⟨ret_bool (decide_eq_false (fun e => hl (by rw [e]))).symm, Below.refl _ _⟩

end Go.Proofs.YtfafhjglcaikoaaGreatDoor
