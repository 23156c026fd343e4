/- Matching. -/
import Derived.Test.YtdajacodfnidfaaGreatDoorPieces
import Derived.Deep.RegionHeld3
namespace Go.Proofs.YtdajacodfnidfaaGreatDoor
open Go.RowKit Go.Shelf

/-- From cell 0 of block g on lie these pieces. -/
def PcAt (W : World) (g : Nat) (l : List Pc) : Prop := ∀ k p, l[k]? = some p → W.cell? ⟨g, k * 5, none⟩ = some (.bool p.1) ∧ ∀ j, j < 4 → W.cell? ⟨g, k * 5 + 1 + j, none⟩ = some (wV p.2 j)
theorem PcAt.below {W W' : World} {g B : Nat} {l : List Pc} (h : PcAt W g l) (hb : Below B W W') (hg : l ≠ [] → g < B) : PcAt W' g l := fun k p hp => by
  have hg' := hg (fun e => by rw [e] at hp; simp at hp)
  exact ⟨(hb.cell (p := ⟨g, k * 5, none⟩) hg').trans (h k p hp).1, fun j hj => (hb.cell (p := ⟨g, k * 5 + 1 + j, none⟩) hg').trans ((h k p hp).2 j hj)⟩
theorem pcCells_get : ∀ (l : List Pc) (k : Nat) (p : Pc), l[k]? = some p → ∀ j, j < 5 → (pcCells l)[k * 5 + j]? = (pcC p)[j]?
  | [], k, p, h => by simp at h
  | q :: l, 0, p, h => by
    intro j hj
    simp at h; subst h
    simp only [pcCells, List.flatMap_cons, Nat.zero_mul, Nat.zero_add]
    rw [List.getElem?_append_left (by simp [pcC]; omega)]
  | q :: l, k + 1, p, h => by
    intro j hj
    have ih := pcCells_get l k p (by simpa using h) j hj
    have hl : (pcC q).length = 5 := rfl
    simp only [pcCells, List.flatMap_cons] at ih ⊢
    rw [List.getElem?_append_right (by omega), hl, show (k + 1) * 5 + j - 5 = k * 5 + j by omega]
    exact ih
theorem PcAt.owned {W : World} {B : Nat} {v : Value} {l : List Pc} (h : W.ownsRow B 126 5 v l.length (pcCells l)) : ∃ g ad cap, v = .slice ad l.length cap ∧ (l ≠ [] → ad = some ⟨g, 0, none⟩) ∧ l.length ≤ cap ∧ PcAt W g l ∧ (l ≠ [] → g < W.heap.size) := by
  rcases h.2 with ⟨hv, h0⟩ | ⟨g, cap, cur, hv, hb, hc, h1, _, h2, h3⟩
  · have hl : l = [] := List.eq_nil_of_length_eq_zero h0
    subst hl
    exact ⟨0, none, 0, hv, fun e => absurd rfl e, Nat.le_refl _, fun k x hx => by simp at hx, fun e => absurd rfl e⟩
  · refine ⟨g, some ⟨g, 0, none⟩, cap, hv, fun _ => rfl, h1, fun k p hp => ?_, fun _ => (Array.getElem?_eq_some_iff.1 hc).1⟩
    have hk := (List.getElem?_eq_some_iff.1 hp).1
    have key : ∀ j, j < 5 → W.cell? ⟨g, k * 5 + j, none⟩ = (pcC p)[j]? := by
      intro j hj
      have e1 : W.cell? ⟨g, k * 5 + j, none⟩ = cur[k * 5 + j]? := by simp [World.cell?, hc]
      rw [e1, ← pcCells_get l k p hp j hj, ← h3, List.getElem?_take_of_lt (by omega), Array.getElem?_toList]
    refine ⟨key 0 (by omega), fun j hj => ?_⟩
    rw [show k * 5 + 1 + j = k * 5 + (1 + j) by omega, key (1 + j) (by omega)]
    match j, hj with
    | 0, _ => rfl
    | 1, _ => rfl
    | 2, _ => rfl
    | 3, _ => rfl

/-- Where the search stands, in the program's variables. -/
def MtRel (w : World) (l : List Pc) (s : ByteArray) (v5 v6 v7 v8 : Value) (wr : World) : Prop :=
  ∃ (nx a st tk : Nat) (has : Bool), v5 = .int .i64 nx ∧ v6 = .int .i64 a ∧ v7 = .int .i64 (if has then (st : Int) else -1) ∧ v8 = .int .i64 tk ∧ Hid (Stand l s.data.toList nx a st tk has) ∧ nx ≤ l.length ∧ a ≤ s.size ∧ tk ≤ a ∧ (has = true → st < nx) ∧ Below w.heap.size w wr

def mtM (m n : Nat) (v5 v8 : Value) : Nat := (n - (intOf v8).toNat) * (m + 1) + (m - (intOf v5).toNat)

set_option maxRecDepth 100000 in
set_option maxHeartbeats 8000000 in
theorem matches_any (g cap : Nat) (ad : Option Addr) (l : List Pc) (s : ByteArray) (hs : s.size < 4294967296) (hl : l.length < 4294967296) (had : l ≠ [] → ad = some ⟨g, 0, none⟩) (_hcap : l.length ≤ cap) (w : World) (h : PcAt w g l) (hgw : l ≠ [] → g < w.heap.size) :
    Calls Tryz.prog 95 #[.slice ad l.length cap, .string s] w fun e w' => e = .returned (.bool (mt l s.data.toList)) ∧ Below w.heap.size w w' := by
  have H : Hid (PcAt w g l) := h
  clear h
  go_enter Tryz.func95, Tryz.ntmps95
  go_wp2
  go_loopw [5, 6, 7, 8] (fun v5 v6 v7 v8 wr => MtRel w l s v5 v6 v7 v8 wr) (fun v5 _ _ v8 _ => mtM l.length s.size v5 v8)
  case atStart => exact ⟨0, 0, 0, 0, false, rfl, rfl, rfl, rfl, Stand.start _ _ _ _, by omega, by omega, by omega, fun e => (by cases e), Below.refl _ _⟩
  case round =>
    obtain ⟨nx, a, st, tk, has, rfl, rfl, rfl, rfl, hst, hnl, has_, htk, hsn, hb⟩ := hrel
    by_cases hlt : a < s.size
    · have hc := s_get s a hlt
      have HC : Hid _ := hc
      clear hc
      by_cases hnx : nx < l.length
      · have hne : l ≠ [] := fun e => by rw [e] at hnx; simp at hnx
        obtain rfl := had hne
        obtain ⟨p, hp⟩ : ∃ p, l[nx]? = some p := ⟨_, List.getElem?_eq_getElem hnx⟩
        obtain ⟨pm, pf⟩ := p
        obtain ⟨q1, q2⟩ := (PcAt.below H.out hb hgw) nx (pm, pf) hp
        have HP : Hid _ := hp
        have Q2 : Hid (∀ j, j < 4 → wr.drew.cell? ⟨g, nx * 5 + 1 + j, none⟩ = some (wV pf j)) := q2
        clear hp q2
        simp only at q1
        have hst7 : (-1 : Int) ≤ (if has then (st : Int) else -1) ∧ (if has then (st : Int) else -1) < 4294967296 := by
          cases has
          · simp
          · have := hsn rfl; simp; omega
        have hsn : Hid (has = true → st < nx) := hsn
        generalize hV : (if has then (st : Int) else -1) = V at hst7 ⊢
        have HV : Hid _ := hV
        clear hV
        cases pm
        · cases hf : pf s[a].toNat
          · go_wp2
            refine wp_region_any (by kernel_rfl) ?_
            try (change wpAny _ _ _ _ _ _ _ (World.drew _))
            refine wpAny_take (i := 0) (v := .int .i64 (nx : Int)) rfl (by kernel_rfl) (by kernel_rfl) (by kernel_rfl) (fun _ _ _ h => h) (Or.inl ⟨by rfl, by intro wz; go_simp⟩) ?_
            try simp only [Act.put, List.getElem_toArray, List.getElem_cons_zero, List.setIfInBounds_toArray, List.set_cons_zero, List.set_cons_succ]
            refine wpAny_take (i := 1) (v := .slice (some ⟨g, 0, none⟩) l.length cap) rfl (by kernel_rfl) (by kernel_rfl) (by kernel_rfl) (fun _ _ _ h => h) (Or.inl ⟨by rfl, by intro wz; go_simp⟩) ?_
            try simp only [Act.put, List.getElem_toArray, List.getElem_cons_succ, List.getElem_cons_zero, List.setIfInBounds_toArray, List.set_cons_zero, List.set_cons_succ]
            refine wpAny_take (i := 2) (v := .int .i64 (l.length : Int)) rfl (by kernel_rfl) (by kernel_rfl) (by kernel_rfl) (fun _ _ _ h => h) (Or.inl ⟨by rfl, by intro wz; go_simp⟩) ?_
            try simp only [Act.put, List.getElem_toArray, List.getElem_cons_succ, List.getElem_cons_zero, List.setIfInBounds_toArray, List.set_cons_zero, List.set_cons_succ]
            refine wpAny_take (i := 3) (v := .bool true) rfl (by kernel_rfl) (by kernel_rfl) (by kernel_rfl) (fun _ _ _ h => h) (Or.inl ⟨by rfl, by intro wz; go_simp⟩) ?_
            try simp only [Act.put, List.getElem_toArray, List.getElem_cons_succ, List.getElem_cons_zero, List.setIfInBounds_toArray, List.set_cons_zero, List.set_cons_succ]
            refine wpAny_take (i := 4) (v := .bool true) rfl (by kernel_rfl) (by kernel_rfl) (by kernel_rfl) (fun _ _ _ h => h) (Or.inl ⟨by rfl, by intro wz; go_simp⟩) ?_
            try simp only [Act.put, List.getElem_toArray, List.getElem_cons_succ, List.getElem_cons_zero, List.setIfInBounds_toArray, List.set_cons_zero, List.set_cons_succ]
            refine wpAny_take (i := 5) (v := .slice (some ⟨g, 0, none⟩) l.length cap) rfl (by kernel_rfl) (by kernel_rfl) (by kernel_rfl) (fun _ _ _ h => h) (Or.inl ⟨by rfl, by intro wz; go_simp⟩) ?_
            try simp only [Act.put, List.getElem_toArray, List.getElem_cons_succ, List.getElem_cons_zero, List.setIfInBounds_toArray, List.set_cons_zero, List.set_cons_succ]
            refine wpAny_take (i := 6) (v := .int .i64 (nx : Int)) rfl (by kernel_rfl) (by kernel_rfl) (by kernel_rfl) (fun _ _ _ h => h) (Or.inl ⟨by rfl, by intro wz; go_simp⟩) ?_
            try simp only [Act.put, List.getElem_toArray, List.getElem_cons_succ, List.getElem_cons_zero, List.setIfInBounds_toArray, List.set_cons_zero, List.set_cons_succ]
            refine wpAny_take (i := 7) (v := .pointer (some ⟨g, nx * 5, none⟩)) rfl (by kernel_rfl) (by kernel_rfl) (by kernel_rfl) (fun _ _ _ h => h) (Or.inl ⟨by rfl, by intro wz; go_simp⟩) ?_
            try simp only [Act.put, List.getElem_toArray, List.getElem_cons_succ, List.getElem_cons_zero, List.setIfInBounds_toArray, List.set_cons_zero, List.set_cons_succ]
            refine wpAny_take (i := 8) (v := .pointer (some ⟨g, nx * 5 + 1, none⟩)) rfl (by kernel_rfl) (by kernel_rfl) (by kernel_rfl) (fun _ _ _ h => h) (Or.inl ⟨by rfl, by intro wz; go_simp⟩) ?_
            try simp only [Act.put, List.getElem_toArray, List.getElem_cons_succ, List.getElem_cons_zero, List.setIfInBounds_toArray, List.set_cons_zero, List.set_cons_succ]
            refine wpAny_take (i := 9) (v := .string s) rfl (by kernel_rfl) (by kernel_rfl) (by kernel_rfl) (fun _ _ _ h => h) (Or.inl ⟨by rfl, by intro wz; go_simp⟩) ?_
            try simp only [Act.put, List.getElem_toArray, List.getElem_cons_succ, List.getElem_cons_zero, List.setIfInBounds_toArray, List.set_cons_zero, List.set_cons_succ]
            refine wpAny_take (i := 10) (v := .int .i64 (a : Int)) rfl (by kernel_rfl) (by kernel_rfl) (by kernel_rfl) (fun _ _ _ h => h) (Or.inl ⟨by rfl, by intro wz; go_simp⟩) ?_
            try simp only [Act.put, List.getElem_toArray, List.getElem_cons_succ, List.getElem_cons_zero, List.setIfInBounds_toArray, List.set_cons_zero, List.set_cons_succ]
            refine wpAny_take (i := 11) (v := .int .u8 (s[a].toNat : Int)) rfl (by kernel_rfl) (by kernel_rfl) (by kernel_rfl) (fun _ _ _ h => h) (Or.inl ⟨by rfl, by intro wz; go_simp⟩) ?_
            try simp only [Act.put, List.getElem_toArray, List.getElem_cons_succ, List.getElem_cons_zero, List.setIfInBounds_toArray, List.set_cons_zero, List.set_cons_succ]
            refine wpAny_ready (rs := [12]) (by kernel_rfl) (by simp) ?_
            refine AllReady.cons rfl (fun K hK => ?_) ?_
            · go_simp
              refine (has_any g (nx * 5 + 1) pf s[a] _ Q2.out).mono ?_
              rintro e w2 ⟨rfl, hw2⟩
              obtain rfl := hw2.symm
              rw [hf]
              go_wp2_with fail
              try simp only [Act.put, List.getElem_toArray, List.getElem_cons_succ, List.getElem_cons_zero, List.setIfInBounds_toArray, List.set_cons_zero, List.set_cons_succ]
              refine wpAny_take (i := 13) (v := .bool false) rfl (by kernel_rfl) (by kernel_rfl) (by kernel_rfl) (fun _ _ _ h => h) (Or.inl ⟨by rfl, by intro wz; go_simp⟩) ?_
              try simp only [Act.put, List.getElem_toArray, List.getElem_cons_succ, List.getElem_cons_zero, List.setIfInBounds_toArray, List.set_cons_zero, List.set_cons_succ]
              refine wpAny_take (i := 14) (v := .bool false) rfl (by kernel_rfl) (by kernel_rfl) (by kernel_rfl) (fun _ _ _ h => h) (Or.inl ⟨by rfl, by intro wz; go_simp⟩) ?_
              try simp only [Act.put, List.getElem_toArray, List.getElem_cons_succ, List.getElem_cons_zero, List.setIfInBounds_toArray, List.set_cons_zero, List.set_cons_succ]
              refine wpAny_done (by kernel_rfl) ?_ _
              go_wp2
              · have h0V : (0 : Int) ≤ V := by assumption
                obtain ⟨rfl, hVs⟩ : has = true ∧ V = (st : Int) := by
                  have h3 := HV.out
                  cases has
                  · simp at h3; omega
                  · simp at h3; exact ⟨rfl, h3.symm⟩
                subst hVs
                refine ⟨⟨st + 1, tk + 1, st, tk + 1, true, by simp, by simp, by simp, by simp, hst.out.back HC.out (show stuck l nx s[a] by unfold stuck; rw [HP.out]; exact ⟨rfl, hf⟩), by have := hsn.out rfl; omega, by omega, Nat.le_refl _, fun _ => by omega, hb.drew⟩, ?_⟩
                have := hsn.out rfl
                simp only [mtM, intOf]
                have e1 : s.size - tk = (s.size - (tk + 1)) + 1 := by omega
                have e3 : ((st : Int) + 1).toNat = st + 1 := by omega
                have e4 : ((tk : Int) + 1).toNat = tk + 1 := by omega
                have e5 : ((nx : Int)).toNat = nx := by omega
                have e6 : ((tk : Int)).toNat = tk := by omega
                rw [e3, e4, e5, e6, e1, Nat.succ_mul]
                omega
              · have h0V : ¬ (0 : Int) ≤ V := by first | assumption | omega
                obtain rfl : has = false := by
                  have h3 := HV.out
                  cases has
                  · rfl
                  · simp at h3; omega
                go_ret
                exact ⟨ret_bool (hst.out.fails HC.out (show stuck l nx s[a] by unfold stuck; rw [HP.out]; exact ⟨rfl, hf⟩)).symm, hb.drew⟩
            exact AllReady.nil
          · go_wp2
            refine wp_region_any (by kernel_rfl) ?_
            try (change wpAny _ _ _ _ _ _ _ (World.drew _))
            refine wpAny_take (i := 0) (v := .int .i64 (nx : Int)) rfl (by kernel_rfl) (by kernel_rfl) (by kernel_rfl) (fun _ _ _ h => h) (Or.inl ⟨by rfl, by intro wz; go_simp⟩) ?_
            try simp only [Act.put, List.getElem_toArray, List.getElem_cons_zero, List.setIfInBounds_toArray, List.set_cons_zero, List.set_cons_succ]
            refine wpAny_take (i := 1) (v := .slice (some ⟨g, 0, none⟩) l.length cap) rfl (by kernel_rfl) (by kernel_rfl) (by kernel_rfl) (fun _ _ _ h => h) (Or.inl ⟨by rfl, by intro wz; go_simp⟩) ?_
            try simp only [Act.put, List.getElem_toArray, List.getElem_cons_succ, List.getElem_cons_zero, List.setIfInBounds_toArray, List.set_cons_zero, List.set_cons_succ]
            refine wpAny_take (i := 2) (v := .int .i64 (l.length : Int)) rfl (by kernel_rfl) (by kernel_rfl) (by kernel_rfl) (fun _ _ _ h => h) (Or.inl ⟨by rfl, by intro wz; go_simp⟩) ?_
            try simp only [Act.put, List.getElem_toArray, List.getElem_cons_succ, List.getElem_cons_zero, List.setIfInBounds_toArray, List.set_cons_zero, List.set_cons_succ]
            refine wpAny_take (i := 3) (v := .bool true) rfl (by kernel_rfl) (by kernel_rfl) (by kernel_rfl) (fun _ _ _ h => h) (Or.inl ⟨by rfl, by intro wz; go_simp⟩) ?_
            try simp only [Act.put, List.getElem_toArray, List.getElem_cons_succ, List.getElem_cons_zero, List.setIfInBounds_toArray, List.set_cons_zero, List.set_cons_succ]
            refine wpAny_take (i := 4) (v := .bool true) rfl (by kernel_rfl) (by kernel_rfl) (by kernel_rfl) (fun _ _ _ h => h) (Or.inl ⟨by rfl, by intro wz; go_simp⟩) ?_
            try simp only [Act.put, List.getElem_toArray, List.getElem_cons_succ, List.getElem_cons_zero, List.setIfInBounds_toArray, List.set_cons_zero, List.set_cons_succ]
            refine wpAny_take (i := 5) (v := .slice (some ⟨g, 0, none⟩) l.length cap) rfl (by kernel_rfl) (by kernel_rfl) (by kernel_rfl) (fun _ _ _ h => h) (Or.inl ⟨by rfl, by intro wz; go_simp⟩) ?_
            try simp only [Act.put, List.getElem_toArray, List.getElem_cons_succ, List.getElem_cons_zero, List.setIfInBounds_toArray, List.set_cons_zero, List.set_cons_succ]
            refine wpAny_take (i := 6) (v := .int .i64 (nx : Int)) rfl (by kernel_rfl) (by kernel_rfl) (by kernel_rfl) (fun _ _ _ h => h) (Or.inl ⟨by rfl, by intro wz; go_simp⟩) ?_
            try simp only [Act.put, List.getElem_toArray, List.getElem_cons_succ, List.getElem_cons_zero, List.setIfInBounds_toArray, List.set_cons_zero, List.set_cons_succ]
            refine wpAny_take (i := 7) (v := .pointer (some ⟨g, nx * 5, none⟩)) rfl (by kernel_rfl) (by kernel_rfl) (by kernel_rfl) (fun _ _ _ h => h) (Or.inl ⟨by rfl, by intro wz; go_simp⟩) ?_
            try simp only [Act.put, List.getElem_toArray, List.getElem_cons_succ, List.getElem_cons_zero, List.setIfInBounds_toArray, List.set_cons_zero, List.set_cons_succ]
            refine wpAny_take (i := 8) (v := .pointer (some ⟨g, nx * 5 + 1, none⟩)) rfl (by kernel_rfl) (by kernel_rfl) (by kernel_rfl) (fun _ _ _ h => h) (Or.inl ⟨by rfl, by intro wz; go_simp⟩) ?_
            try simp only [Act.put, List.getElem_toArray, List.getElem_cons_succ, List.getElem_cons_zero, List.setIfInBounds_toArray, List.set_cons_zero, List.set_cons_succ]
            refine wpAny_take (i := 9) (v := .string s) rfl (by kernel_rfl) (by kernel_rfl) (by kernel_rfl) (fun _ _ _ h => h) (Or.inl ⟨by rfl, by intro wz; go_simp⟩) ?_
            try simp only [Act.put, List.getElem_toArray, List.getElem_cons_succ, List.getElem_cons_zero, List.setIfInBounds_toArray, List.set_cons_zero, List.set_cons_succ]
            refine wpAny_take (i := 10) (v := .int .i64 (a : Int)) rfl (by kernel_rfl) (by kernel_rfl) (by kernel_rfl) (fun _ _ _ h => h) (Or.inl ⟨by rfl, by intro wz; go_simp⟩) ?_
            try simp only [Act.put, List.getElem_toArray, List.getElem_cons_succ, List.getElem_cons_zero, List.setIfInBounds_toArray, List.set_cons_zero, List.set_cons_succ]
            refine wpAny_take (i := 11) (v := .int .u8 (s[a].toNat : Int)) rfl (by kernel_rfl) (by kernel_rfl) (by kernel_rfl) (fun _ _ _ h => h) (Or.inl ⟨by rfl, by intro wz; go_simp⟩) ?_
            try simp only [Act.put, List.getElem_toArray, List.getElem_cons_succ, List.getElem_cons_zero, List.setIfInBounds_toArray, List.set_cons_zero, List.set_cons_succ]
            refine wpAny_ready (rs := [12]) (by kernel_rfl) (by simp) ?_
            refine AllReady.cons rfl (fun K hK => ?_) ?_
            · go_simp
              refine (has_any g (nx * 5 + 1) pf s[a] _ Q2.out).mono ?_
              rintro e w2 ⟨rfl, hw2⟩
              obtain rfl := hw2.symm
              rw [hf]
              go_wp2_with fail
              try simp only [Act.put, List.getElem_toArray, List.getElem_cons_succ, List.getElem_cons_zero, List.setIfInBounds_toArray, List.set_cons_zero, List.set_cons_succ]
              refine wpAny_take (i := 13) (v := .bool true) rfl (by kernel_rfl) (by kernel_rfl) (by kernel_rfl) (fun _ _ _ h => h) (Or.inl ⟨by rfl, by intro wz; go_simp⟩) ?_
              try simp only [Act.put, List.getElem_toArray, List.getElem_cons_succ, List.getElem_cons_zero, List.setIfInBounds_toArray, List.set_cons_zero, List.set_cons_succ]
              refine wpAny_take (i := 14) (v := .bool true) rfl (by kernel_rfl) (by kernel_rfl) (by kernel_rfl) (fun _ _ _ h => h) (Or.inl ⟨by rfl, by intro wz; go_simp⟩) ?_
              try simp only [Act.put, List.getElem_toArray, List.getElem_cons_succ, List.getElem_cons_zero, List.setIfInBounds_toArray, List.set_cons_zero, List.set_cons_succ]
              refine wpAny_done (by kernel_rfl) ?_ _
              go_wp2
              refine ⟨⟨nx + 1, a + 1, st, tk, has, by simp, by simp, by rw [HV.out], rfl, hst.out.one HP.out HC.out rfl hf, by omega, by omega, by omega, fun h => by have := hsn.out h; omega, hb.drew⟩, ?_⟩
              simp only [mtM, intOf]
              omega
            exact AllReady.nil
        · go_wp2
          refine ⟨⟨nx + 1, a, nx, a, true, by simp, rfl, by simp, rfl, hst.out.star HP.out, by omega, by omega, Nat.le_refl _, fun _ => by omega, hb⟩, ?_⟩
          simp only [mtM, intOf]
          have e1 : (s.size - ((a : Int)).toNat) * (l.length + 1) ≤ (s.size - ((tk : Int)).toNat) * (l.length + 1) := Nat.mul_le_mul_right _ (by omega)
          omega
      · have hnl2 : nx = l.length := by omega
        have hst7 : (-1 : Int) ≤ (if has then (st : Int) else -1) ∧ (if has then (st : Int) else -1) < 4294967296 := by
          cases has
          · simp
          · have := hsn rfl; simp; omega
        have hsn : Hid (has = true → st < nx) := hsn
        generalize hV : (if has then (st : Int) else -1) = V at hst7 ⊢
        have HV : Hid _ := hV
        clear hV
        go_wp2
        go_region
        all_goals go_wp2
        · have h0V : (0 : Int) ≤ V := by assumption
          obtain ⟨rfl, hVs⟩ : has = true ∧ V = (st : Int) := by
            have h3 := HV.out
            cases has
            · simp at h3; omega
            · simp at h3; exact ⟨rfl, h3.symm⟩
          subst hVs
          refine ⟨⟨st + 1, tk + 1, st, tk + 1, true, by simp, by simp, by simp, by simp, hst.out.back HC.out (show stuck l nx s[a] by unfold stuck; rw [List.getElem?_eq_none (by omega)]; trivial), by have := hsn.out rfl; omega, by omega, Nat.le_refl _, fun _ => by omega, hb.drew⟩, ?_⟩
          have := hsn.out rfl
          simp only [mtM, intOf]
          have e1 : s.size - tk = (s.size - (tk + 1)) + 1 := by omega
          have e3 : ((st : Int) + 1).toNat = st + 1 := by omega
          have e4 : ((tk : Int) + 1).toNat = tk + 1 := by omega
          have e5 : ((nx : Int)).toNat = nx := by omega
          have e6 : ((tk : Int)).toNat = tk := by omega
          rw [e3, e4, e5, e6, e1, Nat.succ_mul]
          omega
        · have h0V : ¬ (0 : Int) ≤ V := by first | assumption | omega
          obtain rfl : has = false := by
            have h3 := HV.out
            cases has
            · rfl
            · simp at h3; omega
          go_ret
          exact ⟨ret_bool (hst.out.fails HC.out (show stuck l nx s[a] by unfold stuck; rw [List.getElem?_eq_none (by omega)]; trivial)).symm, hb.drew⟩
    · have haz : a = s.size := by omega
      have HE : Hid (mt l s.data.toList = (l.drop nx).all (·.1)) := hst.out.ends (by simpa using haz)
      clear hst hsn htk
      generalize (if has then (st : Int) else -1) = V
      go_wp2
      go_loopw [5] (fun v5 wx => ∃ k : Nat, v5 = .int .i64 k ∧ k ≤ l.length ∧ Hid (mt l s.data.toList = (l.drop k).all (·.1)) ∧ Below w.heap.size w wx) (fun v5 _ => l.length - (intOf v5).toNat)
      case atStart => exact ⟨nx, rfl, hnl, HE, hb⟩
      case round =>
        obtain ⟨k, rfl, hk, hE, hb2⟩ := hrel
        by_cases hkl : k < l.length
        · have hne : l ≠ [] := fun e => by rw [e] at hkl; simp at hkl
          obtain rfl := had hne
          obtain ⟨p, hp⟩ : ∃ p, l[k]? = some p := ⟨_, List.getElem?_eq_getElem hkl⟩
          obtain ⟨pm, pf⟩ := p
          obtain ⟨q1, q2⟩ := (PcAt.below H.out hb2 hgw) k (pm, pf) hp
          have HP : Hid _ := hp
          clear hp q2
          simp only at q1
          cases pm
          · go_wp2
            go_ret
            refine ⟨ret_bool ?_, hb2⟩
            rw [hE.out, drop_cons HP.out]
            simp; omega
          · go_wp2
            refine ⟨⟨k + 1, by simp, by omega, ?_, hb2⟩, by simp [intOf]; omega⟩
            unfold Hid
            rw [hE.out, drop_cons HP.out]
            simp
        · have hkl2 : k = l.length := by omega
          go_wp2
          go_ret
          refine ⟨ret_bool ?_, hb2⟩
          rw [hE.out, hkl2, List.drop_length]
          simp
end Go.Proofs.YtdajacodfnidfaaGreatDoor
