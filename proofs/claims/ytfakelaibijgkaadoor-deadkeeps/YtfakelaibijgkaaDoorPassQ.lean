/- What is passed fits, and is no longer. -/
import Derived.Test.YtfakelaibijgkaaDoorDe2
namespace Go.Proofs.YtfakelaibijgkaaDoor
open Go.RowKit

theorem new_len (kind n : Int) (s : Txt) (Ys : List (List Nd)) : (newN kind n s Ys).length = Ys.flatten.length + 1 := by simp [newN]
theorem kid_len {d : Nat} {word : Bool} {Y : List Nd} (h : Fits d word Y) : Y.length = (kidsL Y).flatten.length + 1 := by
  obtain ⟨e, n, s, Zs, _, hY, hq, _⟩ := h.out
  have := congrArg List.length hY
  rw [new_len, ← hq] at this
  exact this
theorem seqC_len (Ms : List (List Nd)) : (seqC Ms).length ≤ Ms.flatten.length + 1 := by
  match Ms with
  | [] => simp [seqC, nopL, newN]
  | [M] => simp [seqC]
  | M :: N :: r => rw [seqC, new_len]; omega
theorem lastNop_flat : ∀ (Ys : List (List Nd)), (lastNop Ys).flatten.length ≤ Ys.flatten.length
  | [] => Nat.le_refl _
  | [Y] => Nat.le_refl _
  | Y :: Z :: r => by
    have ih := lastNop_flat (Z :: r)
    rw [lastNop]
    split
    · rw [List.flatten_cons, List.length_append]; omega
    · rw [List.flatten_cons, List.length_append, List.flatten_cons, List.length_append]; omega
theorem seqD_len {d : Nat} {Ys : List (List Nd)} (h : ∀ Y ∈ Ys, Fits d false Y) : (seqD Ys).length ≤ Ys.flatten.length + 1 := by
  have h1 := seqC_len (lastNop (openK Ys))
  have h2 := lastNop_flat (openK Ys)
  have h3 := openK_flat Ys h
  unfold seqD
  omega
/-- What choice leaves fits. -/
theorem choD_fits {d : Nat} (n : Int) (s : Txt) : ∀ (f g : Nat) (kind : Int) (Ys : List (List Nd)), (kind = 24 ∨ kind = 25 ∨ kind = 26) → numB kind n = true → strB kind n s = true → cntB kind Ys.length = true → (∀ Y ∈ Ys, Fits d false Y) → (∀ Y, Ys[0]? = some Y → Fits g false Y) → g ≤ f → Fits (d + 1) false (choD (f + 1) kind n s Ys) ∧ (choD (f + 1) kind n s Ys).length ≤ Ys.flatten.length + 1 := by
  intro f
  induction f with
  | zero =>
    intro g kind Ys hk hn hs hc hF hg hgf
    match Ys, hc, hg with
    | [], hc, _ => exact absurd hc (by rcases hk with rfl | rfl | rfl <;> decide)
    | F :: r, _, hg =>
      have := hg F rfl
      obtain rfl : g = 0 := by omega
      cases this
  | succ f ih =>
    intro g kind Ys hk hn hs hc hF hg hgf
    have hN : Fits (d + 1) false (newN kind n s Ys) := Fits.mk d false kind n s Ys (by rcases hk with rfl | rfl | rfl <;> decide) hn hs hc (fun j Y hY => by
      have : wordAtB kind Ys.length j = false := by rcases hk with rfl | rfl | rfl <;> simp [if_word, and_word, or_word]
      rw [this]
      exact hF Y (List.mem_of_getElem? hY))
    match Ys, hc, hg, hF, hN with
    | [], hc, _, _, _ => exact absurd hc (by rcases hk with rfl | rfl | rfl <;> decide)
    | [_], hc, _, _, _ => exact absurd hc (by rcases hk with rfl | rfl | rfl <;> simp [cntB])
    | F :: G :: r, hc, hg, hF, hN =>
      rw [choD]
      by_cases h1 : kind = 26 ∧ kindOf F = 20
      · rw [if_pos h1]
        exact ⟨(hF F (by simp)).up, by simp; omega⟩
      rw [if_neg h1]
      by_cases h2 : kindOf F = 20
      · rw [if_pos h2]
        exact ⟨(hF G (by simp)).up, by simp; omega⟩
      rw [if_neg h2]
      by_cases h3 : kind = 24 ∧ kindOf F = 27
      · rw [if_pos h3]
        obtain ⟨rfl, hk27⟩ := h3
        have hfF := hg F rfl
        have hfl := kid_len hfF
        obtain ⟨Bk, e, hkb, hge, hfb⟩ : ∃ Bk e, kidsL F = [Bk] ∧ g = e + 1 ∧ Fits e false Bk := by
          obtain ⟨e, kn, ks, Zs, hge, _, hqk, _, _, _, hc, hz⟩ := hfF.out
          rw [hk27] at hc hz
          rw [hqk]
          match Zs, hc, hz with
          | [], hc, _ => exact absurd hc (by simp [cntB])
          | [Z], _, hz => exact ⟨Z, e, rfl, hge, by have := hz 0 Z rfl; rw [not_word] at this; exact this⟩
          | _ :: _ :: _, hc, _ => exact absurd hc (by unfold cntB; simp; omega)
        have hfB : Fits d false Bk := by
          obtain ⟨e, kn, ks, Zs, hge, _, hqk, _, _, _, hc, hz⟩ := (hF F (by simp)).out
          rw [hkb] at hqk
          rw [hk27] at hz
          have := hz 0 Bk (by rw [← hqk]; rfl)
          rw [not_word] at this
          rw [hge]
          exact this.up
        rw [hkb] at hfl ⊢
        match r, hc, hF with
        | [H], hc, hF =>
          have hr := ih e 24 [Bk, H, G] (Or.inl rfl) hn hs rfl (fun Y hY => by
            simp only [List.mem_cons, List.not_mem_nil, or_false] at hY
            rcases hY with rfl | rfl | rfl
            · exact hfB
            · exact hF _ (by simp)
            · exact hF _ (by simp)) (fun Y hY => by
            rw [List.getElem?_cons_zero] at hY
            obtain rfl := Option.some.inj hY
            exact hfb) (by omega)
          refine ⟨hr.1, Nat.le_trans hr.2 ?_⟩
          simp only [List.flatten_cons, List.flatten_nil, List.length_append, List.append_nil] at hfl ⊢
          omega
        | [], hc, _ => exact absurd hc (by simp [cntB])
        | _ :: _ :: _, hc, _ => exact absurd hc (by unfold cntB; simp; omega)
      · rw [if_neg h3]
        exact ⟨hN, by rw [new_len]; omega⟩
theorem putD_fits {d : Nat} {word : Bool} {kind n : Int} {s : Txt} {Ys : List (List Nd)} (hd : d ≤ 30) (h1 : isOneB kind word = true) (h2 : numB kind n = true) (h3 : strB kind n s = true) (h4 : cntB kind Ys.length = true) (h : ∀ (j : Nat) (Y : List Nd), Ys[j]? = some Y → Fits d (wordAtB kind Ys.length j) Y) :
    Fits (d + 1) word (putD kind n s Ys) ∧ (putD kind n s Ys).length ≤ Ys.flatten.length + 1 := by
  have hN : Fits (d + 1) word (newN kind n s Ys) := Fits.mk d word kind n s Ys h1 h2 h3 h4 h
  unfold putD
  by_cases e1 : kind = 23
  · subst e1
    rw [if_pos rfl]
    obtain rfl : word = false := by cases word with | true => exact absurd h1 (by decide) | false => rfl
    have hF : ∀ Y ∈ Ys, Fits d false Y := fun Y hY => by
      obtain ⟨j, hj⟩ := List.mem_iff_getElem?.1 hY
      have := h j Y hj
      rw [seq_word] at this
      exact this
    exact ⟨seqD_fits hF (by rintro rfl; exact absurd h4 (by simp [cntB])), seqD_len hF⟩
  rw [if_neg e1]
  by_cases e2 : kind = 24 ∨ kind = 25 ∨ kind = 26
  · rw [if_pos e2]
    obtain rfl : word = false := by cases word with | true => exact absurd h1 (by rcases e2 with rfl | rfl | rfl <;> decide) | false => rfl
    have hF : ∀ Y ∈ Ys, Fits d false Y := fun Y hY => by
      obtain ⟨j, hj⟩ := List.mem_iff_getElem?.1 hY
      have := h j Y hj
      rw [show wordAtB kind Ys.length j = false by rcases e2 with rfl | rfl | rfl <;> simp [if_word, and_word, or_word]] at this
      exact this
    exact choD_fits n s 30 d kind Ys e2 h2 h3 h4 hF (fun Y hY => hF Y (List.mem_of_getElem? hY)) hd
  rw [if_neg e2]
  by_cases e3 : kind = 27
  · subst e3
    rw [if_pos rfl]
    obtain rfl : word = false := by cases word with | true => exact absurd h1 (by decide) | false => rfl
    match Ys, h4, h, hN with
    | [], h4, _, _ => exact absurd h4 (by simp [cntB])
    | _ :: _ :: _, h4, _, _ => exact absurd h4 (by unfold cntB; simp; omega)
    | [Y], _, h, hN =>
      have hY := h 0 Y rfl
      rw [not_word] at hY
      have hl := kid_len hY
      unfold notD
      simp only
      by_cases e4 : kindOf Y = 27
      · rw [if_pos e4]
        obtain ⟨e, kn, ks, Zs, hde, _, hqk, _, _, _, hc, hz⟩ := hY.out
        rw [e4] at hc hz
        rw [hqk] at hl ⊢
        match Zs, hc, hz, hl with
        | [], hc, _, _ => exact absurd hc (by simp [cntB])
        | Z :: r, hc, hz, hl =>
          simp only
          have hZ := hz 0 Z rfl
          rw [not_word] at hZ
          by_cases e5 : kindOf Z = 27
          · rw [if_pos e5]
            refine ⟨?_, ?_⟩
            · rw [hde]; exact hZ.up.up
            · simp only [List.flatten_cons, List.length_append, List.flatten_nil, List.length_nil] at hl ⊢
              omega
          · rw [if_neg e5]
            exact ⟨hN, by rw [new_len]; omega⟩
      · rw [if_neg e4]
        exact ⟨hN, by rw [new_len]; omega⟩
  rw [if_neg e3]
  by_cases e4 : kind = 34 ∨ kind = 35 ∨ kind = 30
  · rw [if_pos e4]
    obtain rfl : word = false := by cases word with | true => exact absurd h1 (by rcases e4 with rfl | rfl | rfl <;> decide) | false => rfl
    match Ys, h4, h, hN with
    | [], h4, _, _ => exact absurd h4 (by rcases e4 with rfl | rfl | rfl <;> simp [cntB])
    | [W], _, _, hN =>
      unfold wordD
      simp only
      split
      · exact ⟨hN, by rw [new_len]; omega⟩
      · exact ⟨fits_nop d, by simp [nopL, newN]⟩
    | W :: C :: r, h4, h, hN =>
      unfold wordD
      simp only
      by_cases e5 : hasSub W = true
      · rw [if_pos e5]
        exact ⟨hN, by rw [new_len]; omega⟩
      rw [if_neg e5]
      by_cases e6 : kindOf C = 20
      · rw [if_pos e6]
        exact ⟨fits_nop d, by simp [nopL, newN]⟩
      rw [if_neg e6]
      by_cases e7 : kind = 34 ∧ kindOf C = 34
      · rw [if_pos e7]
        obtain ⟨rfl, hk34⟩ := e7
        have hC := h 1 C rfl
        rw [show wordAtB 34 ((W :: C :: r).length : Int) ((1 : Nat) : Int) = false by unfold wordAtB; simp] at hC
        obtain ⟨e, kn, ks, Zs, _, _, hqk, _, _, _, hc, _⟩ := hC.out
        rw [hk34] at hc
        rw [hqk]
        match Zs, hc with
        | [], hc => exact absurd hc (by simp [cntB])
        | V :: u, _ =>
          simp only
          split
          · exact ⟨hN, by rw [new_len]; omega⟩
          · exact ⟨hC.up, by simp; omega⟩
      · rw [if_neg e7]
        exact ⟨hN, by rw [new_len]; omega⟩
  · rw [if_neg e4]
    exact ⟨hN, by rw [new_len]; omega⟩
theorem flat_map_le (f : List Nd → List Nd) : ∀ (Ys : List (List Nd)), (∀ Y ∈ Ys, (f Y).length ≤ Y.length) → (Ys.map f).flatten.length ≤ Ys.flatten.length
  | [], _ => Nat.le_refl _
  | Y :: r, h => by
    have h1 := h Y (by simp)
    have h2 := flat_map_le f r (fun Z hZ => h Z (by simp [hZ]))
    rw [List.map_cons, List.flatten_cons, List.flatten_cons, List.length_append, List.length_append]
    omega
theorem passD_new {d : Nat} {kind n : Int} {s : Txt} {Ys : List (List Nd)} (h : kidsL (newN kind n s Ys) = Ys) : passD (d + 1) (newN kind n s Ys) = putD kind n s (Ys.map (passD d)) := by
  unfold newN at h ⊢
  rw [passD, h]
theorem passD_fits : ∀ (d : Nat) (word : Bool) (X : List Nd), d ≤ 31 → Fits d word X → Fits d word (passD d X) ∧ (passD d X).length ≤ X.length
  | 0, _, _, _, h => by cases h
  | d + 1, word, X, hd, h => by
    obtain ⟨e, n, s, Ys, he, hX, hq, h1, h2, h3, h4, hs⟩ := h.out
    obtain rfl : d = e := by omega
    obtain ⟨kind, hkd⟩ : ∃ kind, kind = kindOf X := ⟨_, rfl⟩
    rw [← hkd] at hX h1 h2 h3 h4 hs
    have hl : X.length = Ys.flatten.length + 1 := by rw [hX, new_len]
    rw [hX] at hq
    have hY : ∀ (j : Nat) (Y : List Nd), Ys[j]? = some Y → Fits d (wordAtB kind Ys.length j) (passD d Y) ∧ (passD d Y).length ≤ Y.length := fun j Y hj => passD_fits d _ Y (by omega) (hs j Y hj)
    have hf := flat_map_le (passD d) Ys (fun Y hm => by
      obtain ⟨j, hj⟩ := List.mem_iff_getElem?.1 hm
      exact (hY j Y hj).2)
    have hp := putD_fits (d := d) (Ys := Ys.map (passD d)) (by omega) h1 h2 h3 (by rw [List.length_map]; exact h4) (fun j Y hj => by
      rw [List.getElem?_map] at hj
      obtain ⟨Z, hZ, rfl⟩ := Option.map_eq_some_iff.1 hj
      rw [List.length_map]
      exact (hY j Z hZ).1)
    rw [hl, hX, passD_new hq]
    exact ⟨hp.1, by omega⟩
end Go.Proofs.YtfakelaibijgkaaDoor
