/- Things that came in, to be told; are they few. -/
import Derived.Test.YtikogljojnapaaaTell7a
namespace Go.Proofs.Ytikogljojnapaaa
open Go.RowKit

structure Dd where
  kd : Int
  k : Txt
  lv : Value
  l : List Txt
  b : Bool
  pv : Value
  nl : List Nd
abbrev ddC (d : Dd) : List Value := [.int .i64 d.kd, str d.k, d.lv, .bool d.b, d.pv]
/-- Things in memory, to be read. -/
def DoAt (W : World) (v : Value) (X : List Dd) : Prop := RowAt W v 5 (X.map ddC) ∧ ∀ d ∈ X, Tx W d.lv d.l ∧ NdAt W d.pv d.nl
theorem DoAt.below {W W' : World} {v : Value} {X : List Dd} {B : Nat} (h : DoAt W v X) (hb : Below B W W') (hB : W.heap.size ≤ B) : DoAt W' v X := ⟨RowAt.below h.1 hb hB, fun d hd => ⟨(h.2 d hd).1.below hb hB, (h.2 d hd).2.below hb hB⟩⟩
theorem DoAt.form {W : World} {v : Value} {X : List Dd} (h : DoAt W v X) : ∃ ad cap, v = .slice ad X.length cap := by
  obtain ⟨ad, cap, hv⟩ := RowAt.form h.1
  exact ⟨ad, cap, by rw [hv]; simp⟩
theorem DoAt.at {W : World} {v : Value} {X : List Dd} (h : DoAt W v X) {j : Nat} {d : Dd} (hj : X[j]? = some d) : ∃ g o cap, v = .slice (some ⟨g, o, none⟩) X.length cap ∧ g < W.heap.size ∧
    (W.cell? ⟨g, o + j * 5, none⟩ = some (.int .i64 d.kd) ∧ W.cell? ⟨g, o + j * 5 + 1, none⟩ = some (str d.k) ∧ W.cell? ⟨g, o + j * 5 + 2, none⟩ = some d.lv ∧ W.cell? ⟨g, o + j * 5 + 3, none⟩ = some (.bool d.b) ∧ W.cell? ⟨g, o + j * 5 + 4, none⟩ = some d.pv) ∧ Tx W d.lv d.l ∧ NdAt W d.pv d.nl := by
  rcases h.1 with ⟨h0, _⟩ | ⟨g, o, cap, h1, h2, h3, h4⟩
  · have : X = [] := by simpa using h0
    rw [this] at hj
    simp at hj
  · have hc := h4 j (ddC d) (by rw [List.getElem?_map, hj]; rfl)
    exact ⟨g, o, cap, by simpa using h1, h3, ⟨hc 0 _ rfl, hc 1 _ rfl, hc 2 _ rfl, hc 3 _ rfl, hc 4 _ rfl⟩, h.2 d (List.mem_of_getElem? hj)⟩
def Few (d : Dd) : Prop := d.l.length ≤ 20 ∧ d.nl.length ≤ 20 ∧ d.k.length ≤ 100
/-- A truth value is answered; if it is true, they are few. -/
def LightP (X : List Dd) (W : World) (e : Ending) (w' : World) : Prop := ∃ r, e = .returned (.bool r) ∧ w' = W ∧ (r = true → X.length ≤ 60 ∧ ∀ d ∈ X, Few d)
theorem LightP.no (X : List Dd) (W : World) : LightP X W (.returned (.bool false)) W := ⟨false, rfl, rfl, fun h => by cases h⟩
theorem str_size (p : Txt) : (⟨p.toArray⟩ : ByteArray).size = p.length := by simp [ByteArray.size]
set_option maxRecDepth 100000 in
set_option maxHeartbeats 4000000 in
theorem light_any (v : Value) (X : List Dd) (W : World) (h : DoAt W v X) (hX : X.length ≤ maxLen) (hs : ∀ d ∈ X, d.k.length ≤ maxLen ∧ d.l.length ≤ maxLen ∧ d.nl.length ≤ maxLen ∧ ∀ s ∈ d.l, s.length ≤ maxLen) :
    Calls Try.prog 7 #[v] W (LightP X W) := by
  have HD : Hid (DoAt W v X) := h
  have HS : Hid (∀ d ∈ X, d.k.length ≤ maxLen ∧ d.l.length ≤ maxLen ∧ d.nl.length ≤ maxLen ∧ ∀ s ∈ d.l, s.length ≤ maxLen) := hs
  obtain ⟨ad, cap, rfl⟩ := h.form
  unfold maxLen at hX
  clear h hs
  go_enter Try.func7, Try.ntmps7
  go_wp2_with fail
  go_loopw [3, 4] (fun v3 _ wr => ∃ i : Nat, v3 = .int .i64 i ∧ i ≤ X.length ∧ wr = W ∧ i ≤ 61 ∧ Hid (∀ (j : Nat) (d : Dd), j < i → X[j]? = some d → Few d)) (fun v3 _ _ => X.length - (intOf v3).toNat)
  case atStart => exact ⟨0, rfl, Nat.zero_le _, rfl, by omega, fun j d hj => absurd hj (Nat.not_lt_zero _)⟩
  case round =>
    obtain ⟨i, rfl, hi, rfl, hi61, HI⟩ := hrel
    by_cases hil : i < X.length
    · by_cases h60 : i ≤ 60
      · obtain ⟨d, hd⟩ := mem_iff_some hil
        obtain ⟨g, o, cap', hv, hg, ⟨c0, c1, c2, c3, c4⟩, tl, tn⟩ := HD.out.at hd
        cases hv
        obtain ⟨adl, capl, hlv⟩ := tl.form
        obtain ⟨adp, capp, hpv⟩ := tn.form
        rw [hlv] at c2
        rw [hpv] at c4
        have hsz := HS.out d (List.mem_of_getElem? hd)
        unfold maxLen at hsz
        obtain ⟨z1, z2, z3, z4⟩ := hsz
        have hks : (⟨d.k.toArray⟩ : ByteArray).size = d.k.length := str_size d.k
        have HTL : Hid (Tx wr (.slice adl d.l.length capl) d.l) := by unfold Hid; rw [← hlv]; exact tl
        have HZ4 : Hid (∀ s ∈ d.l, s.length ≤ 9223372036854775807) := fun s hs => z4 s hs
        clear tl tn hlv hpv z4 c0 c3
        by_cases l20 : d.l.length > 20
        · go_wp2_with fail
          go_ret
          exact LightP.no X wr
        · by_cases n20 : d.nl.length > 20
          · go_wp2_with fail
            go_ret
            exact LightP.no X wr
          · by_cases k100 : d.k.length > 100
            · go_wp2_with fail
              go_ret
              exact LightP.no X wr
            · have HI2 : Hid (∀ (j : Nat) (e : Dd), j < i + 1 → X[j]? = some e → Few e) := fun j e hj he => by
                rcases Nat.lt_or_ge j i with h1 | h1
                · exact HI.out j e h1 he
                · rw [show j = i by omega, hd] at he
                  cases he
                  exact ⟨by omega, by omega, by omega⟩
              clear hd
              go_wp2_with fail
              go_loopw [4] (fun v4 wr2 => ∃ m : Nat, v4 = .int .i64 m ∧ m ≤ d.l.length ∧ wr2 = wr) (fun v4 _ => d.l.length - (intOf v4).toNat)
              case atStart => exact ⟨0, rfl, Nat.zero_le _, rfl⟩
              case round =>
                obtain ⟨m, rfl, hm, rfl⟩ := hrel
                by_cases hml : m < d.l.length
                · obtain ⟨s, hs⟩ := mem_iff_some hml
                  obtain ⟨gl, ol, cap', hv, _, hgl, hcl⟩ := HTL.out.inRow (fun e => by rw [e] at hml; simp at hml)
                  cases hv
                  have e1 := hcl m s hs
                  have hss : (⟨s.toArray⟩ : ByteArray).size = s.length := str_size s
                  have hsl := HZ4.out s (List.mem_of_getElem? hs)
                  clear hcl hgl hs
                  by_cases s100 : s.length > 100
                  · go_wp2_with fail
                    go_ret
                    exact LightP.no X wr
                  · go_wp2_with fail
                    exact ⟨⟨m + 1, by simp, by omega, trivial⟩, by simp [intOf]; omega⟩
                · go_wp2_with fail
                  go_roundw
                  case rel => exact ⟨i + 1, by simp, by omega, trivial, by omega, HI2⟩
                  case measure => simp [intOf]; omega
      · have hgt : ¬ (X.length : Int) ≤ 60 := by omega
        go_wp2_with fail
        go_ret
        exact LightP.no X wr
    · have hie : i = X.length := by omega
      subst hie
      by_cases h60 : X.length ≤ 60
      · have h60i : (X.length : Int) ≤ 60 := by omega
        go_wp2_with fail
        go_ret
        refine ⟨true, rfl, rfl, fun _ => ⟨h60, fun d hd => ?_⟩⟩
        obtain ⟨j, hj, rfl⟩ := List.mem_iff_getElem.1 hd
        exact HI.out j _ hj (List.getElem?_eq_getElem hj)
      · have h60i : ¬ (X.length : Int) ≤ 60 := by omega
        go_wp2_with fail
        go_ret
        exact LightP.no X wr
end Go.Proofs.Ytikogljojnapaaa
