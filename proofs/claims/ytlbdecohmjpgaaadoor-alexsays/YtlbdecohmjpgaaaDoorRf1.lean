/- The document's own lexer: where a bracket closes. -/
import Derived.Test.YtlbdecohmjpgaaaDoorRd19
import Derived.Test.YtlbdecohmjpgaaaDoorRefNm
namespace Go.Proofs.YtlbdecohmjpgaaaDoor
open Go.RowKit
attribute [local go_sem] Oper.semAt_some

theorem pSing_suf : ∀ (l u : List UInt8), pSing l = some u → u <:+ l
  | [], u, h => by cases h
  | c :: t, u, h => by
    rw [pSing] at h
    split at h
    · cases h; exact List.suffix_cons _ _
    · exact (pSing_suf t u h).trans (List.suffix_cons _ _)
theorem tail_suf (t : List UInt8) : t.tail <:+ t := List.tail_suffix t
theorem pass_suf : ∀ (f k : Nat) (l u : List UInt8), pass f k l = some u → u <:+ l := by
  intro f
  induction f with
  | zero => intro k l u h; cases k <;> cases l <;> cases h
  | succ f ih =>
    intro k l u h
    cases l with
    | nil => rw [pass_nil] at h; cases h
    | cons c t =>
      have ht : t <:+ c :: t := List.suffix_cons _ _
      cases k with
      | zero =>
        rw [pass_dbl] at h
        split at h
        · cases h; exact ht
        · split at h
          · exact (ih 0 _ u h).trans ((tail_suf t).trans ht)
          · split at h
            · obtain ⟨v, h1, h2⟩ := Option.bind_eq_some_iff.1 h
              exact (ih 0 v u h2).trans ((ih 1 _ v h1).trans ((tail_suf t).trans ht))
            · exact (ih 0 t u h).trans ht
      | succ k =>
        rw [pass_cmd] at h
        split at h
        · exact (ih _ _ u h).trans ((tail_suf t).trans ht)
        · split at h
          · obtain ⟨v, h1, h2⟩ := Option.bind_eq_some_iff.1 h
            exact (ih _ v u h2).trans ((pSing_suf t v h1).trans ht)
          · split at h
            · obtain ⟨v, h1, h2⟩ := Option.bind_eq_some_iff.1 h
              exact (ih _ v u h2).trans ((ih 0 t v h1).trans ht)
            · split at h
              · exact (ih _ t u h).trans ht
              · split at h
                · split at h
                  · cases h; exact ht
                  · exact (ih _ t u h).trans ht
                · exact (ih _ t u h).trans ht
theorem pass_drop {s : ByteArray} {f k i : Nat} {u : List UInt8} (h : pass f k (s.data.toList.drop i) = some u) : u = s.data.toList.drop (s.size - u.length) ∧ u.length + i < s.size := by
  have h1 := (pass_suf f k _ u h).trans (List.drop_suffix i s.data.toList)
  have h2 := pass_lt f k _ u h
  have hl : s.data.toList.length = s.size := by rw [Array.length_toList]; rfl
  rw [List.length_drop, hl] at h2
  refine ⟨?_, by omega⟩
  have h3 := List.suffix_iff_eq_drop.1 h1
  rwa [hl] at h3
/-- Where the bracket stands, or -1. -/
def clR (N : Nat) : Option (List UInt8) → Int
  | none => -1
  | some u => (N : Int) - u.length - 1
theorem drop_out (s : ByteArray) (k : Nat) (h : s.size ≤ k) : s.data.toList.drop k = [] := drop_none s k (by omega)
set_option maxRecDepth 100000 in
set_option maxHeartbeats 8000000 in
theorem closes_of (b : Nat) (s : ByteArray) (W : World) (hc : W.cell? ⟨b, 0, none⟩ = some (.string s)) (hs : s.size < 1099511627776) (i0 F : Nat) (hF : s.size - i0 < F) (hi0 : i0 ≤ s.size + 2)
    (ih : ∀ j f, i0 < j → s.size - j < f → j ≤ s.size + 2 → Calls Tryd.prog 48 #[.pointer (some ⟨b, 0, none⟩), .int .i64 (j : Nat)] W fun e w' => e = .returned (.int .i64 (clR s.size (pass f 1 (s.data.toList.drop j)))) ∧ w' = W) :
    Calls Tryd.prog 48 #[.pointer (some ⟨b, 0, none⟩), .int .i64 (i0 : Nat)] W fun e w' => e = .returned (.int .i64 (clR s.size (pass F 1 (s.data.toList.drop i0)))) ∧ w' = W := by
  obtain ⟨R, HR⟩ : ∃ R, Hid (pass F 1 (s.data.toList.drop i0) = R) := ⟨_, rfl⟩
  rw [HR.out]
  have HIH : Hid _ := ih
  clear ih
  go_enter Tryd.func48, Tryd.ntmps48
  go_wp2_with fail
  go_loop [1, 4, 5] (fun v1 v4 v5 => ∃ i k f : Nat, v1 = .int .i64 i ∧ v4 = .int .i64 0 ∧ v5 = .int .i64 ((k : Int) + 1) ∧ i0 ≤ i ∧ i ≤ s.size + 2 ∧ k ≤ i ∧ s.size - i < f ∧ Hid (R = pass f (k + 1) (s.data.toList.drop i))) (fun v1 _ _ => s.size + 3 - (intOf v1).toNat)
  case atStart => exact ⟨i0, 0, F, rfl, rfl, rfl, Nat.le_refl _, hi0, Nat.zero_le _, hF, HR.out.symm⟩
  case round =>
    obtain ⟨i, k, f, rfl, rfl, rfl, hi1, hi2, hk, hf, HP⟩ := hrel
    by_cases hlt : i < s.size
    · have hlt' : (i : Int) < (s.size : Int) := by omega
      obtain ⟨f, rfl⟩ : ∃ g, f = g + 1 := ⟨f - 1, by omega⟩
      have hd := drop_cons s i hlt
      have hP := HP.out
      rw [hd, pass_cmd] at hP
      clear HP hd
      by_cases c92 : s[i] = 92
      · have q92 : (((s[i]).toNat : Int) == 92) = true := by rw [c92]; rfl
        rw [if_pos c92, List.tail_drop] at hP
        have HP : Hid _ := hP
        clear hP c92
        go_wp2_with fail
        exact ⟨⟨i + 2, k, f, by simp; omega, rfl, rfl, by omega, by omega, by omega, by omega, HP.out⟩, by simp [intOf]; omega⟩
      · have q92 : (((s[i]).toNat : Int) == 92) = false := byte_ne s[i] 92 c92
        rw [if_neg c92] at hP
        by_cases c39 : s[i] = 39
        · have q39 : (((s[i]).toNat : Int) == 39) = true := by rw [c39]; rfl
          rw [if_pos c39] at hP
          have HP : Hid _ := hP
          clear hP c92 c39
          go_wp2_with fail
          go_loop [1] (fun v1 => ∃ j : Nat, v1 = .int .i64 j ∧ i + 1 ≤ j ∧ j ≤ s.size ∧ Hid (R = (pSing (s.data.toList.drop j)).bind (pass f (k + 1)))) (fun v1 => s.size - (intOf v1).toNat)
          case atStart => exact ⟨i + 1, by simp, Nat.le_refl _, by omega, HP.out⟩
          case round =>
            obtain ⟨j, rfl, hj1, hj2, HQ⟩ := hrel
            clear HP
            by_cases hjl : j < s.size
            · have hjl' : (j : Int) < (s.size : Int) := by omega
              have hQ := HQ.out
              rw [drop_cons s j hjl, pSing] at hQ
              clear HQ
              by_cases c : s[j] = 39
              · have q : (((s[j]).toNat : Int) == 39) = true := by rw [c]; rfl
                rw [if_pos c, Option.bind_some] at hQ
                have HQ : Hid _ := hQ
                clear hQ c
                go_wp2_with fail
                exact ⟨⟨j + 1, k, f, by simp, rfl, rfl, by omega, by omega, by omega, by omega, HQ.out⟩, by simp [intOf]; omega⟩
              · have q : (((s[j]).toNat : Int) == 39) = false := byte_ne s[j] 39 c
                rw [if_neg c] at hQ
                have HQ : Hid _ := hQ
                clear hQ c
                go_wp2_with fail
                exact ⟨⟨j + 1, by simp, by omega, by omega, HQ.out⟩, by simp [intOf]; omega⟩
            · have hjl' : ¬ (j : Int) < (s.size : Int) := by omega
              have HQ1 : Hid (R = pass f (k + 1) (s.data.toList.drop (j + 1))) := by
                unfold Hid
                rw [HQ.out, drop_out s j (by omega), drop_out s (j + 1) (by omega), pass_nil]
                rfl
              clear HQ
              go_wp2_with fail
              exact ⟨⟨j + 1, k, f, by simp, rfl, rfl, by omega, by omega, by omega, by omega, HQ1.out⟩, by simp [intOf]; omega⟩
        · have q39 : (((s[i]).toNat : Int) == 39) = false := byte_ne s[i] 39 c39
          rw [if_neg c39] at hP
          by_cases c34 : s[i] = 34
          · have q34 : (((s[i]).toNat : Int) == 34) = true := by rw [c34]; rfl
            rw [if_pos c34] at hP
            have HP : Hid _ := hP
            clear hP c92 c39 c34
            go_wp2_with fail
            go_loop [1, 4] (fun v1 v4 => ∃ j g : Nat, v1 = .int .i64 j ∧ v4 = .int .i64 0 ∧ i + 1 ≤ j ∧ j ≤ s.size + 1 ∧ s.size - j < g ∧ Hid (R = (pass g 0 (s.data.toList.drop j)).bind (pass f (k + 1)))) (fun v1 _ => s.size + 2 - (intOf v1).toNat)
            case atStart => exact ⟨i + 1, f, by simp, rfl, Nat.le_refl _, by omega, by omega, HP.out⟩
            case round =>
              obtain ⟨j, g, rfl, rfl, hj1, hj2, hg, HQ⟩ := hrel
              clear HP
              by_cases hjl : j < s.size
              · have hjl' : (j : Int) < (s.size : Int) := by omega
                obtain ⟨g, rfl⟩ : ∃ g', g = g' + 1 := ⟨g - 1, by omega⟩
                have hQ := HQ.out
                rw [drop_cons s j hjl, pass_dbl] at hQ
                clear HQ
                by_cases d34 : s[j] = 34
                · have p34 : (((s[j]).toNat : Int) == 34) = true := by rw [d34]; rfl
                  rw [if_pos d34, Option.bind_some] at hQ
                  have HQ : Hid _ := hQ
                  clear hQ d34
                  go_wp2_with fail
                  exact ⟨⟨j + 1, k, f, by simp, rfl, rfl, by omega, by omega, by omega, by omega, HQ.out⟩, by simp [intOf]; omega⟩
                · have p34 : (((s[j]).toNat : Int) == 34) = false := byte_ne s[j] 34 d34
                  rw [if_neg d34] at hQ
                  by_cases d92 : s[j] = 92
                  · have p92 : (((s[j]).toNat : Int) == 92) = true := by rw [d92]; rfl
                    rw [if_pos d92, List.tail_drop] at hQ
                    have HQ : Hid _ := hQ
                    clear hQ d34 d92
                    go_wp2_with fail
                    exact ⟨⟨j + 2, g, by simp; omega, rfl, by omega, by omega, by omega, HQ.out⟩, by simp [intOf]; omega⟩
                  · have p92 : (((s[j]).toNat : Int) == 92) = false := byte_ne s[j] 92 d92
                    rw [if_neg d92] at hQ
                    by_cases d36 : s[j] = 36
                    · have p36 : (((s[j]).toNat : Int) == 36) = true := by rw [d36]; rfl
                      by_cases hj3 : j + 1 < s.size
                      · have hj3' : (j : Int) + 1 < (s.size : Int) := by omega
                        have hhd : (s.data.toList.drop (j + 1)).head? = some s[j + 1] := by rw [drop_cons s (j + 1) hj3]; rfl
                        by_cases d40 : s[j + 1] = 40
                        · have p40 : (((s[j + 1]).toNat : Int) == 40) = true := by rw [d40]; rfl
                          rw [if_pos ⟨d36, by rw [hhd, d40]⟩, List.tail_drop] at hQ
                          have HI : Hid _ := HIH.out (j + 2) g (by omega) (by omega) (by omega)
                          cases hp : pass g 1 (s.data.toList.drop (j + 2)) with
                          | none =>
                            rw [hp] at hQ
                            have HQ : Hid (R = none) := hQ
                            have HI2 : Hid (Calls Tryd.prog 48 #[.pointer (some ⟨b, 0, none⟩), .int .i64 ((j : Int) + 2)] W fun e w' => e = .returned (.int .i64 (-1)) ∧ w' = W) := by
                              have := HI.out
                              rw [hp] at this
                              exact this
                            clear hQ hp HI d34 d92 d36 d40 hhd
                            go_wp2_with fail
                            refine Calls.mono HI2.out ?_
                            rintro e w1 ⟨rfl, hw⟩
                            obtain rfl := hw.symm
                            clear hw
                            go_wp2_with fail
                            go_ret
                            exact ⟨by rw [HQ.out]; rfl, rfl⟩
                          | some u =>
                            rw [hp] at hQ
                            obtain ⟨hu1, hu2⟩ := pass_drop hp
                            obtain ⟨m, hm⟩ : ∃ m : Nat, s.size - u.length = m + 1 := ⟨s.size - u.length - 1, by omega⟩
                            have HQ : Hid (R = (pass g 0 (s.data.toList.drop (m + 1))).bind (pass f (k + 1))) := by
                              unfold Hid
                              rw [← hm, ← hu1]
                              exact hQ
                            have HI2 : Hid (Calls Tryd.prog 48 #[.pointer (some ⟨b, 0, none⟩), .int .i64 ((j : Int) + 2)] W fun e w' => e = .returned (.int .i64 (m : Nat)) ∧ w' = W) := by
                              have := HI.out
                              rw [hp, show clR s.size (some u) = (m : Nat) by simp only [clR]; omega] at this
                              exact this
                            clear hQ hp HI d34 d92 d36 d40 hhd hu1
                            go_wp2_with fail
                            refine Calls.mono HI2.out ?_
                            rintro e w1 ⟨rfl, hw⟩
                            obtain rfl := hw.symm
                            clear hw
                            go_wp2_with fail
                            exact ⟨⟨m + 1, g, by simp, rfl, by omega, by omega, by omega, HQ.out⟩, by simp [intOf]; omega⟩
                        · have p40 : (((s[j + 1]).toNat : Int) == 40) = false := byte_ne s[j + 1] 40 d40
                          rw [if_neg (by rw [hhd]; exact fun h => d40 (Option.some.inj h.2))] at hQ
                          have HQ : Hid _ := hQ
                          clear hQ d34 d92 d36 d40 hhd
                          go_wp2_with fail
                          exact ⟨⟨j + 1, g, by simp, rfl, by omega, by omega, by omega, HQ.out⟩, by simp [intOf]; omega⟩
                      · have hj3' : decide ((j : Int) + 1 < (s.size : Int)) = false := decide_eq_false (by omega)
                        rw [if_neg (by rw [drop_out s (j + 1) (by omega)]; exact fun h => by cases h.2)] at hQ
                        have HQ : Hid _ := hQ
                        clear hQ d34 d92 d36
                        go_wp2_with fail
                        exact ⟨⟨j + 1, g, by simp, rfl, by omega, by omega, by omega, HQ.out⟩, by simp [intOf]; omega⟩
                    · have p36 : (((s[j]).toNat : Int) == 36) = false := byte_ne s[j] 36 d36
                      rw [if_neg (fun h => d36 h.1)] at hQ
                      have HQ : Hid _ := hQ
                      clear hQ d34 d92 d36
                      go_wp2_with fail
                      exact ⟨⟨j + 1, g, by simp, rfl, by omega, by omega, by omega, HQ.out⟩, by simp [intOf]; omega⟩
              · have hjl' : ¬ (j : Int) < (s.size : Int) := by omega
                have HQ1 : Hid (R = pass f (k + 1) (s.data.toList.drop (j + 1))) := by
                  unfold Hid
                  rw [HQ.out, drop_out s j (by omega), drop_out s (j + 1) (by omega), pass_nil, pass_nil]
                  rfl
                clear HQ
                go_wp2_with fail
                exact ⟨⟨j + 1, k, f, by simp, rfl, rfl, by omega, by omega, by omega, by omega, HQ1.out⟩, by simp [intOf]; omega⟩
          · have q34 : (((s[i]).toNat : Int) == 34) = false := byte_ne s[i] 34 c34
            rw [if_neg c34] at hP
            by_cases c40 : s[i] = 40
            · have q40 : (((s[i]).toNat : Int) == 40) = true := by rw [c40]; rfl
              rw [if_pos c40] at hP
              have HP : Hid _ := hP
              clear hP c92 c39 c34 c40
              go_wp2_with fail
              exact ⟨⟨i + 1, k + 1, f, by simp, rfl, by simp, by omega, by omega, by omega, by omega, HP.out⟩, by simp [intOf]; omega⟩
            · have q40 : (((s[i]).toNat : Int) == 40) = false := byte_ne s[i] 40 c40
              rw [if_neg c40] at hP
              by_cases c41 : s[i] = 41
              · have q41 : (((s[i]).toNat : Int) == 41) = true := by rw [c41]; rfl
                rw [if_pos c41] at hP
                cases k with
                | zero =>
                  rw [if_pos rfl] at hP
                  have HP : Hid (clR s.size R = (i : Int)) := by
                    unfold Hid
                    rw [hP]
                    simp only [clR, len_drop' s (i + 1)]
                    omega
                  clear hP c92 c39 c34 c40 c41
                  go_wp2_with fail
                  go_ret
                  exact ⟨ret_int HP.out.symm, rfl⟩
                | succ k =>
                  rw [if_neg (by omega)] at hP
                  have hk1 : ((k : Int) + 1 == 0) = false := beq_eq_false_iff_ne.2 (by omega)
                  have HP : Hid _ := hP
                  clear hP c92 c39 c34 c40 c41
                  go_wp2_with fail
                  exact ⟨⟨i + 1, k, f, by simp, rfl, by simp, by omega, by omega, by omega, by omega, HP.out⟩, by simp [intOf]; omega⟩
              · have q41 : (((s[i]).toNat : Int) == 41) = false := byte_ne s[i] 41 c41
                rw [if_neg c41] at hP
                have HP : Hid _ := hP
                clear hP c92 c39 c34 c40 c41
                go_wp2_with fail
                exact ⟨⟨i + 1, k, f, by simp, rfl, rfl, by omega, by omega, by omega, by omega, HP.out⟩, by simp [intOf]; omega⟩
    · have hlt' : ¬ (i : Int) < (s.size : Int) := by omega
      have HP1 : Hid (R = none) := by
        unfold Hid
        rw [HP.out, drop_out s i (by omega), pass_nil]
      clear HP
      go_wp2_with fail
      go_ret
      exact ⟨by rw [HP1.out]; rfl, rfl⟩
theorem closes_any (b : Nat) (s : ByteArray) (W : World) (hc : W.cell? ⟨b, 0, none⟩ = some (.string s)) (hs : s.size < 1099511627776) : ∀ (n i f : Nat), s.size + 2 - i ≤ n → s.size - i < f → i ≤ s.size + 2 →
    Calls Tryd.prog 48 #[.pointer (some ⟨b, 0, none⟩), .int .i64 (i : Nat)] W fun e w' => e = .returned (.int .i64 (clR s.size (pass f 1 (s.data.toList.drop i)))) ∧ w' = W := by
  intro n
  induction n with
  | zero => intro i f h1 h2 h3; exact closes_of b s W hc hs i f h2 h3 (fun j g h4 _ h5 => absurd h5 (by omega))
  | succ n ih => intro i f h1 h2 h3; exact closes_of b s W hc hs i f h2 h3 (fun j g h4 h5 h6 => ih j g (by omega) h5 h6)
end Go.Proofs.YtlbdecohmjpgaaaDoor
