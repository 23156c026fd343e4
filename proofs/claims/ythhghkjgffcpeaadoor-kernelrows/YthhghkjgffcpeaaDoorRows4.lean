/- The first row that fits is the one. -/
import Derived.Test.YthhghkjgffcpeaaDoorRows3
namespace Go.Proofs.YthhghkjgffcpeaaDoor
open Go.RowKit Go.Shelf

set_option maxRecDepth 100000 in
set_option maxHeartbeats 16000000 in
theorem rows_main (vo va : Value) (outs args : List Txt) (any : Int) (inp : Txt) (ea : Nat → Addr) (W : World) (ho : Tx W vo outs) (ha : Tx W va args) (hlo : outs.length < 140737488355328) (hla : args.length < 140737488355328) (hzo : ∀ s ∈ outs, s.length ≤ 140737488355328) (hza : ∀ s ∈ args, s.length ≤ 140737488355328) (hE : Ers W ea) :
    Calls Tryd.prog 7 #[vo, va, .int .i64 any, str inp] W fun e w' => e = .returned (.bool true) ∧ Below W.heap.size W w' := by
  obtain ⟨i0, hi, hz0, hz1, hz2⟩ := info_parts info77
  have HO : Hid (∀ W', Below W.heap.size W W' → Tx W' vo outs) := fun W' h => ho.below h (Nat.le_refl _)
  have HA : Hid (∀ W', Below W.heap.size W W' → Tx W' va args) := fun W' h => ha.below h (Nat.le_refl _)
  have HE : Hid (∀ W', Below W.heap.size W W' → Ers W' ea) := fun W' h => hE.below h (Nat.le_refl _)
  have HZO : Hid (∀ s ∈ outs, s.length ≤ 140737488355328) := hzo
  have HZA : Hid (∀ s ∈ args, s.length ≤ 140737488355328) := hza
  obtain ⟨ado, capo, rfl⟩ := ho.form
  obtain ⟨ada, capa, rfl⟩ := ha.form
  clear ho ha hE hzo hza
  go_enter Tryd.func7, Tryd.ntmps7
  go_wp2_with fail
  refine (first_any ea W (HE.out _ (Below.refl _ _))).mono ?_
  rintro e w1 ⟨rfl, hb1⟩
  by_cases h8 : 8 < outs.length
  · go_wp2_with fail
    go_ret
    exact ⟨rfl, hb1⟩
  have h8' : decide ((8 : Int) < (outs.length : Int)) = false := decide_eq_false (by omega)
  by_cases h5 : 5 < args.length
  · go_wp2_with fail
    go_ret
    exact ⟨rfl, hb1⟩
  have h5' : decide ((5 : Int) < (args.length : Int)) = false := decide_eq_false (by omega)
  by_cases h300 : 300 < inp.length
  · go_wp2_with fail
    go_ret
    exact ⟨rfl, hb1⟩
  have h300' : decide ((300 : Int) < (inp.length : Int)) = false := decide_eq_false (by omega)
  go_wp2_with fail
  clear h8' h5' h300'
  go_loopw [10] (fun v10 wr => ∃ k : Nat, v10 = .int .i64 k ∧ k ≤ args.length ∧ Hid (∀ j s, j < k → args[j]? = some s → s.length ≤ 100) ∧ Below W.heap.size W wr) (fun v10 _ => args.length - (intOf v10).toNat)
  case atStart => exact ⟨0, rfl, by omega, fun j s hj => absurd hj (by omega), hb1⟩
  case round =>
    obtain ⟨k, rfl, hk, HS, hbr⟩ := hrel
    by_cases hkl : k < args.length
    · obtain ⟨x, hx⟩ : ∃ x, args[k]? = some x := ⟨_, List.getElem?_eq_getElem hkl⟩
      obtain ⟨g, o, cap', hv, _, hg, hce⟩ := (HA.out _ hbr).inRow (fun e => by rw [e] at hkl; simp at hkl)
      cases hv
      have c0 := hce k x hx
      have hxz := HZA.out x (List.mem_of_getElem? hx)
      have HX : Hid (args[k]? = some x) := hx
      clear hce hx hg
      by_cases hx100 : 100 < x.length
      · go_wp2_with fail
        go_ret
        exact ⟨rfl, hbr⟩
      · go_wp2_with fail
        refine ⟨⟨k + 1, by simp, by omega, ?_, hbr⟩, by simp [intOf]; omega⟩
        intro j s hj hs
        by_cases hjk : j < k
        · exact HS.out j s hjk hs
        · rw [show j = k by omega, HX.out] at hs
          cases hs
          omega
    · have hkz : k = args.length := by omega
      subst hkz
      have HSM : Hid (∀ s ∈ args, s.length ≤ 100) := fun s hs => by
        obtain ⟨j, hj, rfl⟩ := List.getElem_of_mem hs
        exact HS.out j _ hj (List.getElem?_eq_getElem hj)
      clear HS
      obtain ⟨w3, hw3⟩ : ∃ w3, w3 = wr := ⟨_, rfl⟩
      subst hw3
      go_wp2_with fail
      go_loopw [12, 13] (fun v12 v13 wr => ∃ (k : Nat) (rv : Value) (Y : List (Rw × Value)), v12 = .int .i64 (atI any k) ∧ v13 = .int .i64 k ∧ k ≤ outs.length ∧ Hid (RB W.heap.size (.slice ada args.length capa) args wr w3.heap.size rv Y ∧ Y.map Prod.fst = rowsK any outs args k) ∧ Hid (∀ j s, j < k → outs[j]? = some s → s.length ≤ 300) ∧ Below W.heap.size W wr) (fun _ v13 _ => outs.length - (intOf v13).toNat)
      case atStart => exact ⟨0, .slice none 0 0, [], rfl, rfl, by omega, ⟨⟨Cel.new w3 25 _, World.ownsRow_nil _ _ _ _, fun p hp => by simp at hp⟩, rfl⟩, fun j s hj => absurd hj (by omega), hbr.alloc hbr.size _⟩
      case round =>
        obtain ⟨k, rv, Y, rfl, rfl, hk, HR, HS3, hbs⟩ := hrel
        obtain ⟨adr, capr, rfl⟩ := owns_slice HR.out.1.2.1
        obtain ⟨at_, hat⟩ : ∃ at_, Hid (atI any k = at_) := ⟨_, rfl⟩
        rw [hat.out]
        have hw3s : W.heap.size ≤ w3.heap.size := hbr.size
        have HYL : Hid (Y.length = k) := by
          unfold Hid
          rw [len_of HR.out.2]
          simp [rowsK]
        by_cases hkl : k < outs.length
        · obtain ⟨x, hx⟩ : ∃ x, outs[k]? = some x := ⟨_, List.getElem?_eq_getElem hkl⟩
          obtain ⟨g, o, cap', hv, _, hg, hce⟩ := (HO.out _ hbs).inRow (fun e => by rw [e] at hkl; simp at hkl)
          cases hv
          have c0 := hce k x hx
          have hxz := HZO.out x (List.mem_of_getElem? hx)
          have HX : Hid (outs[k]? = some x) := hx
          clear hce hx hg
          by_cases hx300 : 300 < x.length
          · go_wp2_with fail
            go_ret
            exact ⟨rfl, hbs⟩
          · have hk8 : k < 8 := by omega
            have hyl : Y.length < 4294967296 := by have := HYL.out; omega
            have HX3 : Hid (∀ j s, j < k + 1 → outs[j]? = some s → s.length ≤ 300) := fun j s hj hs => by
              by_cases hjk : j < k
              · exact HS3.out j s hjk hs
              · rw [show j = k by omega, HX.out] at hs
                cases hs
                omega
            cases hA : (bits BinOp.and IntKind.i64 (any / 2 ^ k) 1 == 1) with
            | true =>
              cases hB : (bits BinOp.and IntKind.i64 (any / 2 ^ (k + 8)) 1 == 1) with
              | true =>
                by_cases hneg : at_ < 0
                · have B4 : Below wr.heap.size wr (wr.alloc (.cells #[str [99], .slice ada args.length capa, .bool true, .bool ((k : Int) % 2 == 0), .bool ((k : Int) % 3 == 0), str x, .int .i64 (k : Int)] 77)) := below_new wr _
                  have HB4 : Hid (Below wr.heap.size wr (wr.alloc (.cells #[str [99], .slice ada args.length capa, .bool true, .bool ((k : Int) % 2 == 0), .bool ((k : Int) % 3 == 0), str x, .int .i64 (k : Int)] 77))) := B4
                  have S4 : (wr.alloc (.cells #[str [99], .slice ada args.length capa, .bool true, .bool ((k : Int) % 2 == 0), .bool ((k : Int) % 3 == 0), str x, .int .i64 (k : Int)] 77)).heap.size = wr.heap.size + 1 := by simp
                  have d1 : (wr.alloc (.cells #[str [99], .slice ada args.length capa, .bool true, .bool ((k : Int) % 2 == 0), .bool ((k : Int) % 3 == 0), str x, .int .i64 (k : Int)] 77)).cell? ⟨w3.heap.size, 1, none⟩ = some (.slice adr Y.length capr) := (HR.out.1.1.turn (Turn.ofBelow (S := fun _ => False) B4) (fun h => h)).cell 1
                  have HOA : Hid (((wr.alloc (.cells #[str [99], .slice ada args.length capa, .bool true, .bool ((k : Int) % 2 == 0), .bool ((k : Int) % 3 == 0), str x, .int .i64 (k : Int)] 77)).alloc (.cells #[str [99], .slice ada args.length capa, .bool true, .bool ((k : Int) % 2 == 0), .bool ((k : Int) % 3 == 0), str x, .int .i64 (k : Int)] 77)).ownsRow W.heap.size 77 7 (.slice adr Y.length capr) Y.length (rwCs Y)) := owns_below (owns_below HR.out.1.2.1 B4) (below_new _ _)
                  have HSZ : Hid (W.heap.size ≤ ((wr.alloc (.cells #[str [99], .slice ada args.length capa, .bool true, .bool ((k : Int) % 2 == 0), .bool ((k : Int) % 3 == 0), str x, .int .i64 (k : Int)] 77)).alloc (.cells #[str [99], .slice ada args.length capa, .bool true, .bool ((k : Int) % 2 == 0), .bool ((k : Int) % 3 == 0), str x, .int .i64 (k : Int)] 77)).heap.size) := Nat.le_trans hbs.size (Nat.le_trans B4.size (below_new _ _).size)
                  have HCN : Hid (∀ j u, (rwC ⟨[99], args, true, (k : Int) % 2 == 0, (k : Int) % 3 == 0, x, (k : Int)⟩ (.slice ada args.length capa))[j]? = some u → ((wr.alloc (.cells #[str [99], .slice ada args.length capa, .bool true, .bool ((k : Int) % 2 == 0), .bool ((k : Int) % 3 == 0), str x, .int .i64 (k : Int)] 77)).alloc (.cells #[str [99], .slice ada args.length capa, .bool true, .bool ((k : Int) % 2 == 0), .bool ((k : Int) % 3 == 0), str x, .int .i64 (k : Int)] 77)).cell? ((⟨wr.heap.size + 1, 0, none⟩ : Addr).add j) = some u) := by
                    have := cells_new (wr.alloc (.cells #[str [99], .slice ada args.length capa, .bool true, .bool ((k : Int) % 2 == 0), .bool ((k : Int) % 3 == 0), str x, .int .i64 (k : Int)] 77)) (rwC ⟨[99], args, true, (k : Int) % 2 == 0, (k : Int) % 3 == 0, x, (k : Int)⟩ (.slice ada args.length capa)) 77
                    rw [S4] at this
                    exact this
                  have HLV : Hid (Ot (wr.alloc (.cells #[str [99], .slice ada args.length capa, .bool true, .bool ((k : Int) % 2 == 0), .bool ((k : Int) % 3 == 0), str x, .int .i64 (k : Int)] 77)) (fun i => W.heap.size ≤ i) (.slice ada args.length capa) args ∨ ((.slice ada args.length capa : Value) = .slice ada args.length capa ∧ args = args)) := .inr ⟨rfl, rfl⟩
                  have HRI : Hid (rowI any outs args k = ⟨[99], args, true, (k : Int) % 2 == 0, (k : Int) % 3 == 0, x, (k : Int)⟩) := by
                    unfold Hid rowI
                    rw [show bt any k = true from hA, show bt any (k + 8) = true from hB, HX.out]
                    rfl
                  have HAT : Hid (atI any (k + 1) = (k : Int)) := atI_hit any k (by rw [hat.out]; exact hneg) (by unfold hit; rw [show bt any k = true from hA, show bt any (k + 8) = true from hB]; rfl)
                  clear B4 S4
                  go_wp2_with (at_builtin; refine wpList_append_own _ rfl _ _ 23 rfl W.heap.size 77 i0 _ 7 72 Tryd.underlying23 hi hz0 hz1 hz2 rfl (by decide) _ _ _ rfl HOA.out ⟨wr.heap.size + 1, 0, none⟩ 1 1 (rwC ⟨[99], args, true, (k : Int) % 2 == 0, (k : Int) % 3 == 0, x, (k : Int)⟩ (.slice ada args.length capa)) rfl rfl HCN.out (rwC_one _ _ _) (by have := maxLen_big; omega) (by omega) HSZ.out ?_; intro v5 w5 hown5 hgrow5 _; obtain ⟨ad5, cap5, rfl⟩ := owns_slice hown5; have NT : Hid _ := RB.app (r := ⟨[99], args, true, (k : Int) % 2 == 0, (k : Int) % 3 == 0, x, (k : Int)⟩) HR.out.1 HB4.out hw3s hbs.size HLV.out hown5 hgrow5; have c5 := NT.out.1; have f5 := NT.out.2.1; clear hown5 hgrow5)
                  refine ⟨⟨k + 1, _, Y ++ [(⟨[99], args, true, (k : Int) % 2 == 0, (k : Int) % 3 == 0, x, (k : Int)⟩, .slice ada args.length capa)], by rw [HAT.out], by simp, by omega, ⟨NT.out.2.2.1, ?_⟩, HX3.out, hbs.trans NT.out.2.2.2⟩, by simp [intOf]; omega⟩
                  rw [rowsK_succ, HRI.out, List.map_append, HR.out.2]
                  rfl
                · have hneg' : decide (at_ < 0) = false := decide_eq_false hneg
                  have B4 : Below wr.heap.size wr (wr.alloc (.cells #[str [99], .slice ada args.length capa, .bool true, .bool ((k : Int) % 2 == 0), .bool ((k : Int) % 3 == 0), str x, .int .i64 (k : Int)] 77)) := below_new wr _
                  have HB4 : Hid (Below wr.heap.size wr (wr.alloc (.cells #[str [99], .slice ada args.length capa, .bool true, .bool ((k : Int) % 2 == 0), .bool ((k : Int) % 3 == 0), str x, .int .i64 (k : Int)] 77))) := B4
                  have S4 : (wr.alloc (.cells #[str [99], .slice ada args.length capa, .bool true, .bool ((k : Int) % 2 == 0), .bool ((k : Int) % 3 == 0), str x, .int .i64 (k : Int)] 77)).heap.size = wr.heap.size + 1 := by simp
                  have d1 : (wr.alloc (.cells #[str [99], .slice ada args.length capa, .bool true, .bool ((k : Int) % 2 == 0), .bool ((k : Int) % 3 == 0), str x, .int .i64 (k : Int)] 77)).cell? ⟨w3.heap.size, 1, none⟩ = some (.slice adr Y.length capr) := (HR.out.1.1.turn (Turn.ofBelow (S := fun _ => False) B4) (fun h => h)).cell 1
                  have HOA : Hid (((wr.alloc (.cells #[str [99], .slice ada args.length capa, .bool true, .bool ((k : Int) % 2 == 0), .bool ((k : Int) % 3 == 0), str x, .int .i64 (k : Int)] 77)).alloc (.cells #[str [99], .slice ada args.length capa, .bool true, .bool ((k : Int) % 2 == 0), .bool ((k : Int) % 3 == 0), str x, .int .i64 (k : Int)] 77)).ownsRow W.heap.size 77 7 (.slice adr Y.length capr) Y.length (rwCs Y)) := owns_below (owns_below HR.out.1.2.1 B4) (below_new _ _)
                  have HSZ : Hid (W.heap.size ≤ ((wr.alloc (.cells #[str [99], .slice ada args.length capa, .bool true, .bool ((k : Int) % 2 == 0), .bool ((k : Int) % 3 == 0), str x, .int .i64 (k : Int)] 77)).alloc (.cells #[str [99], .slice ada args.length capa, .bool true, .bool ((k : Int) % 2 == 0), .bool ((k : Int) % 3 == 0), str x, .int .i64 (k : Int)] 77)).heap.size) := Nat.le_trans hbs.size (Nat.le_trans B4.size (below_new _ _).size)
                  have HCN : Hid (∀ j u, (rwC ⟨[99], args, true, (k : Int) % 2 == 0, (k : Int) % 3 == 0, x, (k : Int)⟩ (.slice ada args.length capa))[j]? = some u → ((wr.alloc (.cells #[str [99], .slice ada args.length capa, .bool true, .bool ((k : Int) % 2 == 0), .bool ((k : Int) % 3 == 0), str x, .int .i64 (k : Int)] 77)).alloc (.cells #[str [99], .slice ada args.length capa, .bool true, .bool ((k : Int) % 2 == 0), .bool ((k : Int) % 3 == 0), str x, .int .i64 (k : Int)] 77)).cell? ((⟨wr.heap.size + 1, 0, none⟩ : Addr).add j) = some u) := by
                    have := cells_new (wr.alloc (.cells #[str [99], .slice ada args.length capa, .bool true, .bool ((k : Int) % 2 == 0), .bool ((k : Int) % 3 == 0), str x, .int .i64 (k : Int)] 77)) (rwC ⟨[99], args, true, (k : Int) % 2 == 0, (k : Int) % 3 == 0, x, (k : Int)⟩ (.slice ada args.length capa)) 77
                    rw [S4] at this
                    exact this
                  have HLV : Hid (Ot (wr.alloc (.cells #[str [99], .slice ada args.length capa, .bool true, .bool ((k : Int) % 2 == 0), .bool ((k : Int) % 3 == 0), str x, .int .i64 (k : Int)] 77)) (fun i => W.heap.size ≤ i) (.slice ada args.length capa) args ∨ ((.slice ada args.length capa : Value) = .slice ada args.length capa ∧ args = args)) := .inr ⟨rfl, rfl⟩
                  have HRI : Hid (rowI any outs args k = ⟨[99], args, true, (k : Int) % 2 == 0, (k : Int) % 3 == 0, x, (k : Int)⟩) := by
                    unfold Hid rowI
                    rw [show bt any k = true from hA, show bt any (k + 8) = true from hB, HX.out]
                    rfl
                  have HAT : Hid (atI any (k + 1) = at_) := (atI_keep any k (fun h => hneg (by rw [← hat.out]; exact h.1))).trans hat.out
                  clear B4 S4
                  go_wp2_with (at_builtin; refine wpList_append_own _ rfl _ _ 23 rfl W.heap.size 77 i0 _ 7 72 Tryd.underlying23 hi hz0 hz1 hz2 rfl (by decide) _ _ _ rfl HOA.out ⟨wr.heap.size + 1, 0, none⟩ 1 1 (rwC ⟨[99], args, true, (k : Int) % 2 == 0, (k : Int) % 3 == 0, x, (k : Int)⟩ (.slice ada args.length capa)) rfl rfl HCN.out (rwC_one _ _ _) (by have := maxLen_big; omega) (by omega) HSZ.out ?_; intro v5 w5 hown5 hgrow5 _; obtain ⟨ad5, cap5, rfl⟩ := owns_slice hown5; have NT : Hid _ := RB.app (r := ⟨[99], args, true, (k : Int) % 2 == 0, (k : Int) % 3 == 0, x, (k : Int)⟩) HR.out.1 HB4.out hw3s hbs.size HLV.out hown5 hgrow5; have c5 := NT.out.1; have f5 := NT.out.2.1; clear hown5 hgrow5)
                  refine ⟨⟨k + 1, _, Y ++ [(⟨[99], args, true, (k : Int) % 2 == 0, (k : Int) % 3 == 0, x, (k : Int)⟩, .slice ada args.length capa)], by rw [HAT.out], by simp, by omega, ⟨NT.out.2.2.1, ?_⟩, HX3.out, hbs.trans NT.out.2.2.2⟩, by simp [intOf]; omega⟩
                  rw [rowsK_succ, HRI.out, List.map_append, HR.out.2]
                  rfl
              | false =>
                by_cases hneg : at_ < 0
                · have B4 : Below wr.heap.size wr ((wr.alloc (.cells #[str [99], .slice (some ⟨wr.heap.size + 1, 0, none⟩) 6 6, .bool true, .bool ((k : Int) % 2 == 0), .bool ((k : Int) % 3 == 0), str x, .int .i64 (k : Int)] 77)).alloc (.cells #[.string ⟨#[111, 116, 104, 101, 114]⟩, .string ⟨#[97, 114, 103, 115]⟩, .string ⟨#[116, 104, 97, 116]⟩, .string ⟨#[110, 111, 98, 111, 100, 121]⟩, .string ⟨#[104, 97, 110, 100, 115]⟩, .string ⟨#[105, 110]⟩] 9)) := (below_new wr _).alloc (below_new wr _).size _
                  have HB4 : Hid (Below wr.heap.size wr ((wr.alloc (.cells #[str [99], .slice (some ⟨wr.heap.size + 1, 0, none⟩) 6 6, .bool true, .bool ((k : Int) % 2 == 0), .bool ((k : Int) % 3 == 0), str x, .int .i64 (k : Int)] 77)).alloc (.cells #[.string ⟨#[111, 116, 104, 101, 114]⟩, .string ⟨#[97, 114, 103, 115]⟩, .string ⟨#[116, 104, 97, 116]⟩, .string ⟨#[110, 111, 98, 111, 100, 121]⟩, .string ⟨#[104, 97, 110, 100, 115]⟩, .string ⟨#[105, 110]⟩] 9))) := B4
                  have S4 : ((wr.alloc (.cells #[str [99], .slice (some ⟨wr.heap.size + 1, 0, none⟩) 6 6, .bool true, .bool ((k : Int) % 2 == 0), .bool ((k : Int) % 3 == 0), str x, .int .i64 (k : Int)] 77)).alloc (.cells #[.string ⟨#[111, 116, 104, 101, 114]⟩, .string ⟨#[97, 114, 103, 115]⟩, .string ⟨#[116, 104, 97, 116]⟩, .string ⟨#[110, 111, 98, 111, 100, 121]⟩, .string ⟨#[104, 97, 110, 100, 115]⟩, .string ⟨#[105, 110]⟩] 9)).heap.size = wr.heap.size + 2 := by simp
                  have d1 : ((wr.alloc (.cells #[str [99], .slice (some ⟨wr.heap.size + 1, 0, none⟩) 6 6, .bool true, .bool ((k : Int) % 2 == 0), .bool ((k : Int) % 3 == 0), str x, .int .i64 (k : Int)] 77)).alloc (.cells #[.string ⟨#[111, 116, 104, 101, 114]⟩, .string ⟨#[97, 114, 103, 115]⟩, .string ⟨#[116, 104, 97, 116]⟩, .string ⟨#[110, 111, 98, 111, 100, 121]⟩, .string ⟨#[104, 97, 110, 100, 115]⟩, .string ⟨#[105, 110]⟩] 9)).cell? ⟨w3.heap.size, 1, none⟩ = some (.slice adr Y.length capr) := (HR.out.1.1.turn (Turn.ofBelow (S := fun _ => False) B4) (fun h => h)).cell 1
                  have HOA : Hid ((((wr.alloc (.cells #[str [99], .slice (some ⟨wr.heap.size + 1, 0, none⟩) 6 6, .bool true, .bool ((k : Int) % 2 == 0), .bool ((k : Int) % 3 == 0), str x, .int .i64 (k : Int)] 77)).alloc (.cells #[.string ⟨#[111, 116, 104, 101, 114]⟩, .string ⟨#[97, 114, 103, 115]⟩, .string ⟨#[116, 104, 97, 116]⟩, .string ⟨#[110, 111, 98, 111, 100, 121]⟩, .string ⟨#[104, 97, 110, 100, 115]⟩, .string ⟨#[105, 110]⟩] 9)).alloc (.cells #[str [99], .slice (some ⟨wr.heap.size + 1, 0, none⟩) 6 6, .bool true, .bool ((k : Int) % 2 == 0), .bool ((k : Int) % 3 == 0), str x, .int .i64 (k : Int)] 77)).ownsRow W.heap.size 77 7 (.slice adr Y.length capr) Y.length (rwCs Y)) := owns_below (owns_below HR.out.1.2.1 B4) (below_new _ _)
                  have HSZ : Hid (W.heap.size ≤ (((wr.alloc (.cells #[str [99], .slice (some ⟨wr.heap.size + 1, 0, none⟩) 6 6, .bool true, .bool ((k : Int) % 2 == 0), .bool ((k : Int) % 3 == 0), str x, .int .i64 (k : Int)] 77)).alloc (.cells #[.string ⟨#[111, 116, 104, 101, 114]⟩, .string ⟨#[97, 114, 103, 115]⟩, .string ⟨#[116, 104, 97, 116]⟩, .string ⟨#[110, 111, 98, 111, 100, 121]⟩, .string ⟨#[104, 97, 110, 100, 115]⟩, .string ⟨#[105, 110]⟩] 9)).alloc (.cells #[str [99], .slice (some ⟨wr.heap.size + 1, 0, none⟩) 6 6, .bool true, .bool ((k : Int) % 2 == 0), .bool ((k : Int) % 3 == 0), str x, .int .i64 (k : Int)] 77)).heap.size) := Nat.le_trans hbs.size (Nat.le_trans B4.size (below_new _ _).size)
                  have HCN : Hid (∀ j u, (rwC ⟨[99], other6, true, (k : Int) % 2 == 0, (k : Int) % 3 == 0, x, (k : Int)⟩ (.slice (some ⟨wr.heap.size + 1, 0, none⟩) 6 6))[j]? = some u → (((wr.alloc (.cells #[str [99], .slice (some ⟨wr.heap.size + 1, 0, none⟩) 6 6, .bool true, .bool ((k : Int) % 2 == 0), .bool ((k : Int) % 3 == 0), str x, .int .i64 (k : Int)] 77)).alloc (.cells #[.string ⟨#[111, 116, 104, 101, 114]⟩, .string ⟨#[97, 114, 103, 115]⟩, .string ⟨#[116, 104, 97, 116]⟩, .string ⟨#[110, 111, 98, 111, 100, 121]⟩, .string ⟨#[104, 97, 110, 100, 115]⟩, .string ⟨#[105, 110]⟩] 9)).alloc (.cells #[str [99], .slice (some ⟨wr.heap.size + 1, 0, none⟩) 6 6, .bool true, .bool ((k : Int) % 2 == 0), .bool ((k : Int) % 3 == 0), str x, .int .i64 (k : Int)] 77)).cell? ((⟨wr.heap.size + 2, 0, none⟩ : Addr).add j) = some u) := by
                    have := cells_new ((wr.alloc (.cells #[str [99], .slice (some ⟨wr.heap.size + 1, 0, none⟩) 6 6, .bool true, .bool ((k : Int) % 2 == 0), .bool ((k : Int) % 3 == 0), str x, .int .i64 (k : Int)] 77)).alloc (.cells #[.string ⟨#[111, 116, 104, 101, 114]⟩, .string ⟨#[97, 114, 103, 115]⟩, .string ⟨#[116, 104, 97, 116]⟩, .string ⟨#[110, 111, 98, 111, 100, 121]⟩, .string ⟨#[104, 97, 110, 100, 115]⟩, .string ⟨#[105, 110]⟩] 9)) (rwC ⟨[99], other6, true, (k : Int) % 2 == 0, (k : Int) % 3 == 0, x, (k : Int)⟩ (.slice (some ⟨wr.heap.size + 1, 0, none⟩) 6 6)) 77
                    rw [S4] at this
                    exact this
                  have HLV : Hid (Ot ((wr.alloc (.cells #[str [99], .slice (some ⟨wr.heap.size + 1, 0, none⟩) 6 6, .bool true, .bool ((k : Int) % 2 == 0), .bool ((k : Int) % 3 == 0), str x, .int .i64 (k : Int)] 77)).alloc (.cells #[.string ⟨#[111, 116, 104, 101, 114]⟩, .string ⟨#[97, 114, 103, 115]⟩, .string ⟨#[116, 104, 97, 116]⟩, .string ⟨#[110, 111, 98, 111, 100, 121]⟩, .string ⟨#[104, 97, 110, 100, 115]⟩, .string ⟨#[105, 110]⟩] 9)) (fun i => W.heap.size ≤ i) (.slice (some ⟨wr.heap.size + 1, 0, none⟩) 6 6) other6 ∨ ((.slice (some ⟨wr.heap.size + 1, 0, none⟩) 6 6 : Value) = .slice ada args.length capa ∧ other6 = args)) := .inl (by
                    have h6 := six_own (wr.alloc (.cells #[str [99], .slice (some ⟨wr.heap.size + 1, 0, none⟩) 6 6, .bool true, .bool ((k : Int) % 2 == 0), .bool ((k : Int) % 3 == 0), str x, .int .i64 (k : Int)] 77)) W.heap.size (Nat.le_trans hbs.size (below_new wr _).size)
                    rw [show (wr.alloc (.cells #[str [99], .slice (some ⟨wr.heap.size + 1, 0, none⟩) 6 6, .bool true, .bool ((k : Int) % 2 == 0), .bool ((k : Int) % 3 == 0), str x, .int .i64 (k : Int)] 77)).heap.size = wr.heap.size + 1 by simp] at h6
                    exact h6)
                  have HRI : Hid (rowI any outs args k = ⟨[99], other6, true, (k : Int) % 2 == 0, (k : Int) % 3 == 0, x, (k : Int)⟩) := by
                    unfold Hid rowI
                    rw [show bt any k = true from hA, show bt any (k + 8) = false from hB, HX.out]
                    rfl
                  have HAT : Hid (atI any (k + 1) = (k : Int)) := atI_hit any k (by rw [hat.out]; exact hneg) (by unfold hit; rw [show bt any k = true from hA, show bt any (k + 8) = false from hB]; rfl)
                  clear B4 S4
                  go_wp2_with (at_builtin; refine wpList_append_own _ rfl _ _ 23 rfl W.heap.size 77 i0 _ 7 72 Tryd.underlying23 hi hz0 hz1 hz2 rfl (by decide) _ _ _ rfl HOA.out ⟨wr.heap.size + 2, 0, none⟩ 1 1 (rwC ⟨[99], other6, true, (k : Int) % 2 == 0, (k : Int) % 3 == 0, x, (k : Int)⟩ (.slice (some ⟨wr.heap.size + 1, 0, none⟩) 6 6)) rfl rfl HCN.out (rwC_one _ _ _) (by have := maxLen_big; omega) (by omega) HSZ.out ?_; intro v5 w5 hown5 hgrow5 _; obtain ⟨ad5, cap5, rfl⟩ := owns_slice hown5; have NT : Hid _ := RB.app (r := ⟨[99], other6, true, (k : Int) % 2 == 0, (k : Int) % 3 == 0, x, (k : Int)⟩) HR.out.1 HB4.out hw3s hbs.size HLV.out hown5 hgrow5; have c5 := NT.out.1; have f5 := NT.out.2.1; clear hown5 hgrow5)
                  refine ⟨⟨k + 1, _, Y ++ [(⟨[99], other6, true, (k : Int) % 2 == 0, (k : Int) % 3 == 0, x, (k : Int)⟩, .slice (some ⟨wr.heap.size + 1, 0, none⟩) 6 6)], by rw [HAT.out], by simp, by omega, ⟨NT.out.2.2.1, ?_⟩, HX3.out, hbs.trans NT.out.2.2.2⟩, by simp [intOf]; omega⟩
                  rw [rowsK_succ, HRI.out, List.map_append, HR.out.2]
                  rfl
                · have hneg' : decide (at_ < 0) = false := decide_eq_false hneg
                  have B4 : Below wr.heap.size wr ((wr.alloc (.cells #[str [99], .slice (some ⟨wr.heap.size + 1, 0, none⟩) 6 6, .bool true, .bool ((k : Int) % 2 == 0), .bool ((k : Int) % 3 == 0), str x, .int .i64 (k : Int)] 77)).alloc (.cells #[.string ⟨#[111, 116, 104, 101, 114]⟩, .string ⟨#[97, 114, 103, 115]⟩, .string ⟨#[116, 104, 97, 116]⟩, .string ⟨#[110, 111, 98, 111, 100, 121]⟩, .string ⟨#[104, 97, 110, 100, 115]⟩, .string ⟨#[105, 110]⟩] 9)) := (below_new wr _).alloc (below_new wr _).size _
                  have HB4 : Hid (Below wr.heap.size wr ((wr.alloc (.cells #[str [99], .slice (some ⟨wr.heap.size + 1, 0, none⟩) 6 6, .bool true, .bool ((k : Int) % 2 == 0), .bool ((k : Int) % 3 == 0), str x, .int .i64 (k : Int)] 77)).alloc (.cells #[.string ⟨#[111, 116, 104, 101, 114]⟩, .string ⟨#[97, 114, 103, 115]⟩, .string ⟨#[116, 104, 97, 116]⟩, .string ⟨#[110, 111, 98, 111, 100, 121]⟩, .string ⟨#[104, 97, 110, 100, 115]⟩, .string ⟨#[105, 110]⟩] 9))) := B4
                  have S4 : ((wr.alloc (.cells #[str [99], .slice (some ⟨wr.heap.size + 1, 0, none⟩) 6 6, .bool true, .bool ((k : Int) % 2 == 0), .bool ((k : Int) % 3 == 0), str x, .int .i64 (k : Int)] 77)).alloc (.cells #[.string ⟨#[111, 116, 104, 101, 114]⟩, .string ⟨#[97, 114, 103, 115]⟩, .string ⟨#[116, 104, 97, 116]⟩, .string ⟨#[110, 111, 98, 111, 100, 121]⟩, .string ⟨#[104, 97, 110, 100, 115]⟩, .string ⟨#[105, 110]⟩] 9)).heap.size = wr.heap.size + 2 := by simp
                  have d1 : ((wr.alloc (.cells #[str [99], .slice (some ⟨wr.heap.size + 1, 0, none⟩) 6 6, .bool true, .bool ((k : Int) % 2 == 0), .bool ((k : Int) % 3 == 0), str x, .int .i64 (k : Int)] 77)).alloc (.cells #[.string ⟨#[111, 116, 104, 101, 114]⟩, .string ⟨#[97, 114, 103, 115]⟩, .string ⟨#[116, 104, 97, 116]⟩, .string ⟨#[110, 111, 98, 111, 100, 121]⟩, .string ⟨#[104, 97, 110, 100, 115]⟩, .string ⟨#[105, 110]⟩] 9)).cell? ⟨w3.heap.size, 1, none⟩ = some (.slice adr Y.length capr) := (HR.out.1.1.turn (Turn.ofBelow (S := fun _ => False) B4) (fun h => h)).cell 1
                  have HOA : Hid ((((wr.alloc (.cells #[str [99], .slice (some ⟨wr.heap.size + 1, 0, none⟩) 6 6, .bool true, .bool ((k : Int) % 2 == 0), .bool ((k : Int) % 3 == 0), str x, .int .i64 (k : Int)] 77)).alloc (.cells #[.string ⟨#[111, 116, 104, 101, 114]⟩, .string ⟨#[97, 114, 103, 115]⟩, .string ⟨#[116, 104, 97, 116]⟩, .string ⟨#[110, 111, 98, 111, 100, 121]⟩, .string ⟨#[104, 97, 110, 100, 115]⟩, .string ⟨#[105, 110]⟩] 9)).alloc (.cells #[str [99], .slice (some ⟨wr.heap.size + 1, 0, none⟩) 6 6, .bool true, .bool ((k : Int) % 2 == 0), .bool ((k : Int) % 3 == 0), str x, .int .i64 (k : Int)] 77)).ownsRow W.heap.size 77 7 (.slice adr Y.length capr) Y.length (rwCs Y)) := owns_below (owns_below HR.out.1.2.1 B4) (below_new _ _)
                  have HSZ : Hid (W.heap.size ≤ (((wr.alloc (.cells #[str [99], .slice (some ⟨wr.heap.size + 1, 0, none⟩) 6 6, .bool true, .bool ((k : Int) % 2 == 0), .bool ((k : Int) % 3 == 0), str x, .int .i64 (k : Int)] 77)).alloc (.cells #[.string ⟨#[111, 116, 104, 101, 114]⟩, .string ⟨#[97, 114, 103, 115]⟩, .string ⟨#[116, 104, 97, 116]⟩, .string ⟨#[110, 111, 98, 111, 100, 121]⟩, .string ⟨#[104, 97, 110, 100, 115]⟩, .string ⟨#[105, 110]⟩] 9)).alloc (.cells #[str [99], .slice (some ⟨wr.heap.size + 1, 0, none⟩) 6 6, .bool true, .bool ((k : Int) % 2 == 0), .bool ((k : Int) % 3 == 0), str x, .int .i64 (k : Int)] 77)).heap.size) := Nat.le_trans hbs.size (Nat.le_trans B4.size (below_new _ _).size)
                  have HCN : Hid (∀ j u, (rwC ⟨[99], other6, true, (k : Int) % 2 == 0, (k : Int) % 3 == 0, x, (k : Int)⟩ (.slice (some ⟨wr.heap.size + 1, 0, none⟩) 6 6))[j]? = some u → (((wr.alloc (.cells #[str [99], .slice (some ⟨wr.heap.size + 1, 0, none⟩) 6 6, .bool true, .bool ((k : Int) % 2 == 0), .bool ((k : Int) % 3 == 0), str x, .int .i64 (k : Int)] 77)).alloc (.cells #[.string ⟨#[111, 116, 104, 101, 114]⟩, .string ⟨#[97, 114, 103, 115]⟩, .string ⟨#[116, 104, 97, 116]⟩, .string ⟨#[110, 111, 98, 111, 100, 121]⟩, .string ⟨#[104, 97, 110, 100, 115]⟩, .string ⟨#[105, 110]⟩] 9)).alloc (.cells #[str [99], .slice (some ⟨wr.heap.size + 1, 0, none⟩) 6 6, .bool true, .bool ((k : Int) % 2 == 0), .bool ((k : Int) % 3 == 0), str x, .int .i64 (k : Int)] 77)).cell? ((⟨wr.heap.size + 2, 0, none⟩ : Addr).add j) = some u) := by
                    have := cells_new ((wr.alloc (.cells #[str [99], .slice (some ⟨wr.heap.size + 1, 0, none⟩) 6 6, .bool true, .bool ((k : Int) % 2 == 0), .bool ((k : Int) % 3 == 0), str x, .int .i64 (k : Int)] 77)).alloc (.cells #[.string ⟨#[111, 116, 104, 101, 114]⟩, .string ⟨#[97, 114, 103, 115]⟩, .string ⟨#[116, 104, 97, 116]⟩, .string ⟨#[110, 111, 98, 111, 100, 121]⟩, .string ⟨#[104, 97, 110, 100, 115]⟩, .string ⟨#[105, 110]⟩] 9)) (rwC ⟨[99], other6, true, (k : Int) % 2 == 0, (k : Int) % 3 == 0, x, (k : Int)⟩ (.slice (some ⟨wr.heap.size + 1, 0, none⟩) 6 6)) 77
                    rw [S4] at this
                    exact this
                  have HLV : Hid (Ot ((wr.alloc (.cells #[str [99], .slice (some ⟨wr.heap.size + 1, 0, none⟩) 6 6, .bool true, .bool ((k : Int) % 2 == 0), .bool ((k : Int) % 3 == 0), str x, .int .i64 (k : Int)] 77)).alloc (.cells #[.string ⟨#[111, 116, 104, 101, 114]⟩, .string ⟨#[97, 114, 103, 115]⟩, .string ⟨#[116, 104, 97, 116]⟩, .string ⟨#[110, 111, 98, 111, 100, 121]⟩, .string ⟨#[104, 97, 110, 100, 115]⟩, .string ⟨#[105, 110]⟩] 9)) (fun i => W.heap.size ≤ i) (.slice (some ⟨wr.heap.size + 1, 0, none⟩) 6 6) other6 ∨ ((.slice (some ⟨wr.heap.size + 1, 0, none⟩) 6 6 : Value) = .slice ada args.length capa ∧ other6 = args)) := .inl (by
                    have h6 := six_own (wr.alloc (.cells #[str [99], .slice (some ⟨wr.heap.size + 1, 0, none⟩) 6 6, .bool true, .bool ((k : Int) % 2 == 0), .bool ((k : Int) % 3 == 0), str x, .int .i64 (k : Int)] 77)) W.heap.size (Nat.le_trans hbs.size (below_new wr _).size)
                    rw [show (wr.alloc (.cells #[str [99], .slice (some ⟨wr.heap.size + 1, 0, none⟩) 6 6, .bool true, .bool ((k : Int) % 2 == 0), .bool ((k : Int) % 3 == 0), str x, .int .i64 (k : Int)] 77)).heap.size = wr.heap.size + 1 by simp] at h6
                    exact h6)
                  have HRI : Hid (rowI any outs args k = ⟨[99], other6, true, (k : Int) % 2 == 0, (k : Int) % 3 == 0, x, (k : Int)⟩) := by
                    unfold Hid rowI
                    rw [show bt any k = true from hA, show bt any (k + 8) = false from hB, HX.out]
                    rfl
                  have HAT : Hid (atI any (k + 1) = at_) := (atI_keep any k (fun h => hneg (by rw [← hat.out]; exact h.1))).trans hat.out
                  clear B4 S4
                  go_wp2_with (at_builtin; refine wpList_append_own _ rfl _ _ 23 rfl W.heap.size 77 i0 _ 7 72 Tryd.underlying23 hi hz0 hz1 hz2 rfl (by decide) _ _ _ rfl HOA.out ⟨wr.heap.size + 2, 0, none⟩ 1 1 (rwC ⟨[99], other6, true, (k : Int) % 2 == 0, (k : Int) % 3 == 0, x, (k : Int)⟩ (.slice (some ⟨wr.heap.size + 1, 0, none⟩) 6 6)) rfl rfl HCN.out (rwC_one _ _ _) (by have := maxLen_big; omega) (by omega) HSZ.out ?_; intro v5 w5 hown5 hgrow5 _; obtain ⟨ad5, cap5, rfl⟩ := owns_slice hown5; have NT : Hid _ := RB.app (r := ⟨[99], other6, true, (k : Int) % 2 == 0, (k : Int) % 3 == 0, x, (k : Int)⟩) HR.out.1 HB4.out hw3s hbs.size HLV.out hown5 hgrow5; have c5 := NT.out.1; have f5 := NT.out.2.1; clear hown5 hgrow5)
                  refine ⟨⟨k + 1, _, Y ++ [(⟨[99], other6, true, (k : Int) % 2 == 0, (k : Int) % 3 == 0, x, (k : Int)⟩, .slice (some ⟨wr.heap.size + 1, 0, none⟩) 6 6)], by rw [HAT.out], by simp, by omega, ⟨NT.out.2.2.1, ?_⟩, HX3.out, hbs.trans NT.out.2.2.2⟩, by simp [intOf]; omega⟩
                  rw [rowsK_succ, HRI.out, List.map_append, HR.out.2]
                  rfl
            | false =>
              cases hB : (bits BinOp.and IntKind.i64 (any / 2 ^ (k + 8)) 1 == 1) with
              | true =>
                by_cases hneg : at_ < 0
                · have B4 : Below wr.heap.size wr (wr.alloc (.cells #[str [99], .slice ada args.length capa, .bool false, .bool ((k : Int) % 2 == 0), .bool ((k : Int) % 3 == 0), str x, .int .i64 (k : Int)] 77)) := below_new wr _
                  have HB4 : Hid (Below wr.heap.size wr (wr.alloc (.cells #[str [99], .slice ada args.length capa, .bool false, .bool ((k : Int) % 2 == 0), .bool ((k : Int) % 3 == 0), str x, .int .i64 (k : Int)] 77))) := B4
                  have S4 : (wr.alloc (.cells #[str [99], .slice ada args.length capa, .bool false, .bool ((k : Int) % 2 == 0), .bool ((k : Int) % 3 == 0), str x, .int .i64 (k : Int)] 77)).heap.size = wr.heap.size + 1 := by simp
                  have d1 : (wr.alloc (.cells #[str [99], .slice ada args.length capa, .bool false, .bool ((k : Int) % 2 == 0), .bool ((k : Int) % 3 == 0), str x, .int .i64 (k : Int)] 77)).cell? ⟨w3.heap.size, 1, none⟩ = some (.slice adr Y.length capr) := (HR.out.1.1.turn (Turn.ofBelow (S := fun _ => False) B4) (fun h => h)).cell 1
                  have HOA : Hid (((wr.alloc (.cells #[str [99], .slice ada args.length capa, .bool false, .bool ((k : Int) % 2 == 0), .bool ((k : Int) % 3 == 0), str x, .int .i64 (k : Int)] 77)).alloc (.cells #[str [99], .slice ada args.length capa, .bool false, .bool ((k : Int) % 2 == 0), .bool ((k : Int) % 3 == 0), str x, .int .i64 (k : Int)] 77)).ownsRow W.heap.size 77 7 (.slice adr Y.length capr) Y.length (rwCs Y)) := owns_below (owns_below HR.out.1.2.1 B4) (below_new _ _)
                  have HSZ : Hid (W.heap.size ≤ ((wr.alloc (.cells #[str [99], .slice ada args.length capa, .bool false, .bool ((k : Int) % 2 == 0), .bool ((k : Int) % 3 == 0), str x, .int .i64 (k : Int)] 77)).alloc (.cells #[str [99], .slice ada args.length capa, .bool false, .bool ((k : Int) % 2 == 0), .bool ((k : Int) % 3 == 0), str x, .int .i64 (k : Int)] 77)).heap.size) := Nat.le_trans hbs.size (Nat.le_trans B4.size (below_new _ _).size)
                  have HCN : Hid (∀ j u, (rwC ⟨[99], args, false, (k : Int) % 2 == 0, (k : Int) % 3 == 0, x, (k : Int)⟩ (.slice ada args.length capa))[j]? = some u → ((wr.alloc (.cells #[str [99], .slice ada args.length capa, .bool false, .bool ((k : Int) % 2 == 0), .bool ((k : Int) % 3 == 0), str x, .int .i64 (k : Int)] 77)).alloc (.cells #[str [99], .slice ada args.length capa, .bool false, .bool ((k : Int) % 2 == 0), .bool ((k : Int) % 3 == 0), str x, .int .i64 (k : Int)] 77)).cell? ((⟨wr.heap.size + 1, 0, none⟩ : Addr).add j) = some u) := by
                    have := cells_new (wr.alloc (.cells #[str [99], .slice ada args.length capa, .bool false, .bool ((k : Int) % 2 == 0), .bool ((k : Int) % 3 == 0), str x, .int .i64 (k : Int)] 77)) (rwC ⟨[99], args, false, (k : Int) % 2 == 0, (k : Int) % 3 == 0, x, (k : Int)⟩ (.slice ada args.length capa)) 77
                    rw [S4] at this
                    exact this
                  have HLV : Hid (Ot (wr.alloc (.cells #[str [99], .slice ada args.length capa, .bool false, .bool ((k : Int) % 2 == 0), .bool ((k : Int) % 3 == 0), str x, .int .i64 (k : Int)] 77)) (fun i => W.heap.size ≤ i) (.slice ada args.length capa) args ∨ ((.slice ada args.length capa : Value) = .slice ada args.length capa ∧ args = args)) := .inr ⟨rfl, rfl⟩
                  have HRI : Hid (rowI any outs args k = ⟨[99], args, false, (k : Int) % 2 == 0, (k : Int) % 3 == 0, x, (k : Int)⟩) := by
                    unfold Hid rowI
                    rw [show bt any k = false from hA, show bt any (k + 8) = true from hB, HX.out]
                    rfl
                  have HAT : Hid (atI any (k + 1) = (k : Int)) := atI_hit any k (by rw [hat.out]; exact hneg) (by unfold hit; rw [show bt any k = false from hA, show bt any (k + 8) = true from hB]; rfl)
                  clear B4 S4
                  go_wp2_with (at_builtin; refine wpList_append_own _ rfl _ _ 23 rfl W.heap.size 77 i0 _ 7 72 Tryd.underlying23 hi hz0 hz1 hz2 rfl (by decide) _ _ _ rfl HOA.out ⟨wr.heap.size + 1, 0, none⟩ 1 1 (rwC ⟨[99], args, false, (k : Int) % 2 == 0, (k : Int) % 3 == 0, x, (k : Int)⟩ (.slice ada args.length capa)) rfl rfl HCN.out (rwC_one _ _ _) (by have := maxLen_big; omega) (by omega) HSZ.out ?_; intro v5 w5 hown5 hgrow5 _; obtain ⟨ad5, cap5, rfl⟩ := owns_slice hown5; have NT : Hid _ := RB.app (r := ⟨[99], args, false, (k : Int) % 2 == 0, (k : Int) % 3 == 0, x, (k : Int)⟩) HR.out.1 HB4.out hw3s hbs.size HLV.out hown5 hgrow5; have c5 := NT.out.1; have f5 := NT.out.2.1; clear hown5 hgrow5)
                  refine ⟨⟨k + 1, _, Y ++ [(⟨[99], args, false, (k : Int) % 2 == 0, (k : Int) % 3 == 0, x, (k : Int)⟩, .slice ada args.length capa)], by rw [HAT.out], by simp, by omega, ⟨NT.out.2.2.1, ?_⟩, HX3.out, hbs.trans NT.out.2.2.2⟩, by simp [intOf]; omega⟩
                  rw [rowsK_succ, HRI.out, List.map_append, HR.out.2]
                  rfl
                · have hneg' : decide (at_ < 0) = false := decide_eq_false hneg
                  have B4 : Below wr.heap.size wr (wr.alloc (.cells #[str [99], .slice ada args.length capa, .bool false, .bool ((k : Int) % 2 == 0), .bool ((k : Int) % 3 == 0), str x, .int .i64 (k : Int)] 77)) := below_new wr _
                  have HB4 : Hid (Below wr.heap.size wr (wr.alloc (.cells #[str [99], .slice ada args.length capa, .bool false, .bool ((k : Int) % 2 == 0), .bool ((k : Int) % 3 == 0), str x, .int .i64 (k : Int)] 77))) := B4
                  have S4 : (wr.alloc (.cells #[str [99], .slice ada args.length capa, .bool false, .bool ((k : Int) % 2 == 0), .bool ((k : Int) % 3 == 0), str x, .int .i64 (k : Int)] 77)).heap.size = wr.heap.size + 1 := by simp
                  have d1 : (wr.alloc (.cells #[str [99], .slice ada args.length capa, .bool false, .bool ((k : Int) % 2 == 0), .bool ((k : Int) % 3 == 0), str x, .int .i64 (k : Int)] 77)).cell? ⟨w3.heap.size, 1, none⟩ = some (.slice adr Y.length capr) := (HR.out.1.1.turn (Turn.ofBelow (S := fun _ => False) B4) (fun h => h)).cell 1
                  have HOA : Hid (((wr.alloc (.cells #[str [99], .slice ada args.length capa, .bool false, .bool ((k : Int) % 2 == 0), .bool ((k : Int) % 3 == 0), str x, .int .i64 (k : Int)] 77)).alloc (.cells #[str [99], .slice ada args.length capa, .bool false, .bool ((k : Int) % 2 == 0), .bool ((k : Int) % 3 == 0), str x, .int .i64 (k : Int)] 77)).ownsRow W.heap.size 77 7 (.slice adr Y.length capr) Y.length (rwCs Y)) := owns_below (owns_below HR.out.1.2.1 B4) (below_new _ _)
                  have HSZ : Hid (W.heap.size ≤ ((wr.alloc (.cells #[str [99], .slice ada args.length capa, .bool false, .bool ((k : Int) % 2 == 0), .bool ((k : Int) % 3 == 0), str x, .int .i64 (k : Int)] 77)).alloc (.cells #[str [99], .slice ada args.length capa, .bool false, .bool ((k : Int) % 2 == 0), .bool ((k : Int) % 3 == 0), str x, .int .i64 (k : Int)] 77)).heap.size) := Nat.le_trans hbs.size (Nat.le_trans B4.size (below_new _ _).size)
                  have HCN : Hid (∀ j u, (rwC ⟨[99], args, false, (k : Int) % 2 == 0, (k : Int) % 3 == 0, x, (k : Int)⟩ (.slice ada args.length capa))[j]? = some u → ((wr.alloc (.cells #[str [99], .slice ada args.length capa, .bool false, .bool ((k : Int) % 2 == 0), .bool ((k : Int) % 3 == 0), str x, .int .i64 (k : Int)] 77)).alloc (.cells #[str [99], .slice ada args.length capa, .bool false, .bool ((k : Int) % 2 == 0), .bool ((k : Int) % 3 == 0), str x, .int .i64 (k : Int)] 77)).cell? ((⟨wr.heap.size + 1, 0, none⟩ : Addr).add j) = some u) := by
                    have := cells_new (wr.alloc (.cells #[str [99], .slice ada args.length capa, .bool false, .bool ((k : Int) % 2 == 0), .bool ((k : Int) % 3 == 0), str x, .int .i64 (k : Int)] 77)) (rwC ⟨[99], args, false, (k : Int) % 2 == 0, (k : Int) % 3 == 0, x, (k : Int)⟩ (.slice ada args.length capa)) 77
                    rw [S4] at this
                    exact this
                  have HLV : Hid (Ot (wr.alloc (.cells #[str [99], .slice ada args.length capa, .bool false, .bool ((k : Int) % 2 == 0), .bool ((k : Int) % 3 == 0), str x, .int .i64 (k : Int)] 77)) (fun i => W.heap.size ≤ i) (.slice ada args.length capa) args ∨ ((.slice ada args.length capa : Value) = .slice ada args.length capa ∧ args = args)) := .inr ⟨rfl, rfl⟩
                  have HRI : Hid (rowI any outs args k = ⟨[99], args, false, (k : Int) % 2 == 0, (k : Int) % 3 == 0, x, (k : Int)⟩) := by
                    unfold Hid rowI
                    rw [show bt any k = false from hA, show bt any (k + 8) = true from hB, HX.out]
                    rfl
                  have HAT : Hid (atI any (k + 1) = at_) := (atI_keep any k (fun h => hneg (by rw [← hat.out]; exact h.1))).trans hat.out
                  clear B4 S4
                  go_wp2_with (at_builtin; refine wpList_append_own _ rfl _ _ 23 rfl W.heap.size 77 i0 _ 7 72 Tryd.underlying23 hi hz0 hz1 hz2 rfl (by decide) _ _ _ rfl HOA.out ⟨wr.heap.size + 1, 0, none⟩ 1 1 (rwC ⟨[99], args, false, (k : Int) % 2 == 0, (k : Int) % 3 == 0, x, (k : Int)⟩ (.slice ada args.length capa)) rfl rfl HCN.out (rwC_one _ _ _) (by have := maxLen_big; omega) (by omega) HSZ.out ?_; intro v5 w5 hown5 hgrow5 _; obtain ⟨ad5, cap5, rfl⟩ := owns_slice hown5; have NT : Hid _ := RB.app (r := ⟨[99], args, false, (k : Int) % 2 == 0, (k : Int) % 3 == 0, x, (k : Int)⟩) HR.out.1 HB4.out hw3s hbs.size HLV.out hown5 hgrow5; have c5 := NT.out.1; have f5 := NT.out.2.1; clear hown5 hgrow5)
                  refine ⟨⟨k + 1, _, Y ++ [(⟨[99], args, false, (k : Int) % 2 == 0, (k : Int) % 3 == 0, x, (k : Int)⟩, .slice ada args.length capa)], by rw [HAT.out], by simp, by omega, ⟨NT.out.2.2.1, ?_⟩, HX3.out, hbs.trans NT.out.2.2.2⟩, by simp [intOf]; omega⟩
                  rw [rowsK_succ, HRI.out, List.map_append, HR.out.2]
                  rfl
              | false =>
                by_cases hneg : at_ < 0
                · have B4 : Below wr.heap.size wr ((wr.alloc (.cells #[str [99], .slice (some ⟨wr.heap.size + 1, 0, none⟩) 6 6, .bool false, .bool ((k : Int) % 2 == 0), .bool ((k : Int) % 3 == 0), str x, .int .i64 (k : Int)] 77)).alloc (.cells #[.string ⟨#[111, 116, 104, 101, 114]⟩, .string ⟨#[97, 114, 103, 115]⟩, .string ⟨#[116, 104, 97, 116]⟩, .string ⟨#[110, 111, 98, 111, 100, 121]⟩, .string ⟨#[104, 97, 110, 100, 115]⟩, .string ⟨#[105, 110]⟩] 9)) := (below_new wr _).alloc (below_new wr _).size _
                  have HB4 : Hid (Below wr.heap.size wr ((wr.alloc (.cells #[str [99], .slice (some ⟨wr.heap.size + 1, 0, none⟩) 6 6, .bool false, .bool ((k : Int) % 2 == 0), .bool ((k : Int) % 3 == 0), str x, .int .i64 (k : Int)] 77)).alloc (.cells #[.string ⟨#[111, 116, 104, 101, 114]⟩, .string ⟨#[97, 114, 103, 115]⟩, .string ⟨#[116, 104, 97, 116]⟩, .string ⟨#[110, 111, 98, 111, 100, 121]⟩, .string ⟨#[104, 97, 110, 100, 115]⟩, .string ⟨#[105, 110]⟩] 9))) := B4
                  have S4 : ((wr.alloc (.cells #[str [99], .slice (some ⟨wr.heap.size + 1, 0, none⟩) 6 6, .bool false, .bool ((k : Int) % 2 == 0), .bool ((k : Int) % 3 == 0), str x, .int .i64 (k : Int)] 77)).alloc (.cells #[.string ⟨#[111, 116, 104, 101, 114]⟩, .string ⟨#[97, 114, 103, 115]⟩, .string ⟨#[116, 104, 97, 116]⟩, .string ⟨#[110, 111, 98, 111, 100, 121]⟩, .string ⟨#[104, 97, 110, 100, 115]⟩, .string ⟨#[105, 110]⟩] 9)).heap.size = wr.heap.size + 2 := by simp
                  have d1 : ((wr.alloc (.cells #[str [99], .slice (some ⟨wr.heap.size + 1, 0, none⟩) 6 6, .bool false, .bool ((k : Int) % 2 == 0), .bool ((k : Int) % 3 == 0), str x, .int .i64 (k : Int)] 77)).alloc (.cells #[.string ⟨#[111, 116, 104, 101, 114]⟩, .string ⟨#[97, 114, 103, 115]⟩, .string ⟨#[116, 104, 97, 116]⟩, .string ⟨#[110, 111, 98, 111, 100, 121]⟩, .string ⟨#[104, 97, 110, 100, 115]⟩, .string ⟨#[105, 110]⟩] 9)).cell? ⟨w3.heap.size, 1, none⟩ = some (.slice adr Y.length capr) := (HR.out.1.1.turn (Turn.ofBelow (S := fun _ => False) B4) (fun h => h)).cell 1
                  have HOA : Hid ((((wr.alloc (.cells #[str [99], .slice (some ⟨wr.heap.size + 1, 0, none⟩) 6 6, .bool false, .bool ((k : Int) % 2 == 0), .bool ((k : Int) % 3 == 0), str x, .int .i64 (k : Int)] 77)).alloc (.cells #[.string ⟨#[111, 116, 104, 101, 114]⟩, .string ⟨#[97, 114, 103, 115]⟩, .string ⟨#[116, 104, 97, 116]⟩, .string ⟨#[110, 111, 98, 111, 100, 121]⟩, .string ⟨#[104, 97, 110, 100, 115]⟩, .string ⟨#[105, 110]⟩] 9)).alloc (.cells #[str [99], .slice (some ⟨wr.heap.size + 1, 0, none⟩) 6 6, .bool false, .bool ((k : Int) % 2 == 0), .bool ((k : Int) % 3 == 0), str x, .int .i64 (k : Int)] 77)).ownsRow W.heap.size 77 7 (.slice adr Y.length capr) Y.length (rwCs Y)) := owns_below (owns_below HR.out.1.2.1 B4) (below_new _ _)
                  have HSZ : Hid (W.heap.size ≤ (((wr.alloc (.cells #[str [99], .slice (some ⟨wr.heap.size + 1, 0, none⟩) 6 6, .bool false, .bool ((k : Int) % 2 == 0), .bool ((k : Int) % 3 == 0), str x, .int .i64 (k : Int)] 77)).alloc (.cells #[.string ⟨#[111, 116, 104, 101, 114]⟩, .string ⟨#[97, 114, 103, 115]⟩, .string ⟨#[116, 104, 97, 116]⟩, .string ⟨#[110, 111, 98, 111, 100, 121]⟩, .string ⟨#[104, 97, 110, 100, 115]⟩, .string ⟨#[105, 110]⟩] 9)).alloc (.cells #[str [99], .slice (some ⟨wr.heap.size + 1, 0, none⟩) 6 6, .bool false, .bool ((k : Int) % 2 == 0), .bool ((k : Int) % 3 == 0), str x, .int .i64 (k : Int)] 77)).heap.size) := Nat.le_trans hbs.size (Nat.le_trans B4.size (below_new _ _).size)
                  have HCN : Hid (∀ j u, (rwC ⟨[99], other6, false, (k : Int) % 2 == 0, (k : Int) % 3 == 0, x, (k : Int)⟩ (.slice (some ⟨wr.heap.size + 1, 0, none⟩) 6 6))[j]? = some u → (((wr.alloc (.cells #[str [99], .slice (some ⟨wr.heap.size + 1, 0, none⟩) 6 6, .bool false, .bool ((k : Int) % 2 == 0), .bool ((k : Int) % 3 == 0), str x, .int .i64 (k : Int)] 77)).alloc (.cells #[.string ⟨#[111, 116, 104, 101, 114]⟩, .string ⟨#[97, 114, 103, 115]⟩, .string ⟨#[116, 104, 97, 116]⟩, .string ⟨#[110, 111, 98, 111, 100, 121]⟩, .string ⟨#[104, 97, 110, 100, 115]⟩, .string ⟨#[105, 110]⟩] 9)).alloc (.cells #[str [99], .slice (some ⟨wr.heap.size + 1, 0, none⟩) 6 6, .bool false, .bool ((k : Int) % 2 == 0), .bool ((k : Int) % 3 == 0), str x, .int .i64 (k : Int)] 77)).cell? ((⟨wr.heap.size + 2, 0, none⟩ : Addr).add j) = some u) := by
                    have := cells_new ((wr.alloc (.cells #[str [99], .slice (some ⟨wr.heap.size + 1, 0, none⟩) 6 6, .bool false, .bool ((k : Int) % 2 == 0), .bool ((k : Int) % 3 == 0), str x, .int .i64 (k : Int)] 77)).alloc (.cells #[.string ⟨#[111, 116, 104, 101, 114]⟩, .string ⟨#[97, 114, 103, 115]⟩, .string ⟨#[116, 104, 97, 116]⟩, .string ⟨#[110, 111, 98, 111, 100, 121]⟩, .string ⟨#[104, 97, 110, 100, 115]⟩, .string ⟨#[105, 110]⟩] 9)) (rwC ⟨[99], other6, false, (k : Int) % 2 == 0, (k : Int) % 3 == 0, x, (k : Int)⟩ (.slice (some ⟨wr.heap.size + 1, 0, none⟩) 6 6)) 77
                    rw [S4] at this
                    exact this
                  have HLV : Hid (Ot ((wr.alloc (.cells #[str [99], .slice (some ⟨wr.heap.size + 1, 0, none⟩) 6 6, .bool false, .bool ((k : Int) % 2 == 0), .bool ((k : Int) % 3 == 0), str x, .int .i64 (k : Int)] 77)).alloc (.cells #[.string ⟨#[111, 116, 104, 101, 114]⟩, .string ⟨#[97, 114, 103, 115]⟩, .string ⟨#[116, 104, 97, 116]⟩, .string ⟨#[110, 111, 98, 111, 100, 121]⟩, .string ⟨#[104, 97, 110, 100, 115]⟩, .string ⟨#[105, 110]⟩] 9)) (fun i => W.heap.size ≤ i) (.slice (some ⟨wr.heap.size + 1, 0, none⟩) 6 6) other6 ∨ ((.slice (some ⟨wr.heap.size + 1, 0, none⟩) 6 6 : Value) = .slice ada args.length capa ∧ other6 = args)) := .inl (by
                    have h6 := six_own (wr.alloc (.cells #[str [99], .slice (some ⟨wr.heap.size + 1, 0, none⟩) 6 6, .bool false, .bool ((k : Int) % 2 == 0), .bool ((k : Int) % 3 == 0), str x, .int .i64 (k : Int)] 77)) W.heap.size (Nat.le_trans hbs.size (below_new wr _).size)
                    rw [show (wr.alloc (.cells #[str [99], .slice (some ⟨wr.heap.size + 1, 0, none⟩) 6 6, .bool false, .bool ((k : Int) % 2 == 0), .bool ((k : Int) % 3 == 0), str x, .int .i64 (k : Int)] 77)).heap.size = wr.heap.size + 1 by simp] at h6
                    exact h6)
                  have HRI : Hid (rowI any outs args k = ⟨[99], other6, false, (k : Int) % 2 == 0, (k : Int) % 3 == 0, x, (k : Int)⟩) := by
                    unfold Hid rowI
                    rw [show bt any k = false from hA, show bt any (k + 8) = false from hB, HX.out]
                    rfl
                  have HAT : Hid (atI any (k + 1) = at_) := (atI_keep any k (fun h => by have h2 := h.2; unfold hit at h2; rw [show bt any k = false from hA, show bt any (k + 8) = false from hB] at h2; cases h2)).trans hat.out
                  clear B4 S4
                  go_wp2_with (at_builtin; refine wpList_append_own _ rfl _ _ 23 rfl W.heap.size 77 i0 _ 7 72 Tryd.underlying23 hi hz0 hz1 hz2 rfl (by decide) _ _ _ rfl HOA.out ⟨wr.heap.size + 2, 0, none⟩ 1 1 (rwC ⟨[99], other6, false, (k : Int) % 2 == 0, (k : Int) % 3 == 0, x, (k : Int)⟩ (.slice (some ⟨wr.heap.size + 1, 0, none⟩) 6 6)) rfl rfl HCN.out (rwC_one _ _ _) (by have := maxLen_big; omega) (by omega) HSZ.out ?_; intro v5 w5 hown5 hgrow5 _; obtain ⟨ad5, cap5, rfl⟩ := owns_slice hown5; have NT : Hid _ := RB.app (r := ⟨[99], other6, false, (k : Int) % 2 == 0, (k : Int) % 3 == 0, x, (k : Int)⟩) HR.out.1 HB4.out hw3s hbs.size HLV.out hown5 hgrow5; have c5 := NT.out.1; have f5 := NT.out.2.1; clear hown5 hgrow5)
                  refine ⟨⟨k + 1, _, Y ++ [(⟨[99], other6, false, (k : Int) % 2 == 0, (k : Int) % 3 == 0, x, (k : Int)⟩, .slice (some ⟨wr.heap.size + 1, 0, none⟩) 6 6)], by rw [HAT.out], by simp, by omega, ⟨NT.out.2.2.1, ?_⟩, HX3.out, hbs.trans NT.out.2.2.2⟩, by simp [intOf]; omega⟩
                  rw [rowsK_succ, HRI.out, List.map_append, HR.out.2]
                  rfl
                · have hneg' : decide (at_ < 0) = false := decide_eq_false hneg
                  have B4 : Below wr.heap.size wr ((wr.alloc (.cells #[str [99], .slice (some ⟨wr.heap.size + 1, 0, none⟩) 6 6, .bool false, .bool ((k : Int) % 2 == 0), .bool ((k : Int) % 3 == 0), str x, .int .i64 (k : Int)] 77)).alloc (.cells #[.string ⟨#[111, 116, 104, 101, 114]⟩, .string ⟨#[97, 114, 103, 115]⟩, .string ⟨#[116, 104, 97, 116]⟩, .string ⟨#[110, 111, 98, 111, 100, 121]⟩, .string ⟨#[104, 97, 110, 100, 115]⟩, .string ⟨#[105, 110]⟩] 9)) := (below_new wr _).alloc (below_new wr _).size _
                  have HB4 : Hid (Below wr.heap.size wr ((wr.alloc (.cells #[str [99], .slice (some ⟨wr.heap.size + 1, 0, none⟩) 6 6, .bool false, .bool ((k : Int) % 2 == 0), .bool ((k : Int) % 3 == 0), str x, .int .i64 (k : Int)] 77)).alloc (.cells #[.string ⟨#[111, 116, 104, 101, 114]⟩, .string ⟨#[97, 114, 103, 115]⟩, .string ⟨#[116, 104, 97, 116]⟩, .string ⟨#[110, 111, 98, 111, 100, 121]⟩, .string ⟨#[104, 97, 110, 100, 115]⟩, .string ⟨#[105, 110]⟩] 9))) := B4
                  have S4 : ((wr.alloc (.cells #[str [99], .slice (some ⟨wr.heap.size + 1, 0, none⟩) 6 6, .bool false, .bool ((k : Int) % 2 == 0), .bool ((k : Int) % 3 == 0), str x, .int .i64 (k : Int)] 77)).alloc (.cells #[.string ⟨#[111, 116, 104, 101, 114]⟩, .string ⟨#[97, 114, 103, 115]⟩, .string ⟨#[116, 104, 97, 116]⟩, .string ⟨#[110, 111, 98, 111, 100, 121]⟩, .string ⟨#[104, 97, 110, 100, 115]⟩, .string ⟨#[105, 110]⟩] 9)).heap.size = wr.heap.size + 2 := by simp
                  have d1 : ((wr.alloc (.cells #[str [99], .slice (some ⟨wr.heap.size + 1, 0, none⟩) 6 6, .bool false, .bool ((k : Int) % 2 == 0), .bool ((k : Int) % 3 == 0), str x, .int .i64 (k : Int)] 77)).alloc (.cells #[.string ⟨#[111, 116, 104, 101, 114]⟩, .string ⟨#[97, 114, 103, 115]⟩, .string ⟨#[116, 104, 97, 116]⟩, .string ⟨#[110, 111, 98, 111, 100, 121]⟩, .string ⟨#[104, 97, 110, 100, 115]⟩, .string ⟨#[105, 110]⟩] 9)).cell? ⟨w3.heap.size, 1, none⟩ = some (.slice adr Y.length capr) := (HR.out.1.1.turn (Turn.ofBelow (S := fun _ => False) B4) (fun h => h)).cell 1
                  have HOA : Hid ((((wr.alloc (.cells #[str [99], .slice (some ⟨wr.heap.size + 1, 0, none⟩) 6 6, .bool false, .bool ((k : Int) % 2 == 0), .bool ((k : Int) % 3 == 0), str x, .int .i64 (k : Int)] 77)).alloc (.cells #[.string ⟨#[111, 116, 104, 101, 114]⟩, .string ⟨#[97, 114, 103, 115]⟩, .string ⟨#[116, 104, 97, 116]⟩, .string ⟨#[110, 111, 98, 111, 100, 121]⟩, .string ⟨#[104, 97, 110, 100, 115]⟩, .string ⟨#[105, 110]⟩] 9)).alloc (.cells #[str [99], .slice (some ⟨wr.heap.size + 1, 0, none⟩) 6 6, .bool false, .bool ((k : Int) % 2 == 0), .bool ((k : Int) % 3 == 0), str x, .int .i64 (k : Int)] 77)).ownsRow W.heap.size 77 7 (.slice adr Y.length capr) Y.length (rwCs Y)) := owns_below (owns_below HR.out.1.2.1 B4) (below_new _ _)
                  have HSZ : Hid (W.heap.size ≤ (((wr.alloc (.cells #[str [99], .slice (some ⟨wr.heap.size + 1, 0, none⟩) 6 6, .bool false, .bool ((k : Int) % 2 == 0), .bool ((k : Int) % 3 == 0), str x, .int .i64 (k : Int)] 77)).alloc (.cells #[.string ⟨#[111, 116, 104, 101, 114]⟩, .string ⟨#[97, 114, 103, 115]⟩, .string ⟨#[116, 104, 97, 116]⟩, .string ⟨#[110, 111, 98, 111, 100, 121]⟩, .string ⟨#[104, 97, 110, 100, 115]⟩, .string ⟨#[105, 110]⟩] 9)).alloc (.cells #[str [99], .slice (some ⟨wr.heap.size + 1, 0, none⟩) 6 6, .bool false, .bool ((k : Int) % 2 == 0), .bool ((k : Int) % 3 == 0), str x, .int .i64 (k : Int)] 77)).heap.size) := Nat.le_trans hbs.size (Nat.le_trans B4.size (below_new _ _).size)
                  have HCN : Hid (∀ j u, (rwC ⟨[99], other6, false, (k : Int) % 2 == 0, (k : Int) % 3 == 0, x, (k : Int)⟩ (.slice (some ⟨wr.heap.size + 1, 0, none⟩) 6 6))[j]? = some u → (((wr.alloc (.cells #[str [99], .slice (some ⟨wr.heap.size + 1, 0, none⟩) 6 6, .bool false, .bool ((k : Int) % 2 == 0), .bool ((k : Int) % 3 == 0), str x, .int .i64 (k : Int)] 77)).alloc (.cells #[.string ⟨#[111, 116, 104, 101, 114]⟩, .string ⟨#[97, 114, 103, 115]⟩, .string ⟨#[116, 104, 97, 116]⟩, .string ⟨#[110, 111, 98, 111, 100, 121]⟩, .string ⟨#[104, 97, 110, 100, 115]⟩, .string ⟨#[105, 110]⟩] 9)).alloc (.cells #[str [99], .slice (some ⟨wr.heap.size + 1, 0, none⟩) 6 6, .bool false, .bool ((k : Int) % 2 == 0), .bool ((k : Int) % 3 == 0), str x, .int .i64 (k : Int)] 77)).cell? ((⟨wr.heap.size + 2, 0, none⟩ : Addr).add j) = some u) := by
                    have := cells_new ((wr.alloc (.cells #[str [99], .slice (some ⟨wr.heap.size + 1, 0, none⟩) 6 6, .bool false, .bool ((k : Int) % 2 == 0), .bool ((k : Int) % 3 == 0), str x, .int .i64 (k : Int)] 77)).alloc (.cells #[.string ⟨#[111, 116, 104, 101, 114]⟩, .string ⟨#[97, 114, 103, 115]⟩, .string ⟨#[116, 104, 97, 116]⟩, .string ⟨#[110, 111, 98, 111, 100, 121]⟩, .string ⟨#[104, 97, 110, 100, 115]⟩, .string ⟨#[105, 110]⟩] 9)) (rwC ⟨[99], other6, false, (k : Int) % 2 == 0, (k : Int) % 3 == 0, x, (k : Int)⟩ (.slice (some ⟨wr.heap.size + 1, 0, none⟩) 6 6)) 77
                    rw [S4] at this
                    exact this
                  have HLV : Hid (Ot ((wr.alloc (.cells #[str [99], .slice (some ⟨wr.heap.size + 1, 0, none⟩) 6 6, .bool false, .bool ((k : Int) % 2 == 0), .bool ((k : Int) % 3 == 0), str x, .int .i64 (k : Int)] 77)).alloc (.cells #[.string ⟨#[111, 116, 104, 101, 114]⟩, .string ⟨#[97, 114, 103, 115]⟩, .string ⟨#[116, 104, 97, 116]⟩, .string ⟨#[110, 111, 98, 111, 100, 121]⟩, .string ⟨#[104, 97, 110, 100, 115]⟩, .string ⟨#[105, 110]⟩] 9)) (fun i => W.heap.size ≤ i) (.slice (some ⟨wr.heap.size + 1, 0, none⟩) 6 6) other6 ∨ ((.slice (some ⟨wr.heap.size + 1, 0, none⟩) 6 6 : Value) = .slice ada args.length capa ∧ other6 = args)) := .inl (by
                    have h6 := six_own (wr.alloc (.cells #[str [99], .slice (some ⟨wr.heap.size + 1, 0, none⟩) 6 6, .bool false, .bool ((k : Int) % 2 == 0), .bool ((k : Int) % 3 == 0), str x, .int .i64 (k : Int)] 77)) W.heap.size (Nat.le_trans hbs.size (below_new wr _).size)
                    rw [show (wr.alloc (.cells #[str [99], .slice (some ⟨wr.heap.size + 1, 0, none⟩) 6 6, .bool false, .bool ((k : Int) % 2 == 0), .bool ((k : Int) % 3 == 0), str x, .int .i64 (k : Int)] 77)).heap.size = wr.heap.size + 1 by simp] at h6
                    exact h6)
                  have HRI : Hid (rowI any outs args k = ⟨[99], other6, false, (k : Int) % 2 == 0, (k : Int) % 3 == 0, x, (k : Int)⟩) := by
                    unfold Hid rowI
                    rw [show bt any k = false from hA, show bt any (k + 8) = false from hB, HX.out]
                    rfl
                  have HAT : Hid (atI any (k + 1) = at_) := (atI_keep any k (fun h => hneg (by rw [← hat.out]; exact h.1))).trans hat.out
                  clear B4 S4
                  go_wp2_with (at_builtin; refine wpList_append_own _ rfl _ _ 23 rfl W.heap.size 77 i0 _ 7 72 Tryd.underlying23 hi hz0 hz1 hz2 rfl (by decide) _ _ _ rfl HOA.out ⟨wr.heap.size + 2, 0, none⟩ 1 1 (rwC ⟨[99], other6, false, (k : Int) % 2 == 0, (k : Int) % 3 == 0, x, (k : Int)⟩ (.slice (some ⟨wr.heap.size + 1, 0, none⟩) 6 6)) rfl rfl HCN.out (rwC_one _ _ _) (by have := maxLen_big; omega) (by omega) HSZ.out ?_; intro v5 w5 hown5 hgrow5 _; obtain ⟨ad5, cap5, rfl⟩ := owns_slice hown5; have NT : Hid _ := RB.app (r := ⟨[99], other6, false, (k : Int) % 2 == 0, (k : Int) % 3 == 0, x, (k : Int)⟩) HR.out.1 HB4.out hw3s hbs.size HLV.out hown5 hgrow5; have c5 := NT.out.1; have f5 := NT.out.2.1; clear hown5 hgrow5)
                  refine ⟨⟨k + 1, _, Y ++ [(⟨[99], other6, false, (k : Int) % 2 == 0, (k : Int) % 3 == 0, x, (k : Int)⟩, .slice (some ⟨wr.heap.size + 1, 0, none⟩) 6 6)], by rw [HAT.out], by simp, by omega, ⟨NT.out.2.2.1, ?_⟩, HX3.out, hbs.trans NT.out.2.2.2⟩, by simp [intOf]; omega⟩
                  rw [rowsK_succ, HRI.out, List.map_append, HR.out.2]
                  rfl
        · have hkz : k = outs.length := by omega
          subst hkz
          have HSO : Hid (∀ s ∈ outs, s.length ≤ 300) := fun s hs => by
            obtain ⟨j, hj, rfl⟩ := List.getElem_of_mem hs
            exact HS3.out j _ hj (List.getElem?_eq_getElem hj)
          have HYA : Hid (∀ p ∈ Y, p.1.args.length < 4294967296) := all_of (P := fun r : Rw => r.args.length < 4294967296) HR.out.2 fun r hr => by
            obtain ⟨i, _, rfl⟩ := rowsK_mem any outs args _ hr
            have := (rowI_small any outs args i (by omega) HSO.out).1
            omega
          have HSML : Hid (∀ E : List Ev, E.length ≤ 1 → (∀ e ∈ E, e.l = args) → Sml [] (rowsK any outs args outs.length) E) := fun E hE1 hE2 => ⟨by decide, by decide, by simp [rowsK]; omega, fun r hr => by
            obtain ⟨i, _, rfl⟩ := rowsK_mem any outs args _ hr
            have := rowI_small any outs args i (by omega) HSO.out
            omega, by omega, fun e he => by rw [hE2 e he]; omega⟩
          have e0 := HR.out.1.1.cell 0
          have e1 := HR.out.1.1.cell 1
          clear HS3 hkl
          go_wp2_with fail
          refine (KW.new (.slice none 0 0) _ [] Y ea _ (.inl ⟨rfl, none, 0, rfl⟩) (HR.out.1.rwAt (HA.out _ hbs)) HYA.out (by decide) (HE.out _ hbs) (by rw [HR.out.2]; exact rowsK_may any outs args _ (by omega) (by omega) HSM.out HSO.out)).mono ?_
          rintro e w4 ⟨kb, rfl, K4, b4⟩
          rw [HR.out.2] at K4
          have HK4 : Hid (KW w4 wr.heap.size kb [] (rowsK any outs args outs.length) []) := K4
          have hb4 := hbs.trans (b4.mono hbs.size)
          have hB4 : wr.heap.size ≤ w4.heap.size := b4.size
          have hWB : W.heap.size ≤ wr.heap.size := hbs.size
          clear K4 b4 e0 e1 HR
          have HRO := rowOf_rowsK any outs args outs.length (by omega)
          have HAT : Hid (atI any outs.length = at_) := hat.out
          cases hf : (List.range outs.length).find? (hit any) with
          | none =>
            rw [hf] at HRO
            have HO0 : Hid (rowOf (rowsK any outs args outs.length) [99] args = none) := HRO
            obtain rfl : at_ = -1 := by
              have := HAT.out
              unfold atI at this
              rw [hf] at this
              exact this.symm
            clear HRO hf hat HAT
            go_wp2_with fail
            refine (KW.reads [99] args _ none HO0.out HK4.out (HSML.out [] (by simp) (by simp)) (HA.out _ hb4) (by omega)).mono ?_
            rintro e w5 ⟨rfl, b5⟩
            rw [show readsB none = false from rfl]
            have HK5 : Hid (KW w5 wr.heap.size kb [] (rowsK any outs args outs.length) []) := HK4.out.below b5
            have hb5 := hb4.trans (b5.mono hb4.size)
            have hB5 : wr.heap.size ≤ w5.heap.size := Nat.le_trans hB4 b5.size
            clear b5 HK4 hb4
            go_wp2_with fail
            refine (KW.exec [99] inp args _ none HO0.out HK5.out (HSML.out [] (by simp) (by simp)) hB5 (HA.out _ hb5) (by omega) (by omega)).mono ?_
            rintro e w6 ⟨rfl, K6, b6⟩
            rw [show outOf none inp = [] from rfl, show statOf none = 127 from rfl, show (none : Option Rw).isSome = false from rfl]
            have HK6 : Hid (KW w6 wr.heap.size kb [] (rowsK any outs args outs.length) [⟨1, 127, [99], [], args⟩]) := K6
            have hb6 := hb5.trans (b6.mono hWB)
            clear K6 b6 HK5 hb5
            go_wp2_with fail
            refine (KW.trace HK6.out (HSML.out _ (by simp) (by simp))).mono ?_
            rintro e w7 ⟨v7, X7, rfl, o7, e7, b7⟩
            obtain ⟨lt, rfl⟩ := one_of e7
            obtain ⟨gt, capt, curt, rfl, hgt, hct, hcapt, hcet⟩ := owns_at o7.1 (by show 0 < 1; omega)
            have olt := o7.2 _ (List.mem_singleton.2 rfl)
            have HTL : Hid (Tx w7 lt args) := olt.tx
            obtain ⟨adl, capl, hvl⟩ := olt.tx.form
            obtain rfl : lt = .slice adl args.length capl := hvl
            have HTC : Hid (w7.cell? ⟨gt, 0, none⟩ = some (.int .i64 1) ∧ w7.cell? ⟨gt, 1, none⟩ = some (.int .i64 127) ∧ w7.cell? ⟨gt, 2, none⟩ = some (str [99]) ∧ w7.cell? ⟨gt, 3, none⟩ = some (str []) ∧ w7.cell? ⟨gt, 4, none⟩ = some (.slice adl args.length capl) ∧ gt < w7.heap.size) := ⟨hcet 0 _ rfl, hcet 1 _ rfl, hcet 2 _ rfl, hcet 3 _ rfl, hcet 4 _ rfl, hct.lt⟩
            have t4 := HTC.out.2.2.2.2.1
            have hb7 := hb6.trans (b7.mono hb6.size)
            clear o7 e7 b7 olt hct hcet hgt HK6 hb6
            go_wp2_with fail
            refine (sameTexts_any _ _ args args _ HTL.out (HA.out _ hb7) (by omega) (by omega)).mono ?_
            rintro e w8 ⟨rfl, b8⟩
            rw [show decide (args = args) = true from decide_eq_true rfl]
            have hb8 := hb7.trans (b8.mono hb7.size)
            have t0 := (b8.cell (p := ⟨gt, 0, none⟩) HTC.out.2.2.2.2.2).trans HTC.out.1
            have t1 := (b8.cell (p := ⟨gt, 1, none⟩) HTC.out.2.2.2.2.2).trans HTC.out.2.1
            have t2 := (b8.cell (p := ⟨gt, 2, none⟩) HTC.out.2.2.2.2.2).trans HTC.out.2.2.1
            have t3 := (b8.cell (p := ⟨gt, 3, none⟩) HTC.out.2.2.2.2.2).trans HTC.out.2.2.2.1
            clear b8 t4 hb7
            go_wp2_with fail
            go_ret
            exact ⟨rfl, hb8⟩
          | some i =>
            rw [hf] at HRO
            have hin : i < outs.length := List.mem_range.1 (List.mem_of_find?_eq_some hf)
            obtain ⟨x, hx⟩ : ∃ x, outs[i]? = some x := ⟨_, List.getElem?_eq_getElem hin⟩
            obtain ⟨ars, a, hri⟩ : ∃ ars a, rowI any outs args i = ⟨[99], ars, a, (i : Int) % 2 == 0, (i : Int) % 3 == 0, x, (i : Int)⟩ := ⟨_, _, by unfold rowI; rw [hx]; rfl⟩
            have HO1 : Hid (rowOf (rowsK any outs args outs.length) [99] args = some ⟨[99], ars, a, (i : Int) % 2 == 0, (i : Int) % 3 == 0, x, (i : Int)⟩) := by
              unfold Hid
              rw [HRO, Option.map_some, hri]
            obtain rfl : at_ = (i : Int) := by
              have := HAT.out
              unfold atI at this
              rw [hf] at this
              exact this.symm
            have HX : Hid (outs[i]? = some x) := hx
            have hx300 := HSO.out x (List.mem_of_getElem? hx)
            obtain ⟨c2, h2⟩ : ∃ c2, ((i : Int) % 2 == 0) = c2 := ⟨_, rfl⟩
            obtain ⟨c3, h3⟩ : ∃ c3, ((i : Int) % 3 == 0) = c3 := ⟨_, rfl⟩
            rw [h2, h3] at HO1
            clear HRO hf hat HAT hri hx
            go_wp2_with fail
            refine (KW.reads [99] args _ _ HO1.out HK4.out (HSML.out [] (by simp) (by simp)) (HA.out _ hb4) (by omega)).mono ?_
            rintro e w5 ⟨rfl, b5⟩
            rw [show readsB (some ⟨[99], ars, a, c2, c3, x, (i : Int)⟩) = c2 from rfl]
            have HK5 : Hid (KW w5 wr.heap.size kb [] (rowsK any outs args outs.length) []) := HK4.out.below b5
            have hb5 := hb4.trans (b5.mono hb4.size)
            have hB5 : wr.heap.size ≤ w5.heap.size := Nat.le_trans hB4 b5.size
            clear b5 HK4 hb4
            go_wp2_with fail
            refine (KW.exec [99] inp args _ _ HO1.out HK5.out (HSML.out [] (by simp) (by simp)) hB5 (HA.out _ hb5) (by omega) (by omega)).mono ?_
            rintro e w6 ⟨rfl, K6, b6⟩
            obtain ⟨xo, HXO⟩ : ∃ xo, Hid (xo = (if c3 then x ++ inp else x)) := ⟨_, rfl⟩
            obtain ⟨hd, HHD⟩ : ∃ hd, Hid (hd = (if c2 then inp else [])) := ⟨_, rfl⟩
            rw [show outOf (some ⟨[99], ars, a, c2, c3, x, (i : Int)⟩) inp = xo by rw [HXO.out]; rfl, show statOf (some ⟨[99], ars, a, c2, c3, x, (i : Int)⟩) = (i : Int) from rfl, show (some (⟨[99], ars, a, c2, c3, x, (i : Int)⟩ : Rw)).isSome = true from rfl]
            have HK6 : Hid (KW w6 wr.heap.size kb [] (rowsK any outs args outs.length) [⟨1, (i : Int), [99], hd, args⟩]) := by
              unfold Hid
              rw [HHD.out]
              exact K6
            have hb6 := hb5.trans (b6.mono hWB)
            clear K6 b6 HK5 hb5
            go_wp2_with fail
            refine (KW.trace HK6.out (HSML.out _ (by simp) (by simp))).mono ?_
            rintro e w7 ⟨v7, X7, rfl, o7, e7, b7⟩
            obtain ⟨lt, rfl⟩ := one_of e7
            obtain ⟨gt, capt, curt, rfl, hgt, hct, hcapt, hcet⟩ := owns_at o7.1 (by show 0 < 1; omega)
            have olt := o7.2 _ (List.mem_singleton.2 rfl)
            have HTL : Hid (Tx w7 lt args) := olt.tx
            obtain ⟨adl, capl, hvl⟩ := olt.tx.form
            obtain rfl : lt = .slice adl args.length capl := hvl
            have HTC : Hid (w7.cell? ⟨gt, 0, none⟩ = some (.int .i64 1) ∧ w7.cell? ⟨gt, 1, none⟩ = some (.int .i64 (i : Int)) ∧ w7.cell? ⟨gt, 2, none⟩ = some (str [99]) ∧ w7.cell? ⟨gt, 3, none⟩ = some (str hd) ∧ w7.cell? ⟨gt, 4, none⟩ = some (.slice adl args.length capl) ∧ gt < w7.heap.size) := ⟨hcet 0 _ rfl, hcet 1 _ rfl, hcet 2 _ rfl, hcet 3 _ rfl, hcet 4 _ rfl, hct.lt⟩
            have t4 := HTC.out.2.2.2.2.1
            have hb7 := hb6.trans (b7.mono hb6.size)
            clear o7 e7 b7 olt hct hcet hgt HK6 hb6
            go_wp2_with fail
            refine (sameTexts_any _ _ args args _ HTL.out (HA.out _ hb7) (by omega) (by omega)).mono ?_
            rintro e w8 ⟨rfl, b8⟩
            rw [show decide (args = args) = true from decide_eq_true rfl]
            have hb8 := hb7.trans (b8.mono hb7.size)
            have t0 := (b8.cell (p := ⟨gt, 0, none⟩) HTC.out.2.2.2.2.2).trans HTC.out.1
            have t1 := (b8.cell (p := ⟨gt, 1, none⟩) HTC.out.2.2.2.2.2).trans HTC.out.2.1
            have t2 := (b8.cell (p := ⟨gt, 2, none⟩) HTC.out.2.2.2.2.2).trans HTC.out.2.2.1
            have t3 := (b8.cell (p := ⟨gt, 3, none⟩) HTC.out.2.2.2.2.2).trans HTC.out.2.2.2.1
            obtain ⟨go, oo, capo', hvo, _, _, hceo⟩ := (HO.out _ hb8).inRow (fun e => by rw [e] at hin; simp at hin)
            cases hvo
            have ox := hceo i x HX.out
            have hba := bytes_app x inp
            have hii : ¬ (i : Int) < 0 := by omega
            have hio : (i : Int) < (outs.length : Int) := by omega
            clear b8 t4 hb7 hceo
            cases c2 <;> cases c3
            all_goals
              have hxo := HXO.out
              have hhd := HHD.out
              clear HXO HHD
              first | rw [if_pos rfl] at hxo | rw [if_neg Bool.false_ne_true] at hxo
              first | rw [if_pos rfl] at hhd | rw [if_neg Bool.false_ne_true] at hhd
              subst hxo hhd
            all_goals go_wp2_with fail
            all_goals go_ret
            all_goals exact ⟨rfl, hb8⟩
end Go.Proofs.YthhghkjgffcpeaaDoor
