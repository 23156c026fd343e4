/- The document's own lexer: what stands here, as parts behind others. -/
import Derived.Test.YtlbdecohmjpgaaaDoorRf6
import Derived.Test.YtlbdecohmjpgaaaDoorPureR
namespace Go.Proofs.YtlbdecohmjpgaaaDoor
open Go.RowKit
attribute [local go_sem] Oper.semAt_some

/-- Parts behind others, or an error; where the lexer stands; only its block turned, and blocks that lie behind B. -/
def PrtR (W : World) (b B : Nat) (s : ByteArray) (av : Value) (R : Except Er (List Pt × List UInt8)) (v' : Value) (w' : World) : Prop := Turn (fun g => g = b ∨ B ≤ g) W w' ∧ match R with
  | .ok q => RPt w' B v' q.1 ∧ ∃ j, Lx w' b s j 0 av ∧ j ≤ s.size ∧ q.2 = s.data.toList.drop j
  | .error x => (∃ (ad : Option Addr) (n cap : Nat), v' = .slice ad n cap) ∧ ∃ j fb, Lx w' b s j (codE x.code) (.slice (some ⟨fb, 0, none⟩) 1 1) ∧ Cel w' fb 3 #[.int .i64 (x.pos : Nat)]
theorem row_ne {W : World} {B k n fb : Nat} {e t : TypeId} {v : Value} {xs : List Value} {cs : Array Value} (h : W.ownsRow B e k v n xs) (he : some fb = v.ownBlock) (hc : Cel W fb t cs) (hte : t ≠ e) : False := by
  rcases h.2 with ⟨rfl, _⟩ | ⟨g, cap, cur, rfl, _, h1, _⟩
  · cases he
  · simp only [Value.ownBlock, Option.some.injEq] at he
    subst he
    have h2 := (show W.heap[fb]? = _ from hc).symm.trans h1
    simp only [Option.some.injEq, Obj.cells.injEq] at h2
    exact hte h2.2.1
theorem kept2 {w1 w6 : World} {o1 o2 : Obj} {B k n fb : Nat} {e t : TypeId} {v : Value} {xs : List Value} {cs : Array Value} (h : Cel w1 fb t cs) (ho : w1.ownsRow B e k v n xs) (hg : ((w1.alloc o1).alloc o2).grownBy w6 v.ownBlock) (hte : t ≠ e) : Cel w6 fb t cs :=
  Cel.kept (((h.below (below_new w1 o1) h.lt)).below (below_new (w1.alloc o1) o2) (by have := h.lt; simp; omega)) hg (fun he => row_ne ho he h hte)
theorem Turn.both {b B : Nat} {W X w' : World} (h1 : Turn (fun g => g = b) W X) (h2 : Below B X w') : Turn (fun g => g = b ∨ B ≤ g) W w' :=
  Turn.trans (S := fun g => g = b ∨ B ≤ g) (T := fun g => B ≤ g) ⟨h1.os, h1.tape, h1.output, h1.size, fun k hk hs => h1.block k hk (fun e => hs (Or.inl e))⟩ (Turn.above h2) (fun _ e _ => Or.inr e)
theorem Turn.wide {b B : Nat} {W X : World} (h1 : Turn (fun g => g = b) W X) : Turn (fun g => g = b ∨ B ≤ g) W X := ⟨h1.os, h1.tape, h1.output, h1.size, fun k hk hs => h1.block k hk (fun e => hs (Or.inl e))⟩
theorem text_any {W : World} {B : Nat} {v : Value} {X : List Pt} (h : RPt W B v X) (hB : B ≤ W.heap.size) (kd a : Nat) (t : ByteArray) (hX : X.length < 100000) (hXs : ∀ p ∈ X, p.s.length ≤ 100000) (ht : t.size ≤ 100000) :
    Calls Tryd.prog 39 #[v, .int .i64 (kd : Nat), .int .i64 (a : Nat), .string t, .bool true] W fun e w' => ∃ v', e = .returned v' ∧ RPt w' B v' (textP X kd a t.data.toList) ∧ Below B W w' := by
  rcases List.eq_nil_or_concat X with rfl | ⟨Y, p, rfl⟩
  · rw [textP_new (by simp)]
    exact text_new h hB kd a t true (by simp) (Or.inr (Or.inl rfl))
  · rw [List.concat_eq_append] at *
    by_cases hp : p.kind = kd
    · rw [textP_on hp, ← hp]
      have hp2 := hXs p (by simp)
      exact (text_on h a t (by simp at hX; omega) (by omega)).mono fun e w' hw => ⟨v, hw.1, hw.2.1, hw.2.2⟩
    · rw [textP_new (by intro q hq; simp at hq; rw [← hq]; exact hp)]
      exact text_new h hB kd a t true hX (Or.inr (Or.inr ⟨Y, p, rfl, hp⟩))
theorem Lx.move {X : World} {b : Nat} {s : ByteArray} {j j' : Nat} {av : Value} (h : Lx X b s j 0 av) {v : Int} (hv : v = (j' : Nat)) : Lx (X.setCell ⟨b, 1, none⟩ (.int .i64 v)) b s j' 0 av := by
  subst hv
  exact Cel.set (j := 1) h _
theorem Turn.move {b : Nat} (X : World) (v : Value) : Turn (fun g => g = b) X (X.setCell ⟨b, 1, none⟩ v) := Turn.setCell (S := fun g => g = b) (p := ⟨b, 1, none⟩) (Turn.refl _ X) (fun _ => rfl) v
set_option maxRecDepth 100000 in
set_option maxHeartbeats 4000000 in
theorem part_escEnd {W : World} {b B : Nat} {s : ByteArray} {i : Nat} {av v : Value} {X : List Pt} (h : Lx W b s i 0 av) (hO : RPt W B v X) (hbB : b < B) (hBW : B ≤ W.heap.size) (hs : s.size ≤ 8192) (hX : X.length < 100000) (hi : i < s.size) (hc : s[i] = 92) (hn : s.size ≤ i + 1) :
    Calls Tryd.prog 26 #[.pointer (some ⟨b, 0, none⟩), v] W fun e w' => ∃ v', e = .returned v' ∧ PrtR W b B s av (preR X (parts s.size s[i] (s.data.toList.drop (i + 1)))) v' w' := by
  obtain ⟨i0, hif, hz0, hz1, hz2⟩ := info_parts infoR
  obtain ⟨ad, cap, rfl⟩ := hO.form
  have l0 : W.cell? ⟨b, 0, none⟩ = some (.string s) := h.cell 0
  have l1 : W.cell? ⟨b, 1, none⟩ = some (.int .i64 (i : Nat)) := h.cell 1
  have l2 : W.cell? ⟨b, 2, none⟩ = some (.int .i64 0) := h.cell 2
  have lf := h.frozen 1
  have HL : Hid (Lx W b s i 0 av) := h
  have HO : Hid (RPt W B (.slice ad X.length cap) X) := hO
  have hi' : (i : Int) < (s.size : Int) := by omega
  clear h hO
  have HR : Hid (parts s.size s[i] (s.data.toList.drop (i + 1)) = .ok ([⟨2, i, 0, false, [92]⟩], s.data.toList.drop (i + 1))) := by
    unfold Hid
    rw [hc, drop_out s (i + 1) hn, parts, if_pos rfl, show s.size - (([] : List UInt8).length + 1) = i by simp; omega]
    rfl
  rw [HR.out]
  have q92 : (((s[i]).toNat : Int) == 92) = true := by rw [hc]; rfl
  have hn1 : (s.size : Int) ≤ (i : Int) + 1 := by omega
  clear hc HR
  go_enter Tryd.func26, Tryd.ntmps26
  go_upto_region 7 with fail
  obtain ⟨W1, hW1⟩ : ∃ W1, W1 = W.setCell ⟨b, 1, none⟩ (.int .i64 ((i : Int) + 1)) := ⟨_, rfl⟩
  have HL1 : Hid (Lx W1 b s (i + 1) 0 av) := by rw [hW1]; exact HL.out.move (by simp)
  have HT1 : Hid (Turn (fun g => g = b) W W1) := by rw [hW1]; exact Turn.move W _
  have HO1 : Hid (RPt W1 B (.slice ad X.length cap) X) := HO.out.turn HT1.out (fun _ e => by omega)
  have hz1' : B ≤ W1.heap.size := Nat.le_trans hBW HT1.out.size
  rw [← hW1]
  have m0 : W1.cell? ⟨b, 0, none⟩ = some (.string s) := HL1.out.cell 0
  clear hW1 l0 l1 l2 lf HL HO
  go_wp2_with (at_builtin; refine wpList_append_own_at _ rfl _ _ 43 rfl B 72 i0 _ 5 48 Tryd.underlying43 hif hz0 hz1 hz2 rfl (by decide) _ _ _ rfl (World.ownsRow.alloc HO1.out _) ⟨W1.heap.size, 0, none⟩ 1 1 (ptC (⟨2, i, 0, false, [92]⟩ : Pt)) rfl rfl (cells_new _ _ _) (by simp [Value.oneCell']) (by have := maxLen_big; omega) (by omega) (by simp; omega) ?_; intro v6 w6 hown hgrow _ _)
  have HB6 : Hid (Below B W1 w6) := grown_own (by simp; omega) ((Below.refl B W1).alloc hz1' _) (World.ownsRow.alloc HO1.out _) hgrow
  have HO6 : Hid (RPt w6 B v6 (X ++ [⟨2, i, 0, false, [92]⟩])) := by
    unfold Hid RPt
    rw [ptCs_append, ptCs_one, List.length_append]
    exact hown
  clear hown hgrow
  go_wp2_with fail
  go_ret
  exact ⟨v6, rfl, HT1.out.both HB6.out, HO6.out, i + 1, HL1.out.below HB6.out hbB, by omega, rfl⟩
set_option maxRecDepth 100000 in
set_option maxHeartbeats 4000000 in
theorem part_esc {W : World} {b B : Nat} {s : ByteArray} {i : Nat} {av v : Value} {X : List Pt} (h : Lx W b s i 0 av) (hO : RPt W B v X) (hbB : b < B) (hBW : B ≤ W.heap.size) (hs : s.size ≤ 8192) (hX : X.length < 100000) (hi : i < s.size) (hc : s[i] = 92) (hn : i + 1 < s.size) :
    Calls Tryd.prog 26 #[.pointer (some ⟨b, 0, none⟩), v] W fun e w' => ∃ v', e = .returned v' ∧ PrtR W b B s av (preR X (parts s.size s[i] (s.data.toList.drop (i + 1)))) v' w' := by
  obtain ⟨i0, hif, hz0, hz1, hz2⟩ := info_parts infoR
  obtain ⟨ad, cap, rfl⟩ := hO.form
  have l0 : W.cell? ⟨b, 0, none⟩ = some (.string s) := h.cell 0
  have l1 : W.cell? ⟨b, 1, none⟩ = some (.int .i64 (i : Nat)) := h.cell 1
  have l2 : W.cell? ⟨b, 2, none⟩ = some (.int .i64 0) := h.cell 2
  have lf := h.frozen 1
  have HL : Hid (Lx W b s i 0 av) := h
  have HO : Hid (RPt W B (.slice ad X.length cap) X) := hO
  have hi' : (i : Int) < (s.size : Int) := by omega
  clear h hO
  obtain ⟨nm, HNM⟩ : ∃ nm, Hid ((s.extract (i + 1) (i + 2)).data.toList = nm) := ⟨_, rfl⟩
  have HR : Hid (parts s.size s[i] (s.data.toList.drop (i + 1)) = .ok ([⟨2, i, 0, false, nm⟩], s.data.toList.drop (i + 2))) := by
    unfold Hid
    rw [← HNM.out]
    have hl := len_drop' s (i + 1)
    rw [hc, one_eq s (i + 1) hn, parts.eq_def, if_pos rfl, show s.size - ((s.data.toList.drop (i + 1)).length + 1) = i by omega, drop_cons s (i + 1) hn]
    rfl
  rw [HR.out]
  have q92 : (((s[i]).toNat : Int) == 92) = true := by rw [hc]; rfl
  have hn1 : ¬ (s.size : Int) ≤ (i : Int) + 1 := by omega
  have hn2 : (i : Int) + 2 ≤ (s.size : Int) := by omega
  clear hc HR
  go_enter Tryd.func26, Tryd.ntmps26
  go_upto_region 9 with fail
  obtain ⟨W1, hW1⟩ : ∃ W1, W1 = W.setCell ⟨b, 1, none⟩ (.int .i64 ((i : Int) + 2)) := ⟨_, rfl⟩
  have HL1 : Hid (Lx W1 b s (i + 2) 0 av) := by rw [hW1]; exact HL.out.move (by simp)
  have HT1 : Hid (Turn (fun g => g = b) W W1) := by rw [hW1]; exact Turn.move W _
  have HO1 : Hid (RPt W1 B (.slice ad X.length cap) X) := HO.out.turn HT1.out (fun _ e => by omega)
  have hz1' : B ≤ W1.heap.size := Nat.le_trans hBW HT1.out.size
  rw [← hW1]
  have m0 : W1.cell? ⟨b, 0, none⟩ = some (.string s) := HL1.out.cell 0
  clear hW1 l0 l1 l2 lf HL HO
  go_wp2_with (at_builtin; refine wpList_append_own_at _ rfl _ _ 43 rfl B 72 i0 _ 5 48 Tryd.underlying43 hif hz0 hz1 hz2 rfl (by decide) _ _ _ rfl (World.ownsRow.alloc HO1.out _) ⟨W1.heap.size, 0, none⟩ 1 1 (ptC (⟨2, i, 0, false, (s.extract (i + 1) (i + 2)).data.toList⟩ : Pt)) rfl rfl (cells_new _ _ _) (by simp [Value.oneCell']) (by have := maxLen_big; omega) (by omega) (by simp; omega) ?_; intro v6 w6 hown hgrow _ _)
  have HB6 : Hid (Below B W1 w6) := grown_own (by simp; omega) ((Below.refl B W1).alloc hz1' _) (World.ownsRow.alloc HO1.out _) hgrow
  have HO6 : Hid (RPt w6 B v6 (X ++ [⟨2, i, 0, false, (s.extract (i + 1) (i + 2)).data.toList⟩])) := by
    unfold Hid RPt
    rw [ptCs_append, ptCs_one, List.length_append]
    exact hown
  rw [HNM.out] at HO6
  clear hown hgrow
  go_wp2_with fail
  go_ret
  exact ⟨v6, rfl, HT1.out.both HB6.out, HO6.out, i + 2, HL1.out.below HB6.out hbB, by omega, rfl⟩
set_option maxRecDepth 100000 in
set_option maxHeartbeats 4000000 in
theorem part_single {W : World} {b B : Nat} {s : ByteArray} {i : Nat} {av v : Value} {X : List Pt} (h : Lx W b s i 0 av) (hO : RPt W B v X) (hbB : b < B) (hBW : B ≤ W.heap.size) (hs : s.size ≤ 8192) (hX : X.length < 100000) (hi : i < s.size) (hc : s[i] = 39) (K : Nat) (hK1 : i + 1 ≤ K) (hK2 : K ≤ s.size) (hA : ∀ k (hk : k < s.size), i + 1 ≤ k → k < K → s[k] ≠ 39) (hKs : K < s.size) (hB : s[K] = 39) (nm : List UInt8) (hnm : (s.extract (i + 1) K).data.toList = nm) :
    Calls Tryd.prog 26 #[.pointer (some ⟨b, 0, none⟩), v] W fun e w' => ∃ v', e = .returned v' ∧ PrtR W b B s av (.ok (X ++ [⟨2, i, 0, false, nm⟩], s.data.toList.drop (K + 1))) v' w' := by
  obtain ⟨i0, hif, hz0, hz1, hz2⟩ := info_parts infoR
  obtain ⟨ad, cap, rfl⟩ := hO.form
  have l0 : W.cell? ⟨b, 0, none⟩ = some (.string s) := h.cell 0
  have l1 : W.cell? ⟨b, 1, none⟩ = some (.int .i64 (i : Nat)) := h.cell 1
  have l2 : W.cell? ⟨b, 2, none⟩ = some (.int .i64 0) := h.cell 2
  have lf := h.frozen 1
  have HL : Hid (Lx W b s i 0 av) := h
  have HO : Hid (RPt W B (.slice ad X.length cap) X) := hO
  have hi' : (i : Int) < (s.size : Int) := by omega
  clear h hO
  have q92 : (((s[i]).toNat : Int) == 92) = false := by rw [hc]; rfl
  have q39 : (((s[i]).toNat : Int) == 39) = true := by rw [hc]; rfl
  have HA : Hid _ := hA
  clear hA hc
  have HNM : Hid ((s.extract (i + 1) K).data.toList = nm) := hnm
  clear hnm
  have qK : (((s[K]).toNat : Int) == 39) = true := by rw [hB]; rfl
  have hK3 : (K : Int) < (s.size : Int) := by omega
  have hK5 : ¬ (s.size : Int) ≤ (K : Int) := by omega
  have hK4 : (i : Int) + 1 ≤ (K : Int) := by omega
  clear hB
  go_enter Tryd.func26, Tryd.ntmps26
  go_wp2_with fail
  go_loop [7] (fun v7 => ∃ k : Nat, v7 = .int .i64 k ∧ i + 1 ≤ k ∧ k ≤ K) (fun v7 => K - (intOf v7).toNat)
  case atStart => exact ⟨i + 1, by simp, Nat.le_refl _, hK1⟩
  case round =>
    obtain ⟨k, rfl, hk1, hk2⟩ := hrel
    by_cases hlt : k < K
    · have hlt1 : (k : Int) < (s.size : Int) := by omega
      have hlt2 : k < s.size := by omega
      have qk : (((s[k]).toNat : Int) == 39) = false := byte_ne s[k] 39 (HA.out k hlt2 hk1 hlt)
      go_wp2_with fail
      exact ⟨⟨k + 1, by simp, by omega, by omega⟩, by simp [intOf]; omega⟩
    · obtain rfl : k = K := by omega
      clear hlt HA
      go_upto_region 18 with fail
      obtain ⟨W1, hW1⟩ : ∃ W1, W1 = W.setCell ⟨b, 1, none⟩ (.int .i64 ((k : Int) + 1)) := ⟨_, rfl⟩
      have HL1 : Hid (Lx W1 b s (k + 1) 0 av) := by rw [hW1]; exact HL.out.move (by simp)
      have HT1 : Hid (Turn (fun g => g = b) W W1) := by rw [hW1]; exact Turn.move W _
      have HO1 : Hid (RPt W1 B (.slice ad X.length cap) X) := HO.out.turn HT1.out (fun _ e => by omega)
      have hz1' : B ≤ W1.heap.size := Nat.le_trans hBW HT1.out.size
      rw [← hW1]
      have m0 : W1.cell? ⟨b, 0, none⟩ = some (.string s) := HL1.out.cell 0
      clear hW1 l0 l1 l2 lf HL HO
      go_wp2_with (at_builtin; refine wpList_append_own_at _ rfl _ _ 43 rfl B 72 i0 _ 5 48 Tryd.underlying43 hif hz0 hz1 hz2 rfl (by decide) _ _ _ rfl (World.ownsRow.alloc HO1.out _) ⟨W1.heap.size, 0, none⟩ 1 1 (ptC (⟨2, i, 0, false, (s.extract (i + 1) k).data.toList⟩ : Pt)) rfl rfl (cells_new _ _ _) (by simp [Value.oneCell']) (by have := maxLen_big; omega) (by omega) (by simp; omega) ?_; intro v6 w6 hown hgrow _ _)
      have HB6 : Hid (Below B W1 w6) := grown_own (by simp; omega) ((Below.refl B W1).alloc hz1' _) (World.ownsRow.alloc HO1.out _) hgrow
      have HO6 : Hid (RPt w6 B v6 (X ++ [⟨2, i, 0, false, (s.extract (i + 1) k).data.toList⟩])) := by
        unfold Hid RPt
        rw [ptCs_append, ptCs_one, List.length_append]
        exact hown
      rw [HNM.out] at HO6
      clear hown hgrow
      go_wp2_with fail
      go_ret
      exact ⟨v6, rfl, HT1.out.both HB6.out, HO6.out, k + 1, HL1.out.below HB6.out hbB, by omega, rfl⟩
set_option maxRecDepth 100000 in
set_option maxHeartbeats 4000000 in
theorem part_unsingle {W : World} {b B : Nat} {s : ByteArray} {i : Nat} {av v : Value} {X : List Pt} (h : Lx W b s i 0 av) (hO : RPt W B v X) (_hbB : b < B) (_hBW : B ≤ W.heap.size) (hs : s.size ≤ 8192) (_hX : X.length < 100000) (hi : i < s.size) (hc : s[i] = 39) (K : Nat) (hK1 : i + 1 ≤ K) (hK2 : K ≤ s.size) (hA : ∀ k (hk : k < s.size), i + 1 ≤ k → k < K → s[k] ≠ 39) (hKs : K = s.size) :
    Calls Tryd.prog 26 #[.pointer (some ⟨b, 0, none⟩), v] W fun e w' => ∃ v', e = .returned v' ∧ PrtR W b B s av (.error ⟨2, i⟩) v' w' := by
  obtain ⟨i0, hif, hz0, hz1, hz2⟩ := info_parts infoR
  obtain ⟨ad, cap, rfl⟩ := hO.form
  have l0 : W.cell? ⟨b, 0, none⟩ = some (.string s) := h.cell 0
  have l1 : W.cell? ⟨b, 1, none⟩ = some (.int .i64 (i : Nat)) := h.cell 1
  have l2 : W.cell? ⟨b, 2, none⟩ = some (.int .i64 0) := h.cell 2
  have lf := h.frozen 1
  have HL : Hid (Lx W b s i 0 av) := h
  have HO : Hid (RPt W B (.slice ad X.length cap) X) := hO
  have hi' : (i : Int) < (s.size : Int) := by omega
  clear h hO
  have q92 : (((s[i]).toNat : Int) == 92) = false := by rw [hc]; rfl
  have q39 : (((s[i]).toNat : Int) == 39) = true := by rw [hc]; rfl
  have HA : Hid _ := hA
  clear hA hc
  go_enter Tryd.func26, Tryd.ntmps26
  go_wp2_with fail
  go_loop [7] (fun v7 => ∃ k : Nat, v7 = .int .i64 k ∧ i + 1 ≤ k ∧ k ≤ K) (fun v7 => K - (intOf v7).toNat)
  case atStart => exact ⟨i + 1, by simp, Nat.le_refl _, hK1⟩
  case round =>
    obtain ⟨k, rfl, hk1, hk2⟩ := hrel
    by_cases hlt : k < K
    · have hlt1 : (k : Int) < (s.size : Int) := by omega
      have hlt2 : k < s.size := by omega
      have qk : (((s[k]).toNat : Int) == 39) = false := byte_ne s[k] 39 (HA.out k hlt2 hk1 hlt)
      go_wp2_with fail
      exact ⟨⟨k + 1, by simp, by omega, by omega⟩, by simp [intOf]; omega⟩
    · obtain rfl : k = K := by omega
      clear hlt HA
      have hge : decide ((s.size : Int) ≤ (k : Int)) = true := decide_eq_true (by omega)
      have hnl : ¬ (k : Int) < (s.size : Int) := by omega
      have HFA : Hid _ := fail_any HL.out ⟨2, i⟩
      go_wp2_with fail
      refine Calls.mono HFA.out ?_
      rintro e w2 ⟨rfl, j, fb, f1, f2, _, f4⟩
      have HF1 : Hid _ := f1
      have HF2 : Hid _ := f2
      have HF4 : Hid _ := f4
      clear f1 f2 f4 HFA l0 l1 l2 lf
      go_wp2_with fail
      go_ret
      exact ⟨_, rfl, Turn.wide HF4.out, ⟨_, _, _, rfl⟩, j, fb, HF1.out, HF2.out⟩
set_option maxRecDepth 100000 in
set_option maxHeartbeats 4000000 in
theorem part_dollar {W : World} {b B : Nat} {s : ByteArray} {i : Nat} {av v : Value} {X : List Pt} (h : Lx W b s i 0 av) (hO : RPt W B v X) (hbB : b < B) (hBW : B ≤ W.heap.size) (hs : s.size ≤ 8192) (hX : X.length < 100000) (hi : i < s.size) (hc : s[i] = 36) (p0 : Pt) (u : List UInt8) (hd : dolB (s.data.toList.drop i) = true) (hr : dollar s.size (s.data.toList.drop i) = .ok (p0, u)) :
    Calls Tryd.prog 26 #[.pointer (some ⟨b, 0, none⟩), v] W fun e w' => ∃ v', e = .returned v' ∧ PrtR W b B s av (.ok (X ++ [⟨p0.kind, p0.pos, p0.n, false, p0.s⟩], u)) v' w' := by
  obtain ⟨i0, hif, hz0, hz1, hz2⟩ := info_parts infoR
  obtain ⟨ad, cap, rfl⟩ := hO.form
  have l0 : W.cell? ⟨b, 0, none⟩ = some (.string s) := h.cell 0
  have l1 : W.cell? ⟨b, 1, none⟩ = some (.int .i64 (i : Nat)) := h.cell 1
  have l2 : W.cell? ⟨b, 2, none⟩ = some (.int .i64 0) := h.cell 2
  have lf := h.frozen 1
  have HL : Hid (Lx W b s i 0 av) := h
  have HO : Hid (RPt W B (.slice ad X.length cap) X) := hO
  have hi' : (i : Int) < (s.size : Int) := by omega
  clear h hO
  have q92 : (((s[i]).toNat : Int) == 92) = false := by rw [hc]; rfl
  have q39 : (((s[i]).toNat : Int) == 39) = false := by rw [hc]; rfl
  have q34 : (((s[i]).toNat : Int) == 34) = false := by rw [hc]; rfl
  have q36 : (((s[i]).toNat : Int) == 36) = true := by rw [hc]; rfl
  have HD : Hid _ := dolR_any HL.out false (by omega) hi hc
  have hlb : b < W.heap.size := by omega
  rw [hd, hr] at HD
  clear hc hd hr
  go_enter Tryd.func26, Tryd.ntmps26
  go_wp2_with fail
  refine Calls.mono HD.out ?_
  rintro e w1 ⟨p, is, rfl, rfl, rfl, j, f1, f2, f3, f4⟩
  have HL1 : Hid (Lx w1 b s j 0 av) := f1
  have HT1 : Hid (Turn (fun g => g = b) W w1) := f2
  have HO1 : Hid (RPt w1 B (.slice ad X.length cap) X) := HO.out.turn f2 (fun _ e => by omega)
  have HU : Hid (u = s.data.toList.drop j) := f4
  have hz1' : B ≤ w1.heap.size := Nat.le_trans hBW f2.size
  clear f1 f2 f4 HD l0 l1 l2 lf HL HO
  obtain ⟨kd, ps, n, qd, sx⟩ := p0
  go_wp2_with (at_builtin; refine wpList_append_own_at _ rfl _ _ 43 rfl B 72 i0 _ 5 48 Tryd.underlying43 hif hz0 hz1 hz2 rfl (by decide) _ _ _ rfl (World.ownsRow.alloc (World.ownsRow.alloc HO1.out _) _) ⟨w1.heap.size + 1, 0, none⟩ 1 1 (ptC (⟨kd, ps, n, false, sx⟩ : Pt)) rfl rfl (cells_new2 _ _ _ _) (by simp [Value.oneCell']) (by have := maxLen_big; omega) (by omega) (by simp; omega) ?_; intro v6 w6 hown hgrow _ _)
  have HB6 : Hid (Below B w1 w6) := grown_own (by simp; omega) (((Below.refl B w1).alloc hz1' _).alloc (by simp; omega) _) (World.ownsRow.alloc (World.ownsRow.alloc HO1.out _) _) hgrow
  have HO6 : Hid (RPt w6 B v6 (X ++ [⟨kd, ps, n, false, sx⟩])) := by
    unfold Hid RPt
    rw [ptCs_append, ptCs_one, List.length_append]
    exact hown
  clear hown hgrow
  go_wp2_with fail
  go_ret
  exact ⟨v6, rfl, HT1.out.both HB6.out, HO6.out, j, HL1.out.below HB6.out hbB, f3, HU.out⟩
set_option maxRecDepth 100000 in
set_option maxHeartbeats 4000000 in
theorem part_dollarBad {W : World} {b B : Nat} {s : ByteArray} {i : Nat} {av v : Value} {X : List Pt} (h : Lx W b s i 0 av) (hO : RPt W B v X) (hbB : b < B) (hBW : B ≤ W.heap.size) (hs : s.size ≤ 8192) (hX : X.length < 100000) (hi : i < s.size) (hc : s[i] = 36) (x : Er) (hd : dolB (s.data.toList.drop i) = true) (hr : dollar s.size (s.data.toList.drop i) = .error x) :
    Calls Tryd.prog 26 #[.pointer (some ⟨b, 0, none⟩), v] W fun e w' => ∃ v', e = .returned v' ∧ PrtR W b B s av (.error x) v' w' := by
  obtain ⟨i0, hif, hz0, hz1, hz2⟩ := info_parts infoR
  obtain ⟨ad, cap, rfl⟩ := hO.form
  have l0 : W.cell? ⟨b, 0, none⟩ = some (.string s) := h.cell 0
  have l1 : W.cell? ⟨b, 1, none⟩ = some (.int .i64 (i : Nat)) := h.cell 1
  have l2 : W.cell? ⟨b, 2, none⟩ = some (.int .i64 0) := h.cell 2
  have lf := h.frozen 1
  have HL : Hid (Lx W b s i 0 av) := h
  have HO : Hid (RPt W B (.slice ad X.length cap) X) := hO
  have hi' : (i : Int) < (s.size : Int) := by omega
  clear h hO
  have q92 : (((s[i]).toNat : Int) == 92) = false := by rw [hc]; rfl
  have q39 : (((s[i]).toNat : Int) == 39) = false := by rw [hc]; rfl
  have q34 : (((s[i]).toNat : Int) == 34) = false := by rw [hc]; rfl
  have q36 : (((s[i]).toNat : Int) == 36) = true := by rw [hc]; rfl
  have HD : Hid _ := dolR_any HL.out false (by omega) hi hc
  have hlb : b < W.heap.size := by omega
  rw [hd, hr] at HD
  have hcx : (codE x.code == 0) = false := by unfold codE; split <;> rfl
  have hcx2 : ¬ codE x.code = 0 := by simpa using hcx
  clear hc hd hr
  go_enter Tryd.func26, Tryd.ntmps26
  go_wp2_with fail
  refine Calls.mono HD.out ?_
  rintro e w1 ⟨⟨kd, ps, n, qd, sx⟩, is, rfl, rfl, j, fb, f1, f2, f3, f4⟩
  have m2 : w1.cell? ⟨b, 2, none⟩ = some (.int .i64 (codE x.code)) := f1.cell 2
  have hbw : b < w1.heap.size := f1.lt
  have HF1 : Hid (Lx w1 b s j (codE x.code) (.slice (some ⟨fb, 0, none⟩) 1 1)) := f1
  have HF2 : Hid (Cel w1 fb 3 #[.int .i64 (x.pos : Nat)]) := f2
  have HT1 : Hid (Turn (fun g => g = b) W w1) := f4
  have HO1 : Hid (RPt w1 B (.slice ad X.length cap) X) := HO.out.turn f4 (fun _ e => by omega)
  have hz1' : B ≤ w1.heap.size := Nat.le_trans hBW f4.size
  have hfB : B ≤ fb := Nat.le_trans hBW f3
  clear f1 f2 f4 HD l0 l1 l2 lf HL HO
  obtain ⟨cx, HCX⟩ : ∃ cx, Hid (codE x.code = cx) := ⟨_, rfl⟩
  rw [HCX.out] at HF1 m2 hcx hcx2
  go_wp2_with (at_builtin; refine wpList_append_own_at _ rfl _ _ 43 rfl B 72 i0 _ 5 48 Tryd.underlying43 hif hz0 hz1 hz2 rfl (by decide) _ _ _ rfl (World.ownsRow.alloc (World.ownsRow.alloc HO1.out _) _) ⟨w1.heap.size + 1, 0, none⟩ 1 1 (ptC (⟨kd, ps, n, qd, sx⟩ : Pt)) rfl rfl (cells_new2 _ _ _ _) (by simp [Value.oneCell']) (by have := maxLen_big; omega) (by omega) (by simp; omega) ?_; intro v6 w6 hown hgrow _ _)
  have HB6 : Hid (Below B w1 w6) := grown_own (by simp; omega) (((Below.refl B w1).alloc hz1' _).alloc (by simp; omega) _) (World.ownsRow.alloc (World.ownsRow.alloc HO1.out _) _) hgrow
  have HO6 : Hid (RPt w6 B v6 (X ++ [⟨kd, ps, n, qd, sx⟩])) := by
    unfold Hid RPt
    rw [ptCs_append, ptCs_one, List.length_append]
    exact hown
  have HC6 : Hid (Cel w6 fb 3 #[.int .i64 (x.pos : Nat)]) := kept2 HF2.out HO1.out hgrow (by decide)
  clear hown hgrow
  go_wp2_with fail
  go_ret
  exact ⟨v6, rfl, HT1.out.both HB6.out, (by obtain ⟨a6, c6, h6⟩ := HO6.out.form; exact ⟨a6, _, c6, h6⟩), j, fb, by rw [HCX.out]; exact HF1.out.below HB6.out hbB, HC6.out⟩
set_option maxRecDepth 100000 in
set_option maxHeartbeats 4000000 in
theorem part_byte {W : World} {b B : Nat} {s : ByteArray} {i : Nat} {av v : Value} {X : List Pt} (h : Lx W b s i 0 av) (hO : RPt W B v X) (hbB : b < B) (hBW : B ≤ W.heap.size) (hs : s.size ≤ 8192) (hX : X.length < 100000) (hi : i < s.size) (hXs : ∀ p ∈ X, p.s.length ≤ 100000) (n92 : s[i] ≠ 92) (n39 : s[i] ≠ 39) (n34 : s[i] ≠ 34) (n36 : s[i] ≠ 36) :
    Calls Tryd.prog 26 #[.pointer (some ⟨b, 0, none⟩), v] W fun e w' => ∃ v', e = .returned v' ∧ PrtR W b B s av (.ok (textP X 1 i [s[i]], s.data.toList.drop (i + 1))) v' w' := by
  obtain ⟨i0, hif, hz0, hz1, hz2⟩ := info_parts infoR
  obtain ⟨ad, cap, rfl⟩ := hO.form
  have l0 : W.cell? ⟨b, 0, none⟩ = some (.string s) := h.cell 0
  have l1 : W.cell? ⟨b, 1, none⟩ = some (.int .i64 (i : Nat)) := h.cell 1
  have l2 : W.cell? ⟨b, 2, none⟩ = some (.int .i64 0) := h.cell 2
  have lf := h.frozen 1
  have HL : Hid (Lx W b s i 0 av) := h
  have HO : Hid (RPt W B (.slice ad X.length cap) X) := hO
  have hi' : (i : Int) < (s.size : Int) := by omega
  clear h hO
  have q92 : (((s[i]).toNat : Int) == 92) = false := byte_ne s[i] 92 n92
  have q39 : (((s[i]).toNat : Int) == 39) = false := byte_ne s[i] 39 n39
  have q34 : (((s[i]).toNat : Int) == 34) = false := byte_ne s[i] 34 n34
  have q36 : (((s[i]).toNat : Int) == 36) = false := byte_ne s[i] 36 n36
  clear n92 n39 n34 n36
  have HO0 : Hid (RPt W B (.slice ad X.length cap) X) := HO.out
  go_enter Tryd.func26, Tryd.ntmps26
  go_upto_region 54 with fail
  obtain ⟨W1, hW1⟩ : ∃ W1, W1 = W.setCell ⟨b, 1, none⟩ (.int .i64 ((i : Int) + 1)) := ⟨_, rfl⟩
  have HL1 : Hid (Lx W1 b s (i + 1) 0 av) := by rw [hW1]; exact HL.out.move (by simp)
  have HT1 : Hid (Turn (fun g => g = b) W W1) := by rw [hW1]; exact Turn.move W _
  have HO1 : Hid (RPt W1 B (.slice ad X.length cap) X) := HO0.out.turn HT1.out (fun _ e => by omega)
  have hz1' : B ≤ W1.heap.size := Nat.le_trans hBW HT1.out.size
  have hes : (s.extract i (i + 1)).size ≤ 100000 := by rw [ByteArray.size_extract]; omega
  have HTX : Hid _ := text_any HO1.out hz1' 1 i (s.extract i (i + 1)) hX hXs hes
  rw [← hW1]
  have m0 : W1.cell? ⟨b, 0, none⟩ = some (.string s) := HL1.out.cell 0
  clear hW1 hes HL HO hXs
  go_wp2_with fail
  refine Calls.mono HTX.out ?_
  rintro e w2 ⟨v', rfl, hR, hb2⟩
  have HR2 : Hid (RPt w2 B v' (textP X 1 i [s[i]])) := by
    rw [one_eq s i hi] at hR
    exact hR
  have HB2 : Hid (Below B W1 w2) := hb2
  clear hR hb2 HTX
  go_wp2_with fail
  go_ret
  exact ⟨v', rfl, HT1.out.both HB2.out, HR2.out, i + 1, HL1.out.below HB2.out hbB, by omega, rfl⟩
set_option maxRecDepth 100000 in
set_option maxHeartbeats 4000000 in
theorem part_byte36 {W : World} {b B : Nat} {s : ByteArray} {i : Nat} {av v : Value} {X : List Pt} (h : Lx W b s i 0 av) (hO : RPt W B v X) (hbB : b < B) (hBW : B ≤ W.heap.size) (hs : s.size ≤ 8192) (hX : X.length < 100000) (hi : i < s.size) (hXs : ∀ p ∈ X, p.s.length ≤ 100000) (hc : s[i] = 36) (hd : dolB (s.data.toList.drop i) = false) :
    Calls Tryd.prog 26 #[.pointer (some ⟨b, 0, none⟩), v] W fun e w' => ∃ v', e = .returned v' ∧ PrtR W b B s av (.ok (textP X 1 i [s[i]], s.data.toList.drop (i + 1))) v' w' := by
  obtain ⟨i0, hif, hz0, hz1, hz2⟩ := info_parts infoR
  obtain ⟨ad, cap, rfl⟩ := hO.form
  have l0 : W.cell? ⟨b, 0, none⟩ = some (.string s) := h.cell 0
  have l1 : W.cell? ⟨b, 1, none⟩ = some (.int .i64 (i : Nat)) := h.cell 1
  have l2 : W.cell? ⟨b, 2, none⟩ = some (.int .i64 0) := h.cell 2
  have lf := h.frozen 1
  have HL : Hid (Lx W b s i 0 av) := h
  have HO : Hid (RPt W B (.slice ad X.length cap) X) := hO
  have hi' : (i : Int) < (s.size : Int) := by omega
  clear h hO
  have q92 : (((s[i]).toNat : Int) == 92) = false := by rw [hc]; rfl
  have q39 : (((s[i]).toNat : Int) == 39) = false := by rw [hc]; rfl
  have q34 : (((s[i]).toNat : Int) == 34) = false := by rw [hc]; rfl
  have q36 : (((s[i]).toNat : Int) == 36) = true := by rw [hc]; rfl
  have HD : Hid _ := dolR_any HL.out false (by omega) hi hc
  rw [hd] at HD
  have HO0 : Hid (RPt W B (.slice ad X.length cap) X) := HO.out
  clear hc hd HL
  go_enter Tryd.func26, Tryd.ntmps26
  go_wp2_with fail
  refine Calls.mono HD.out ?_
  rintro e w1 ⟨⟨kd, ps, n, qd, sx⟩, is, rfl, rfl, f1, f2⟩
  obtain ⟨W0, hW0⟩ : ∃ W0, W0 = w1.alloc (.cells (ptC ⟨kd, ps, n, qd, sx⟩).toArray 72) := ⟨_, rfl⟩
  have hl0 : Lx W0 b s i 0 av := by rw [hW0]; exact f1.below (below_new _ _) f1.lt
  have HT0 : Hid (Turn (fun g => g = b) W W0) := by rw [hW0]; exact f2.trans (Turn.ofBelow (S := fun g => g = b) (below_new w1 _)) (fun _ e _ => e)
  have HL : Hid (Lx W0 b s i 0 av) := hl0
  have HW0 : Hid (w1.alloc (.cells (ptC ⟨kd, ps, n, qd, sx⟩).toArray 72) = W0) := hW0.symm
  have HF1 : Hid (Lx w1 b s i 0 av) := f1
  clear f1 f2 HD l0 l1 l2 lf hl0 hW0
  go_upto_region 51 with fail
  rw [HW0.out]
  have l0 : W0.cell? ⟨b, 0, none⟩ = some (.string s) := HL.out.cell 0
  have l1 : W0.cell? ⟨b, 1, none⟩ = some (.int .i64 (i : Nat)) := HL.out.cell 1
  have l2 : W0.cell? ⟨b, 2, none⟩ = some (.int .i64 0) := HL.out.cell 2
  have lf := HL.out.frozen 1
  clear HW0 HF1
  go_upto_region 54 with fail
  obtain ⟨W1, hW1⟩ : ∃ W1, W1 = W0.setCell ⟨b, 1, none⟩ (.int .i64 ((i : Int) + 1)) := ⟨_, rfl⟩
  have HL1 : Hid (Lx W1 b s (i + 1) 0 av) := by rw [hW1]; exact HL.out.move (by simp)
  have HT1 : Hid (Turn (fun g => g = b) W W1) := by rw [hW1]; exact HT0.out.trans (Turn.move W0 _) (fun _ e _ => e)
  have HO1 : Hid (RPt W1 B (.slice ad X.length cap) X) := HO0.out.turn HT1.out (fun _ e => by omega)
  have hz1' : B ≤ W1.heap.size := Nat.le_trans hBW HT1.out.size
  have hes : (s.extract i (i + 1)).size ≤ 100000 := by rw [ByteArray.size_extract]; omega
  have HTX : Hid _ := text_any HO1.out hz1' 1 i (s.extract i (i + 1)) hX hXs hes
  rw [← hW1]
  have m0 : W1.cell? ⟨b, 0, none⟩ = some (.string s) := HL1.out.cell 0
  clear hW1 hes HL HO hXs
  go_wp2_with fail
  refine Calls.mono HTX.out ?_
  rintro e w2 ⟨v', rfl, hR, hb2⟩
  have HR2 : Hid (RPt w2 B v' (textP X 1 i [s[i]])) := by
    rw [one_eq s i hi] at hR
    exact hR
  have HB2 : Hid (Below B W1 w2) := hb2
  clear hR hb2 HTX
  go_wp2_with fail
  go_ret
  exact ⟨v', rfl, HT1.out.both HB2.out, HR2.out, i + 1, HL1.out.below HB2.out hbB, by omega, rfl⟩
end Go.Proofs.YtlbdecohmjpgaaaDoor
