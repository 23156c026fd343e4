/- A plain part. -/
import Derived.Test.YtlihkblllakhmaaGreatDoorRd8
import Derived.Test.YtlihkblllakhmaaGreatDoorBldA
namespace Go.Proofs.YtlihkblllakhmaaGreatDoor
open Go.RowKit
attribute [local go_sem] Oper.semAt_some

theorem Bld.turn {X Y : World} {B bb b : Nat} {l : List UInt8} (h : Bld X B bb l) (hT : Turn (fun i => i = b) X Y) (hb : b < B) : Bld Y B bb l := by
  obtain ⟨hB, p, v, hp, hc, ho⟩ := h
  refine ⟨hB, p, v, hp, hc.turn hT (by omega), owns_turn ho hT fun g hg => ?_⟩
  rcases ho.2 with ⟨rfl, _⟩ | ⟨g', cap, cur, rfl, hb', _⟩
  · simp [Value.ownBlock] at hg
  · obtain rfl : g' = g := by simpa [Value.ownBlock] using hg
    omega
theorem Stp.under {W w w' : World} {b sb k : Nat} {s : ByteArray} (h : Stp W b sb s k w) (hb : b < W.heap.size) (hsb : sb < W.heap.size) (hB : Below W.heap.size w w') : Stp W b sb s k w' :=
  ⟨⟨h.at_.rd.below hB hb, h.at_.src.below hB hsb⟩, ⟨hB.os.trans h.turn.os, hB.tape.trans h.turn.tape, hB.output.trans h.turn.output, Nat.le_trans h.turn.size hB.size, fun i hi hne => (hB.block i hi).trans (h.turn.block i hi hne)⟩⟩
theorem pByte_len (l : List UInt8) (h : l ≠ []) : 1 ≤ (pByte l).2 ∧ (pByte l).2 ≤ l.length := by
  cases l with
  | nil => exact absurd rfl h
  | cons c t =>
    by_cases hc : c = 92
    · subst hc
      cases t with
      | nil => exact ⟨Nat.le_refl _, Nat.le_refl _⟩
      | cons d t => rw [pByte_two]; simp
    · rw [pByte_one t hc]; simp
theorem plain_stop (e : List UInt8) (f : Nat) (l : List UInt8) (h : stopP e l = true) : plainL e f l = ([], l) := by
  cases f with
  | zero => rfl
  | succ f => rw [plainL, if_pos h]
theorem plain_more (e : List UInt8) (f : Nat) (l : List UInt8) (h : stopP e l = false) : plainL e (f + 1) l = ((pByte l).1 :: (plainL e f (l.drop (pByte l).2)).1, (plainL e f (l.drop (pByte l).2)).2) := by rw [plainL, if_neg (by rw [h]; simp)]
theorem plain_le (e : List UInt8) : ∀ (f : Nat) (l : List UInt8), (plainL e f l).1.length + (plainL e f l).2.length ≤ l.length
  | 0, l => by simp [plainL]
  | f + 1, l => by
    cases h : stopP e l with
    | true => rw [plain_stop e _ l h]; simp
    | false =>
      have hne : l ≠ [] := fun e' => by rw [e'] at h; cases h
      have h1 := pByte_len l hne
      have := plain_le e f (l.drop (pByte l).2)
      rw [List.length_drop] at this
      rw [plain_more e f l h]
      simp only [List.length_cons]
      omega
theorem plain_lt (e : List UInt8) (f : Nat) (l : List UInt8) (h : stopP e l = false) : (plainL e (f + 1) l).2.length < l.length := by
  have hne : l ≠ [] := fun e' => by rw [e'] at h; cases h
  have h1 := pByte_len l hne
  have := plain_le e f (l.drop (pByte l).2)
  rw [List.length_drop] at this
  rw [plain_more e f l h]
  simp only
  omega
theorem stopP_at (e : List UInt8) (s : ByteArray) (p : Nat) : stopP e (s.data.toList.drop p) = (endQ e s.data.toList[p]? || (s.data.toList[p]? == some 91) || dolB (s.data.toList.drop p)) := by
  by_cases h : p < s.size
  · rw [text_at s p h, drop_cons s p h]
    rfl
  · rw [at_none s p h, drop_none s p h]
    rfl
set_option maxRecDepth 100000 in
set_option maxHeartbeats 4000000 in
theorem plain_any {W : World} {b sb k f : Nat} {s : ByteArray} (e : List UInt8) (h : Rd W b sb s k) (hs : s.size < 1099511627776) (hk : k ≤ s.size) (hf : s.size - k ≤ f) :
    Calls Tryz.prog 92 #[.pointer (some ⟨b, 0, none⟩), .string ⟨e.toArray⟩] W fun e' w' => e' = .returned (.agg (ptC ⟨1, k, 0, (plainL e f (s.data.toList.drop k)).1⟩).toArray) ∧ ∃ j, Stp W b sb s j w' ∧ k ≤ j ∧ j ≤ s.size ∧ (plainL e f (s.data.toList.drop k)).2 = s.data.toList.drop j := by
  have hlb := h.rd.lt
  have hlsb := h.src.lt
  have cW := h.c1
  obtain ⟨W0, hW0⟩ : ∃ W0, W0 = (W.alloc (.cells zC 59)).alloc (.cells #[.pointer none, .slice none 0 0] 185) := ⟨_, rfl⟩
  have HS0 : Hid (Stp W b sb s k W0) := by rw [hW0]; exact ((Stp.refl h).alloc _).alloc _
  have HQ0 : Hid (Cel W0 W.heap.size 59 zC) := by rw [hW0]; exact (Cel.new W _ _).below (below_new _ _) (by simp)
  have HB0 : Hid (Bld W0 (W.heap.size + 1) (W.heap.size + 1) []) := by
    rw [hW0]
    exact ⟨Nat.le_refl _, _, _, .inl rfl, Cel.new2 W _ _ _, World.ownsRow_nil _ _ _ _⟩
  have HW0 : Hid ((W.alloc (.cells zC 59)).alloc (.cells #[.pointer none, .slice none 0 0] 185) = W0) := hW0.symm
  have hnb : ¬ W.heap.size = b := by omega
  obtain ⟨R, HR⟩ : ∃ R, Hid (plainL e f (s.data.toList.drop k) = R) := ⟨_, rfl⟩
  rw [HR.out]
  clear h hW0
  go_enter Tryz.func92, Tryz.ntmps92
  go_wp2_with fail
  rw [HW0.out]
  go_loopw [] (fun wr => ∃ (p g : Nat) (acc : List UInt8), k ≤ p ∧ p ≤ s.size ∧ s.size - p ≤ g ∧ acc.length ≤ p ∧ Hid (R = (acc ++ (plainL e g (s.data.toList.drop p)).1, (plainL e g (s.data.toList.drop p)).2)) ∧ Hid (Stp W b sb s p wr) ∧ Hid (Cel wr W.heap.size 59 zC) ∧ Hid (Bld wr (W.heap.size + 1) (W.heap.size + 1) acc)) (fun wr => s.size + 2 - posOf wr b)
  case atStart => exact ⟨k, f, [], Nat.le_refl _, hk, hf, by simp, by unfold Hid; rw [← HR.out]; rfl, HS0.out, HQ0.out, HB0.out⟩
  case round =>
    obtain ⟨p, g, acc, hkp, hp, hg, hacc, HE, HS, HQ, HB⟩ := hrel
    clear HS0 HB0 HQ0 HW0 HR
    have HPO : Hid (posOf wr b = p) := HS.out.at_.pos
    have c0 := HS.out.at_.c0
    have c1 := HS.out.at_.c1
    have HEA : Hid (∀ m, Calls Tryz.prog 36 #[.pointer (some ⟨b, 0, none⟩), .string ⟨e.toArray⟩] (wr.drewN m) fun e' w' => e' = .returned (.bool (endQ e s.data.toList[p]?)) ∧ ∃ n, w' = (wr.drewN m).drewN n) := fun m => endsAt_any (HS.out.drewN m).at_ e
    have HH : Hid (∀ m, Calls Tryz.prog 47 #[.pointer (some ⟨sb, 0, none⟩), .int .i64 (p : Nat), .string ⟨#[91]⟩] (wr.drewN m) fun e w' => e = .returned (.bool (s.data.toList[p]? == some 91)) ∧ w' = wr.drewN m) := fun m => hasb_any sb s 91 p (wr.drewN m) HS.out.at_.t0
    have HDO : Hid (∀ m, Calls Tryz.prog 90 #[.pointer (some ⟨b, 0, none⟩)] (wr.drewN m) fun e w' => e = .returned (.bool (dolB (s.data.toList.drop p))) ∧ ∃ n, w' = (wr.drewN m).drewN n) := fun m => dollarHere_any (HS.out.drewN m).at_ hs (by omega)
    have HST : Hid (∀ w, Stp W b sb s p w → Cel w W.heap.size 59 zC → Bld w (W.heap.size + 1) (W.heap.size + 1) acc → Calls Tryz.prog 107 #[.pointer (some ⟨W.heap.size + 1, 0, none⟩)] w fun e w' => e = .returned (str acc) ∧ Stp W b sb s p w' ∧ Cel w' W.heap.size 59 zC) := fun w h1 h2 h3 => by
      have hz : W.heap.size + 1 ≤ w.heap.size := by
        obtain ⟨_, _, _, _, hc, _⟩ := h3
        have := hc.lt
        omega
      refine (string_bld (W.heap.size + 1) (W.heap.size + 1) acc w h3 hz).mono ?_
      rintro e w' ⟨rfl, hb, _⟩
      exact ⟨rfl, h1.under hlb hlsb (hb.mono (by omega)), h2.below hb (by omega)⟩
    have HSP : Hid _ := stopP_at e s p
    cases hst : stopP e (s.data.toList.drop p) with
    | true =>
      have HEQ : Hid (R = (acc, s.data.toList.drop p)) := by unfold Hid; rw [HE.out, plain_stop e g _ hst, List.append_nil]
      have hsp := HSP.out
      rw [hst] at hsp
      clear HE HSP hst
      cases hq : endQ e s.data.toList[p]? with
      | true =>
        rw [hq] at HEA
        clear hsp hq
        go_wp2_with fail
        go_quiet (first | (go_at_call 36; exact Calls.quiet_of (HEA.out _)) | (go_at_call 47; exact Calls.quiet_of_same (HH.out _)) | (go_at_call 90; exact Calls.quiet_of (HDO.out _)))
        obtain ⟨W1, hW1⟩ : ∃ W1, W1 = wr.drewN nq := ⟨_, rfl⟩
        have HS1 : Hid (Stp W b sb s p W1) := by rw [hW1]; exact HS.out.drewN nq
        have HQ1 : Hid (Cel W1 W.heap.size 59 zC) := by rw [hW1]; exact HQ.out
        have HB1 : Hid (Bld W1 (W.heap.size + 1) (W.heap.size + 1) acc) := by rw [hW1]; exact HB.out
        rw [← hW1]
        clear hW1 c0 c1 HEA HH HDO HS HQ HB
        go_wp2_with fail
        refine Calls.mono (HST.out _ HS1.out HQ1.out HB1.out) ?_
        rintro e' w2 ⟨rfl, hS2, hQ2⟩
        have HS2 : Hid (Stp W b sb s p w2) := hS2
        have HQ2 : Hid (Cel w2 W.heap.size 59 zC) := hQ2
        clear hS2 hQ2 HS1 HQ1 HB1 HST
        have z0 : w2.cell? ⟨W.heap.size, 0, none⟩ = some (.int .i64 0) := HQ2.out.cell 0
        have z1 : w2.cell? ⟨W.heap.size, 1, none⟩ = some (.int .i64 0) := HQ2.out.cell 1
        have z2 : w2.cell? ⟨W.heap.size, 2, none⟩ = some (.int .i64 0) := HQ2.out.cell 2
        have z3 : w2.cell? ⟨W.heap.size, 3, none⟩ = some (.string ⟨#[]⟩) := HQ2.out.cell 3
        have zf0 := HQ2.out.frozen 0
        have zf1 := HQ2.out.frozen 1
        have zf2 := HQ2.out.frozen 2
        have zf3 := HQ2.out.frozen 3
        go_wp2_with fail
        refine bodyPost_ret (results_one (p := 4) rfl _ _ W.heap.size _ rfl (HQ2.out.put4 _ _ _ _) rfl) rfl ?_
        rw [HEQ.out]
        exact ⟨rfl, p, HS2.out.put4 hlb hlsb (Nat.le_refl _) _ _ _ _, hkp, hp, rfl⟩
      | false =>
        rw [hq] at HEA
        rw [hq, Bool.false_or] at hsp
        clear hq
        cases hh : (s.data.toList[p]? == some 91) with
        | true =>
          rw [hh] at HH
          clear hsp hh
          go_wp2_with fail
          go_quiet (first | (go_at_call 36; exact Calls.quiet_of (HEA.out _)) | (go_at_call 47; exact Calls.quiet_of_same (HH.out _)) | (go_at_call 90; exact Calls.quiet_of (HDO.out _)))
          obtain ⟨W1, hW1⟩ : ∃ W1, W1 = wr.drewN nq := ⟨_, rfl⟩
          have HS1 : Hid (Stp W b sb s p W1) := by rw [hW1]; exact HS.out.drewN nq
          have HQ1 : Hid (Cel W1 W.heap.size 59 zC) := by rw [hW1]; exact HQ.out
          have HB1 : Hid (Bld W1 (W.heap.size + 1) (W.heap.size + 1) acc) := by rw [hW1]; exact HB.out
          rw [← hW1]
          clear hW1 c0 c1 HEA HH HDO HS HQ HB
          go_wp2_with fail
          refine Calls.mono (HST.out _ HS1.out HQ1.out HB1.out) ?_
          rintro e' w2 ⟨rfl, hS2, hQ2⟩
          have HS2 : Hid (Stp W b sb s p w2) := hS2
          have HQ2 : Hid (Cel w2 W.heap.size 59 zC) := hQ2
          clear hS2 hQ2 HS1 HQ1 HB1 HST
          have z0 : w2.cell? ⟨W.heap.size, 0, none⟩ = some (.int .i64 0) := HQ2.out.cell 0
          have z1 : w2.cell? ⟨W.heap.size, 1, none⟩ = some (.int .i64 0) := HQ2.out.cell 1
          have z2 : w2.cell? ⟨W.heap.size, 2, none⟩ = some (.int .i64 0) := HQ2.out.cell 2
          have z3 : w2.cell? ⟨W.heap.size, 3, none⟩ = some (.string ⟨#[]⟩) := HQ2.out.cell 3
          have zf0 := HQ2.out.frozen 0
          have zf1 := HQ2.out.frozen 1
          have zf2 := HQ2.out.frozen 2
          have zf3 := HQ2.out.frozen 3
          go_wp2_with fail
          refine bodyPost_ret (results_one (p := 4) rfl _ _ W.heap.size _ rfl (HQ2.out.put4 _ _ _ _) rfl) rfl ?_
          rw [HEQ.out]
          exact ⟨rfl, p, HS2.out.put4 hlb hlsb (Nat.le_refl _) _ _ _ _, hkp, hp, rfl⟩
        | false =>
          rw [hh] at HH
          rw [hh, Bool.false_or] at hsp
          rw [← hsp] at HDO
          clear hsp hh
          go_wp2_with fail
          go_quiet (first | (go_at_call 36; exact Calls.quiet_of (HEA.out _)) | (go_at_call 47; exact Calls.quiet_of_same (HH.out _)) | (go_at_call 90; exact Calls.quiet_of (HDO.out _)))
          obtain ⟨W1, hW1⟩ : ∃ W1, W1 = wr.drewN nq := ⟨_, rfl⟩
          have HS1 : Hid (Stp W b sb s p W1) := by rw [hW1]; exact HS.out.drewN nq
          have HQ1 : Hid (Cel W1 W.heap.size 59 zC) := by rw [hW1]; exact HQ.out
          have HB1 : Hid (Bld W1 (W.heap.size + 1) (W.heap.size + 1) acc) := by rw [hW1]; exact HB.out
          rw [← hW1]
          clear hW1 c0 c1 HEA HH HDO HS HQ HB
          go_wp2_with fail
          refine Calls.mono (HST.out _ HS1.out HQ1.out HB1.out) ?_
          rintro e' w2 ⟨rfl, hS2, hQ2⟩
          have HS2 : Hid (Stp W b sb s p w2) := hS2
          have HQ2 : Hid (Cel w2 W.heap.size 59 zC) := hQ2
          clear hS2 hQ2 HS1 HQ1 HB1 HST
          have z0 : w2.cell? ⟨W.heap.size, 0, none⟩ = some (.int .i64 0) := HQ2.out.cell 0
          have z1 : w2.cell? ⟨W.heap.size, 1, none⟩ = some (.int .i64 0) := HQ2.out.cell 1
          have z2 : w2.cell? ⟨W.heap.size, 2, none⟩ = some (.int .i64 0) := HQ2.out.cell 2
          have z3 : w2.cell? ⟨W.heap.size, 3, none⟩ = some (.string ⟨#[]⟩) := HQ2.out.cell 3
          have zf0 := HQ2.out.frozen 0
          have zf1 := HQ2.out.frozen 1
          have zf2 := HQ2.out.frozen 2
          have zf3 := HQ2.out.frozen 3
          go_wp2_with fail
          refine bodyPost_ret (results_one (p := 4) rfl _ _ W.heap.size _ rfl (HQ2.out.put4 _ _ _ _) rfl) rfl ?_
          rw [HEQ.out]
          exact ⟨rfl, p, HS2.out.put4 hlb hlsb (Nat.le_refl _) _ _ _ _, hkp, hp, rfl⟩
    | false =>
      have hsp := HSP.out
      rw [hst] at hsp
      have h3 : endQ e s.data.toList[p]? = false ∧ (s.data.toList[p]? == some 91) = false ∧ dolB (s.data.toList.drop p) = false := by
        have h9 := hsp.symm
        rw [Bool.or_eq_false_iff, Bool.or_eq_false_iff] at h9
        exact ⟨h9.1.1, h9.1.2, h9.2⟩
      have hlt : p < s.size := by
        by_cases h : p < s.size
        · exact h
        · rw [drop_none s p h] at hst
          cases hst
      obtain ⟨g', rfl⟩ : ∃ g', g = g' + 1 := ⟨g - 1, by omega⟩
      have hne : s.data.toList.drop p ≠ [] := by rw [drop_cons s p hlt]; simp
      have hln := pByte_len _ hne
      rw [len_drop] at hln
      have HEQ : Hid (R = ((acc ++ [(pByte (s.data.toList.drop p)).1]) ++ (plainL e g' (s.data.toList.drop (p + (pByte (s.data.toList.drop p)).2))).1, (plainL e g' (s.data.toList.drop (p + (pByte (s.data.toList.drop p)).2))).2)) := by
        unfold Hid
        rw [HE.out, ← List.drop_drop, plain_more e g' _ hst]
        simp
      have HPB : Hid (∀ w, Stp W b sb s p w → Calls Tryz.prog 106 #[.pointer (some ⟨b, 0, none⟩)] w fun e w' => e = .returned (.int .u8 ((pByte (s.data.toList.drop p)).1.toNat : Nat)) ∧ Stp w b sb s (p + (pByte (s.data.toList.drop p)).2) w') := fun w hw => plainByte_any hw.at_ hs hlt
      rw [h3.1] at HEA
      rw [h3.2.1] at HH
      rw [h3.2.2] at HDO
      generalize (pByte (s.data.toList.drop p)).1 = ch at *
      generalize (pByte (s.data.toList.drop p)).2 = dn at *
      clear HE HSP hst hsp h3 hne HST
      go_wp2_with fail
      go_quiet (first | (go_at_call 36; exact Calls.quiet_of (HEA.out _)) | (go_at_call 47; exact Calls.quiet_of_same (HH.out _)) | (go_at_call 90; exact Calls.quiet_of (HDO.out _)))
      obtain ⟨W1, hW1⟩ : ∃ W1, W1 = wr.drewN nq := ⟨_, rfl⟩
      have HS1 : Hid (Stp W b sb s p W1) := by rw [hW1]; exact HS.out.drewN nq
      have HQ1 : Hid (Cel W1 W.heap.size 59 zC) := by rw [hW1]; exact HQ.out
      have HB1 : Hid (Bld W1 (W.heap.size + 1) (W.heap.size + 1) acc) := by rw [hW1]; exact HB.out
      rw [← hW1]
      clear hW1 c0 c1 HEA HH HDO HS HQ HB
      go_wp2_with fail
      refine Calls.mono (HPB.out _ HS1.out) ?_
      rintro e' w2 ⟨rfl, hS2⟩
      have HS2 : Hid (Stp W b sb s (p + dn) w2) := HS1.out.trans hS2
      have HQ2 : Hid (Cel w2 W.heap.size 59 zC) := HQ1.out.turn hS2.turn (by omega)
      have HB2 : Hid (Bld w2 (W.heap.size + 1) (W.heap.size + 1) acc) := HB1.out.turn hS2.turn (by omega)
      have hz2 : W.heap.size + 1 ≤ w2.heap.size := by
        obtain ⟨_, _, _, _, hc, _⟩ := HB2.out
        have := hc.lt
        omega
      clear hS2 HPB HS1 HQ1 HB1
      go_wp2_with fail
      refine (writeByte_bld (W.heap.size + 1) (W.heap.size + 1) acc ch w2 HB2.out (by omega) hz2).mono ?_
      rintro e' w3 ⟨rfl, hB3, hk3⟩
      have HS3 : Hid (Stp W b sb s (p + dn) w3) := HS2.out.under hlb hlsb (hk3.1.mono (by omega))
      have HQ3 : Hid (Cel w3 W.heap.size 59 zC) := HQ2.out.below hk3.1 (by omega)
      have HB3 : Hid (Bld w3 (W.heap.size + 1) (W.heap.size + 1) (acc ++ [ch])) := hB3
      clear hB3 hk3 HS2 HQ2 HB2
      go_wp2_with fail
      refine ⟨⟨p + dn, g', acc ++ [ch], by omega, by omega, by omega, by simp; omega, HEQ.out, HS3.out, HQ3.out, HB3.out⟩, ?_⟩
      rw [HS3.out.at_.pos, HPO.out]
      omega
end Go.Proofs.YtlihkblllakhmaaGreatDoor
