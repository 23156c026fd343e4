/- A source's tokens. -/
import Derived.Test.YtddekcohfbnmbaaDoorRd8
import Derived.Test.YtddekcohfbnmbaaDoorPureB
namespace Go.Proofs.YtddekcohfbnmbaaDoor
open Go.RowKit
attribute [local go_sem] Oper.semAt_some

def tbCs (K : List Tb) : List Value := K.flatMap tbC
theorem tbCs_append (X Y : List Tb) : tbCs (X ++ Y) = tbCs X ++ tbCs Y := by simp [tbCs]
theorem tbCs_one (q : Tb) : tbCs [q] = tbC q := by simp [tbCs]
theorem tbCs_length (X : List Tb) : (tbCs X).length = X.length * 5 := by
  induction X with
  | nil => rfl
  | cons x X ih =>
    rw [show tbCs (x :: X) = tbC x ++ tbCs X from rfl, List.length_append, ih, List.length_cons]
    simp only [List.length_cons, List.length_nil]
    omega
/-- Tokens, of one's own. -/
def TbOwn (W : World) (B : Nat) (v : Value) (K : List Tb) : Prop := W.ownsRow B 40 5 v K.length (tbCs K)
theorem TbOwn.nil (W : World) (B : Nat) : TbOwn W B (.slice none 0 0) [] := World.ownsRow_nil W B _ _
theorem TbOwn.turn {W W' : World} {B : Nat} {v : Value} {K : List Tb} {S : Nat → Prop} (h : TbOwn W B v K) (hT : Turn S W W') (hS : ∀ i, S i → i < B) : TbOwn W' B v K := by
  refine owns_turn h hT fun g hg hs => ?_
  have := (World.ownsRow.lt h g hg).1
  have := hS g hs
  omega
theorem TbOwn.below {W W' : World} {B : Nat} {v : Value} {K : List Tb} (h : TbOwn W B v K) (hb : Below W.heap.size W W') : TbOwn W' B v K := h.turn (Turn.ofBelow (S := fun _ => False) hb) (fun _ e => e.elim)
theorem TbOwn.form {W : World} {B : Nat} {v : Value} {K : List Tb} (h : TbOwn W B v K) : ∃ ad cap, v = .slice ad K.length cap := owns_slice h
theorem TbOwn.lower {W : World} {B B' : Nat} {v : Value} {K : List Tb} (h : TbOwn W B v K) (hB : B' ≤ B) : TbOwn W B' v K := owns_lower h hB
theorem Cel.kept {W W' : World} {row : Option Nat} {b : Nat} {t : TypeId} {cs : Array Value} (h : Cel W b t cs) (hg : W.grownBy W' row) (hne : some b ≠ row) : Cel W' b t cs := (hg.block b h.lt hne).trans h
theorem cells_new2 (w : World) (o : Obj) (cs : List Value) (t : TypeId) : ∀ j u, cs[j]? = some u → ((w.alloc o).alloc (.cells cs.toArray t)).cell? ((⟨w.heap.size + 1, 0, none⟩ : Addr).add j) = some u := by
  have := cells_new (w.alloc o) cs t
  rw [show (w.alloc o).heap.size = w.heap.size + 1 by simp] at this
  exact this
theorem Stp.under {W w w' : World} {b sb k : Nat} {s : ByteArray} (h : Stp W b sb s k w) (hb : b < W.heap.size) (hsb : sb < W.heap.size) (hB : Below W.heap.size w w') : Stp W b sb s k w' :=
  ⟨⟨h.at_.rd.below hB hb, h.at_.src.below hB hsb⟩, ⟨hB.os.trans h.turn.os, hB.tape.trans h.turn.tape, hB.output.trans h.turn.output, Nat.le_trans h.turn.size hB.size, fun i hi hne => (hB.block i hi).trans (h.turn.block i hi hne)⟩⟩
theorem Turn.above {B : Nat} {w w' : World} (h : Below B w w') : Turn (fun i => B ≤ i) w w' := ⟨h.os, h.tape, h.output, h.size, fun i _ hs => h.block i (by omega)⟩
theorem Env.under {w w' : World} {ea : Nat → Addr} {B : Nat} (h : Env w ea) (hb : Below B w w') (hB : (ea 64).block ≤ B) : Env w' ea := h.turn (Turn.above hb) (fun i e => by omega)
theorem infoT : (Tryd.prog.info? 40).map (fun i => (i.zero, i.size, i.bytes)) = some (some (.agg zT), 5, 48) := by kernel_rfl
theorem new_any (s : ByteArray) (w : World) (hs : s.size ≤ 8192) :
    Calls Tryd.prog 16 #[.string s] w fun e w' => e = .returned (.tuple #[.pointer (some ⟨w.heap.size, 0, none⟩), .nilIface]) ∧ w' = w.alloc (.cells #[.string s] 73) := by
  have hd : decide ((8192 : Int) < (s.size : Int)) = false := by simp; omega
  go_enter Tryd.func16, Tryd.ntmps16
  go_wp2_with fail
  go_ret2
  exact ⟨rfl, rfl⟩
theorem new_long (s : ByteArray) (w : World) (ea : Nat → Addr) (hE : Env w ea) (hs : 8192 < s.size) :
    Calls Tryd.prog 16 #[.string s] w fun e w' => e = .returned (.tuple #[.pointer none, errV (ea 0)]) ∧ ∃ m, w' = w.drewN m := by
  have hs' : (8192 : Int) < (s.size : Int) := by omega
  have g0 := hE.cell 0 (by omega) (by omega)
  clear hE
  go_enter Tryd.func16, Tryd.ntmps16
  go_wp2_with fail
  go_quiet (fail)
  go_wp2_with fail
  go_ret2
  exact ⟨rfl, _, rfl⟩
theorem lex_long (s : ByteArray) (W : World) (ea : Nat → Addr) (hE : Env W ea) (hs : 8192 < s.size) :
    Calls Tryd.prog 8 #[.string s] W fun e w' => e = .returned (.tuple #[.slice none 0 0, errV (ea 0)]) ∧ ∃ m, w' = W.drewN m := by
  have HN : Hid _ := new_long s W ea hE hs
  clear hE
  go_enter Tryd.func8, Tryd.ntmps8
  go_wp2_with fail
  refine Calls.mono HN.out ?_
  rintro e w1 ⟨rfl, m, hw⟩
  have HW : Hid (w1 = W.drewN m) := hw
  clear hw HN
  go_wp2_with fail
  go_ret2
  exact ⟨rfl, m, HW.out⟩
def preT (acc : List Tb) (R : Except Er (List Tb)) : Except Er (List Tb) := match R with
  | .error e => .error e
  | .ok l => .ok (acc ++ l)
theorem preT_pre (a b : List Tb) (R : Except Er (List Tb)) : preT a (preT b R) = preT (a ++ b) R := by
  cases R with
  | error e => rfl
  | ok q => simp [preT]
theorem lexW_err (T : List UInt8 → Except Er (Tb × List UInt8)) (f : Nat) (l : List UInt8) (e : Er) (h : T l = .error e) : lexW T (f + 1) l = .error e := by rw [lexW, h]
theorem lexW_end (T : List UInt8 → Except Er (Tb × List UInt8)) (f : Nat) (l : List UInt8) (t : Tb) (u : List UInt8) (h : T l = .ok (t, u)) (h0 : t.kind = 0) : lexW T (f + 1) l = .ok [t] := by
  rw [lexW, h]
  simp only
  rw [if_pos h0]
theorem lexW_more (T : List UInt8 → Except Er (Tb × List UInt8)) (f : Nat) (l : List UInt8) (t : Tb) (u : List UInt8) (h : T l = .ok (t, u)) (h0 : t.kind ≠ 0) : lexW T (f + 1) l = preT [t] (lexW T f u) := by
  rw [lexW, h]
  simp only
  rw [if_neg h0]
  cases lexW T f u <;> rfl
/-- What a source comes to. -/
def LexV (W : World) (ea : Nat → Addr) (R : Except Er (List Tb)) (v ev : Value) (w' : World) : Prop := match R with
  | .ok l => ev = .nilIface ∧ TbOwn w' W.heap.size v l
  | .error x => v = .slice none 0 0 ∧ AtEr w' ea ev x
set_option maxRecDepth 100000 in
set_option maxHeartbeats 8000000 in
theorem lex_any (s : ByteArray) (W : World) (ea : Nat → Addr) (hE : Env W ea) (hW : (ea 64).block ≤ W.heap.size) (hs : s.size ≤ 8192) :
    Calls Tryd.prog 8 #[.string s] W fun e w' => ∃ v ev, e = .returned (.tuple #[v, ev]) ∧ LexV W ea (lexL s.data.toList) v ev w' ∧ Below W.heap.size W w' := by
  obtain ⟨i0, hi, hz0, hz1, hz2⟩ := info_parts infoT
  have HN : Hid _ := new_any s W hs
  obtain ⟨W2, hW2⟩ : ∃ W2, W2 = (W.alloc (.cells #[.string s] 73)).alloc (.cells #[.pointer (some ⟨W.heap.size, 0, none⟩), .int .i64 0] 48) := ⟨_, rfl⟩
  have hz : W2.heap.size = W.heap.size + 2 := by rw [hW2]; simp
  have HB2 : Hid (Below W.heap.size W W2) := by rw [hW2]; exact (below_new W _).alloc (by simp) _
  have HR2 : Hid (Rd W2 (W.heap.size + 1) W.heap.size s 0) := by
    rw [hW2]
    exact ⟨Cel.new2 _ _ _ _, (Cel.new W _ _).below (below_new _ _) (by simp)⟩
  have HE2 : Hid (Env W2 ea) := by rw [hW2]; exact hE.below ((below_new W _).alloc (by simp) _)
  have HW2 : Hid ((W.alloc (.cells #[.string s] 73)).alloc (.cells #[.pointer (some ⟨W.heap.size, 0, none⟩), .int .i64 0] 48) = W2) := hW2.symm
  obtain ⟨T, HT⟩ : ∃ T : List UInt8 → Except Er (Tb × List UInt8), Hid (T = tokenL s.size) := ⟨tokenL s.size, by unfold Hid; rfl⟩
  obtain ⟨R, HR⟩ : ∃ R, Hid (lexL s.data.toList = R) := ⟨lexL s.data.toList, by unfold Hid; rfl⟩
  have HRW : Hid (R = lexW T (s.size + 1) s.data.toList) := by
    unfold Hid
    rw [← HR.out, HT.out]
    unfold lexL
    rw [ba_length]
  rw [HR.out]
  clear hE hW2 HR
  go_enter Tryd.func8, Tryd.ntmps8
  go_wp2_with fail
  refine Calls.mono HN.out ?_
  rintro e w1 ⟨rfl, rfl⟩
  go_wp2_with fail
  rw [HW2.out]
  clear HW2 HN
  go_loopw [2, 3, 7] (fun v2 v3 v7 wr => ∃ (p g : Nat) (K : List Tb), v2 = .slice none 0 0 ∧ v3 = .nilIface ∧ p ≤ s.size ∧ s.size - p < g ∧ K.length ≤ p ∧ Hid (TbOwn wr W2.heap.size v7 K) ∧ Hid (R = preT K (lexW T g (s.data.toList.drop p))) ∧ Hid (Stp W2 (W.heap.size + 1) W.heap.size s p wr) ∧ Hid (Env wr ea)) (fun _ _ _ wr => s.size + 2 - posOf wr (W.heap.size + 1))
  case atStart => exact ⟨0, s.size + 1, [], rfl, rfl, Nat.zero_le _, by omega, Nat.zero_le _, TbOwn.nil _ _, by unfold Hid; rw [HRW.out, List.drop_zero]; cases lexW T (s.size + 1) s.data.toList <;> rfl, Stp.refl HR2.out, HE2.out⟩
  case round =>
    obtain ⟨p, g, K, rfl, rfl, hp, hg, hKp, HO, HEQ, HS, HE⟩ := hrel
    obtain ⟨ad, cap, rfl⟩ := HO.out.form
    clear HR2 HE2 HRW
    obtain ⟨g', rfl⟩ : ∃ g', g = g' + 1 := ⟨g - 1, by omega⟩
    have HPO : Hid (posOf wr (W.heap.size + 1) = p) := HS.out.at_.pos
    have HTO : Hid _ := token_any HS.out.at_ HE.out hs hp (by omega)
    have hln := len_drop s p
    have hszr : W2.heap.size ≤ wr.heap.size := HS.out.turn.size
    have HTT : Hid (T (s.data.toList.drop p) = tokenL s.size (s.data.toList.drop p)) := by unfold Hid; rw [HT.out]
    cases htk : tokenL s.size (s.data.toList.drop p) with
    | error x =>
      have HRR : Hid (R = .error x) := by
        unfold Hid
        rw [HEQ.out, lexW_err T g' _ x (by rw [HTT.out, htk])]
        rfl
      rw [htk] at HTO
      clear htk HTT HEQ
      go_wp2_with fail
      refine Calls.mono HTO.out ?_
      rintro e w5 ⟨v, ev, rfl, ⟨⟨ck, cp, cn, cs, cg⟩, rfl⟩, ⟨q5, rfl, hx⟩, j5, hst5⟩
      have HX : Hid (AtEr w5 ea (.iface 81 (.pointer (some ⟨q5, 0, none⟩))) x) := ⟨q5, rfl, hx⟩
      have HS5 : Hid (Stp W2 (W.heap.size + 1) W.heap.size s j5 w5) := HS.out.trans hst5
      clear hx hst5 HTO HS HE HO HPO
      go_wp2_with fail
      go_ret2
      rw [HRR.out]
      exact ⟨_, _, rfl, ⟨rfl, HX.out.below (below_new _ _)⟩, HB2.out.trans ((Turn.below (HS5.out.below (below_new _ _)).turn (fun i e => by omega) (by omega)))⟩
    | ok r =>
      obtain ⟨tk, u⟩ := r
      have htok := token_ok htk
      have hov := over_len (s.data.toList.drop p)
      have HRR : Hid (if tk.kind = 0 then R = .ok (K ++ [tk]) else R = preT (K ++ [tk]) (lexW T g' u)) := by
        unfold Hid
        split
        · rename_i h0
          rw [HEQ.out, lexW_end T g' _ tk u (by rw [HTT.out, htk]) h0]
          rfl
        · rename_i h0
          rw [HEQ.out, lexW_more T g' _ tk u (by rw [HTT.out, htk]) h0, preT_pre]
      rw [htk] at HTO
      have hul : tk.kind ≠ 0 → u.length < s.size - p := fun h0 => by
        rcases htok with h1 | h1
        · exact absurd h1.1 h0
        · have := h1.2.2.2.1; omega
      clear htk HTT HEQ htok hov
      obtain ⟨tkk, tkp, tkn, tks, tkg⟩ := tk
      simp only at hul HRR
      go_wp2_with fail
      refine Calls.mono HTO.out ?_
      rintro e w5 ⟨v, ev, rfl, rfl, rfl, j5, hst5, hj5, hu5⟩
      simp only at hu5
      have HU5 : Hid (u = s.data.toList.drop j5) := hu5
      have hlu : u.length = s.size - j5 := by rw [hu5, len_drop]
      have HS5 : Hid (Stp W2 (W.heap.size + 1) W.heap.size s j5 w5) := HS.out.trans hst5
      have HE5 : Hid (Env w5 ea) := HE.out.stp hst5 (by omega)
      have HO5 : Hid (w5.ownsRow W2.heap.size 40 5 (.slice ad K.length cap) K.length (tbCs K)) := HO.out.turn hst5.turn (fun i e => by omega)
      have hsz5 : W2.heap.size ≤ w5.heap.size := HS5.out.turn.size
      clear hst5 hu5 HTO HS HE HO
      by_cases h0 : tkk = 0
      · rw [if_pos h0] at HRR
        subst h0
        clear hul
        have HCF : Hid (∀ w6, (((w5.alloc (.cells #[.int .i64 0, .int .i64 (tkp : Nat), .int .i64 (tkn : Nat), str tks, .bool tkg] 40)).alloc (.cells #[.int .i64 0, .int .i64 (tkp : Nat), .int .i64 (tkn : Nat), str tks, .bool tkg] 40))).grownBy w6 (Value.slice ad K.length cap).ownBlock → w6.cell? ⟨w5.heap.size, 0, none⟩ = some (.int .i64 0)) := fun w6 hg => by
          have hc : Cel ((w5.alloc (.cells #[.int .i64 0, .int .i64 (tkp : Nat), .int .i64 (tkn : Nat), str tks, .bool tkg] 40)).alloc (.cells #[.int .i64 0, .int .i64 (tkp : Nat), .int .i64 (tkn : Nat), str tks, .bool tkg] 40)) w5.heap.size 40 #[.int .i64 0, .int .i64 (tkp : Nat), .int .i64 (tkn : Nat), str tks, .bool tkg] := (Cel.new w5 _ _).below (below_new _ _) (by simp)
          exact (hc.kept hg (fun e => by have := (World.ownsRow.lt HO5.out _ e.symm).2; omega)).cell 0
        go_wp2_with (at_builtin; refine wpList_append_own_at _ rfl _ _ 23 rfl W2.heap.size 40 i0 _ 5 48 Tryd.underlying23 hi hz0 hz1 hz2 rfl (by decide) _ _ _ rfl (World.ownsRow.alloc (World.ownsRow.alloc HO5.out _) _) ⟨w5.heap.size + 1, 0, none⟩ 1 1 (tbC (⟨0, tkp, tkn, tks, tkg⟩ : Tb)) rfl rfl (cells_new2 _ _ _ _) (by simp [Value.oneCell']) (by have := maxLen_big; omega) (by omega) (by simp; omega) ?_; intro v6 w6 hown hgrow _ _; have hc6 := HCF.out w6 hgrow; obtain ⟨ad6, cap6, rfl⟩ := owns_slice hown)
        have hb5 : Below W2.heap.size w5 ((w5.alloc (.cells #[.int .i64 0, .int .i64 (tkp : Nat), .int .i64 (tkn : Nat), str tks, .bool tkg] 40)).alloc (.cells #[.int .i64 0, .int .i64 (tkp : Nat), .int .i64 (tkn : Nat), str tks, .bool tkg] 40)) := ((Below.refl _ w5).alloc hsz5 _).alloc (by simp; omega) _
        have hbel : Below W2.heap.size w5 w6 := grown_own (by simp; omega) hb5 (World.ownsRow.alloc (World.ownsRow.alloc HO5.out _) _) hgrow
        have HO6 : Hid (TbOwn w6 W2.heap.size (.slice ad6 (K.length + 1) cap6) (K ++ [⟨0, tkp, tkn, tks, tkg⟩])) := by
          unfold Hid TbOwn
          rw [tbCs_append, tbCs_one, List.length_append]
          exact hown
        have HS6 : Hid (Stp W2 (W.heap.size + 1) W.heap.size s j5 w6) := HS5.out.under (by omega) (by omega) hbel
        have HE6 : Hid (Env w6 ea) := HE5.out.under hbel (by omega)
        clear hown hgrow hbel HS5 HE5 HO5 hb5 HCF
        go_wp2_with fail
        go_ret2
        rw [HRR.out]
        exact ⟨_, _, rfl, ⟨rfl, HO6.out.lower (by omega)⟩, HB2.out.trans (Turn.below HS6.out.turn (fun i e => by omega) (by omega))⟩
      · rw [if_neg h0] at HRR
        have hk0 : ((tkk : Int) == 0) = false := by simp; exact h0
        have hlt : p < j5 := by have := hul h0; omega
        clear hul
        have HCF : Hid (∀ w6, (((w5.alloc (.cells #[.int .i64 (tkk : Nat), .int .i64 (tkp : Nat), .int .i64 (tkn : Nat), str tks, .bool tkg] 40)).alloc (.cells #[.int .i64 (tkk : Nat), .int .i64 (tkp : Nat), .int .i64 (tkn : Nat), str tks, .bool tkg] 40))).grownBy w6 (Value.slice ad K.length cap).ownBlock → w6.cell? ⟨w5.heap.size, 0, none⟩ = some (.int .i64 (tkk : Nat))) := fun w6 hg => by
          have hc : Cel ((w5.alloc (.cells #[.int .i64 (tkk : Nat), .int .i64 (tkp : Nat), .int .i64 (tkn : Nat), str tks, .bool tkg] 40)).alloc (.cells #[.int .i64 (tkk : Nat), .int .i64 (tkp : Nat), .int .i64 (tkn : Nat), str tks, .bool tkg] 40)) w5.heap.size 40 #[.int .i64 (tkk : Nat), .int .i64 (tkp : Nat), .int .i64 (tkn : Nat), str tks, .bool tkg] := (Cel.new w5 _ _).below (below_new _ _) (by simp)
          exact (hc.kept hg (fun e => by have := (World.ownsRow.lt HO5.out _ e.symm).2; omega)).cell 0
        go_wp2_with (at_builtin; refine wpList_append_own_at _ rfl _ _ 23 rfl W2.heap.size 40 i0 _ 5 48 Tryd.underlying23 hi hz0 hz1 hz2 rfl (by decide) _ _ _ rfl (World.ownsRow.alloc (World.ownsRow.alloc HO5.out _) _) ⟨w5.heap.size + 1, 0, none⟩ 1 1 (tbC (⟨tkk, tkp, tkn, tks, tkg⟩ : Tb)) rfl rfl (cells_new2 _ _ _ _) (by simp [Value.oneCell']) (by have := maxLen_big; omega) (by omega) (by simp; omega) ?_; intro v6 w6 hown hgrow _ _; have hc6 := HCF.out w6 hgrow; obtain ⟨ad6, cap6, rfl⟩ := owns_slice hown)
        have hb5 : Below W2.heap.size w5 ((w5.alloc (.cells #[.int .i64 (tkk : Nat), .int .i64 (tkp : Nat), .int .i64 (tkn : Nat), str tks, .bool tkg] 40)).alloc (.cells #[.int .i64 (tkk : Nat), .int .i64 (tkp : Nat), .int .i64 (tkn : Nat), str tks, .bool tkg] 40)) := ((Below.refl _ w5).alloc hsz5 _).alloc (by simp; omega) _
        have hbel : Below W2.heap.size w5 w6 := grown_own (by simp; omega) hb5 (World.ownsRow.alloc (World.ownsRow.alloc HO5.out _) _) hgrow
        have HO6 : Hid (TbOwn w6 W2.heap.size (.slice ad6 (K.length + 1) cap6) (K ++ [⟨tkk, tkp, tkn, tks, tkg⟩])) := by
          unfold Hid TbOwn
          rw [tbCs_append, tbCs_one, List.length_append]
          exact hown
        have HS6 : Hid (Stp W2 (W.heap.size + 1) W.heap.size s j5 w6) := HS5.out.under (by omega) (by omega) hbel
        have HE6 : Hid (Env w6 ea) := HE5.out.under hbel (by omega)
        clear hown hgrow hbel HS5 HE5 HO5 hb5 HCF
        go_wp2_with fail
        refine ⟨⟨j5, g', K ++ [⟨tkk, tkp, tkn, tks, tkg⟩], rfl, rfl, hj5, by omega, by rw [List.length_append]; simp; omega, HO6, by unfold Hid; rw [HRR.out, HU5.out], HS6.out, HE6.out⟩, ?_⟩
        rw [HS6.out.at_.pos, HPO.out]
        omega
end Go.Proofs.YtddekcohfbnmbaaDoor
