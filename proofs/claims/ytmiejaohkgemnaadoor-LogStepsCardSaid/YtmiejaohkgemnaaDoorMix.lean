import Derived.Test.YtmiejaohkgemnaaDoorSpread
import Derived.Deep.QuietTactic
import Derived.BigQuiet
namespace Go.Proofs.YtmiejaohkgemnaaDoor
set_option linter.unusedVariables false
open Go.RowKit
open Sh

/-- the cells of a state -/
def stCells (ws : List UInt32) (blk : List UInt8) (f : Nat) (len : Nat) : List Value := ws.map wv ++ (blk.map bv ++ [.int .i64 (f : Int), .int .u64 (len : Int)])
def St (w : World) (g : Nat) (s : S8) (blk : List UInt8) (f len : Nat) : Prop := blk.length = 64 ∧ Bk w g 130 (stCells s.list blk f len)

theorem list_len (s : S8) : s.list.length = 8 := rfl
theorem stCells_word {ws : List UInt32} (h : ws.length = 8) (blk : List UInt8) (f len : Nat) {i : Nat} (hi : i < 8) : (stCells ws blk f len)[i]? = some (.int .u32 ((ws.getD i 0).toNat : Int)) := by
  unfold stCells
  rw [List.getElem?_append_left (by simp [h]; omega)]
  simp [wv, h, hi]
theorem stCells_byte {ws : List UInt32} (h : ws.length = 8) {blk : List UInt8} (hb : blk.length = 64) (f len : Nat) {i : Nat} (hi : i < 64) : (stCells ws blk f len)[8 + i]? = some (bv (blk.getD i 0)) := by
  unfold stCells
  rw [List.getElem?_append_right (by simp [h]), List.length_map, h, Nat.add_sub_cancel_left, List.getElem?_append_left (by simpa [hb] using hi)]
  simp [hb, hi]
theorem stCells_set {ws : List UInt32} (h : ws.length = 8) (blk : List UInt8) (f len : Nat) {i : Nat} (hi : i < 8) (x : UInt32) : (stCells ws blk f len).set i (.int .u32 (x.toNat : Int)) = stCells (ws.set i x) blk f len := by
  unfold stCells
  rw [List.set_append_left _ _ (by simp [h]; omega), List.map_set]
  rfl
theorem St.blk64 {w : World} {g : Nat} {s : S8} {blk : List UInt8} {f len : Nat} (h : St w g s blk f len) : Blk64 w g blk :=
  ⟨h.1, h.2.lt, fun i hi => h.2.at_ (stCells_byte (list_len s) h.1 f len hi)⟩

/-- the first n words are added up -/
def addN (a b : List UInt32) : Nat → List UInt32
  | 0 => a
  | n + 1 => (addN a b n).set n (a.getD n 0 + b.getD n 0)
theorem addN_len (a b : List UInt32) (n : Nat) : (addN a b n).length = a.length := by induction n with | zero => rfl | succ n ih => simp [addN, ih]
theorem addN_at (a b : List UInt32) (n k : Nat) (h : n ≤ k) : (addN a b n).getD k 0 = a.getD k 0 := by
  induction n with
  | zero => rfl
  | succ n ih =>
    have := ih (by omega)
    simp only [List.getD_eq_getElem?_getD] at this ⊢
    rw [addN, List.getElem?_set_ne (by omega)]
    exact this
theorem addN_8 (s r : S8) : addN s.list r.list 8 = (plus s r).list := rfl

theorem not_wv (e : UInt32) : bits .xor .u32 4294967295 (e.toNat : Int) = ((e ^^^ 4294967295).toNat : Int) := by
  have h := xor_wv 4294967295 e
  rw [UInt32.xor_comm] at h
  exact h
theorem S1_wv (e : UInt32) : bits .xor .u32 (bits .xor .u32 ((rotr e 6).toNat : Int) ((rotr e 11).toNat : Int)) ((rotr e 25).toNat : Int) = ((S1 e).toNat : Int) := by rw [xor_wv, xor_wv]; rfl
theorem S0_wv (e : UInt32) : bits .xor .u32 (bits .xor .u32 ((rotr e 2).toNat : Int) ((rotr e 13).toNat : Int)) ((rotr e 22).toNat : Int) = ((S0 e).toNat : Int) := by rw [xor_wv, xor_wv]; rfl
theorem ch_wv (e f g : UInt32) : bits .xor .u32 (bits .and .u32 (e.toNat : Int) (f.toNat : Int)) (bits .and .u32 (bits .xor .u32 4294967295 (e.toNat : Int)) (g.toNat : Int)) = ((ch e f g).toNat : Int) := by
  rw [not_wv, and_wv, and_wv, xor_wv]; rfl
theorem ch_wv' (e f g : UInt32) : bits .xor .u32 (bits .and .u32 (e.toNat : Int) (f.toNat : Int)) (bits .and .u32 (bits .xor .u32 (if IntKind.u32.signed = true then -1 else IntKind.u32.max) (e.toNat : Int)) (g.toNat : Int)) = ((ch e f g).toNat : Int) := by
  have h : (if IntKind.u32.signed = true then (-1 : Int) else IntKind.u32.max) = 4294967295 := by decide
  rw [h]; exact ch_wv e f g
theorem mj_wv (a b c : UInt32) : bits .xor .u32 (bits .xor .u32 (bits .and .u32 (a.toNat : Int) (b.toNat : Int)) (bits .and .u32 (a.toNat : Int) (c.toNat : Int))) (bits .and .u32 (b.toNat : Int) (c.toNat : Int)) = ((mj a b c).toNat : Int) := by
  rw [and_wv, and_wv, and_wv, xor_wv, xor_wv]; rfl

theorem rightQ (x : UInt32) (n : Nat) [hn : NeZero n] (w : World) (k : Nat) (h2 : n < 32 := by omega) :
    Calls Tryd.prog 90 #[.int .u32 (x.toNat : Int), .int .i64 (n : Int)] (w.drewN k) fun e w'' => e = .returned (.int .u32 ((rotr x n).toNat : Int)) ∧ ∃ m, w'' = w.drewN m :=
  Calls.quiet_of (n := k) (right_any x n (w.drewN k) (Nat.pos_of_ne_zero hn.out) h2)
/-- the table of the rounds' words stands in its variable -/
def Tab (w : World) : Prop := 0 < w.heap.size ∧ ∀ k, k < 64 → w.cell? ⟨0, k, none⟩ = some (.int .u32 ((K.getD k 0).toNat : Int))
theorem Tab.below {B : Nat} {w w' : World} (h : Tab w) (hb : Below B w w') (hB : 0 < B) : Tab w' := ⟨Nat.lt_of_lt_of_le h.1 hb.size, fun k hk => (hb.cell (p := ⟨0, k, none⟩) hB).trans (h.2 k hk)⟩
theorem Tab.grown {w w' : World} {g : Nat} (h : Tab w) (hg : w.grownBy w' (some g)) (h0 : 0 < g) : Tab w' :=
  ⟨Nat.lt_of_lt_of_le h.1 hg.size, fun k hk => (World.cell?_of_block (w := w) (hg.block 0 h.1 (by simp; omega))).trans (h.2 k hk)⟩
/-- the words W are those of the block -/
def IsSp (b : List UInt8) (W : List UInt32) : Prop := ∀ s, mixS s b = plus s (rounds W 64 s)
def Mixed (g : Nat) (s : S8) (blk : List UInt8) (f len : Nat) (w : World) (e : Ending) (w' : World) : Prop :=
  e = .returned (.tuple #[]) ∧ St w' g (mixS s blk) blk f len ∧ w.grownBy w' (some g)

set_option maxHeartbeats 2000000 in
set_option maxRecDepth 100000 in
theorem mix_any (g : Nat) (s : S8) (blk : List UInt8) (f len : Nat) (w : World) (h : St w g s blk f len) (hT : Tab w) :
    Calls Tryd.prog 87 #[.pointer (some ⟨g, 0, none⟩)] w (Mixed g s blk f len w) := by
  have H64 := Lib.hid h.blk64
  have HT := Lib.hid hT
  clear hT
  have hgl := h.2.lt
  obtain ⟨sa, sb, sc, sd, se, sf, sg, sh⟩ := s
  have c0 : w.cell? ⟨g, 0, none⟩ = some (.int .u32 (sa.toNat : Int)) := h.2.at_ rfl
  have c1 : w.cell? ⟨g, 1, none⟩ = some (.int .u32 (sb.toNat : Int)) := h.2.at_ rfl
  have c2 : w.cell? ⟨g, 2, none⟩ = some (.int .u32 (sc.toNat : Int)) := h.2.at_ rfl
  have c3 : w.cell? ⟨g, 3, none⟩ = some (.int .u32 (sd.toNat : Int)) := h.2.at_ rfl
  have c4 : w.cell? ⟨g, 4, none⟩ = some (.int .u32 (se.toNat : Int)) := h.2.at_ rfl
  have c5 : w.cell? ⟨g, 5, none⟩ = some (.int .u32 (sf.toNat : Int)) := h.2.at_ rfl
  have c6 : w.cell? ⟨g, 6, none⟩ = some (.int .u32 (sg.toNat : Int)) := h.2.at_ rfl
  have c7 : w.cell? ⟨g, 7, none⟩ = some (.int .u32 (sh.toNat : Int)) := h.2.at_ rfl
  have HS := Lib.hid h
  have HB := Lib.hid (fun n => spread_any g blk (w.drewN n) H64.out)
  clear h
  go_enter Tryd.func87, Tryd.ntmps87
  go_wp2_with fail
  go_quiet (fail)
  go_wp2_with fail
  go_quiet (fail)
  go_wp2_with fail
  refine (HB.out _).mono ?_
  rintro e w1 ⟨rfl, hb1⟩
  go_wp2_with fail
  have HW := Lib.hid (spread_len blk 64)
  have HWE := Lib.hid (show IsSp blk (spread blk 64) from fun _ => rfl)
  generalize spread blk 64 = W at HW HWE ⊢
  go_loopw [2, 3, 4, 5, 6, 7, 8, 9, 58] (fun a b c d e f g h i wr => ∃ n m : Nat, n ≤ 64 ∧ i = .int .i64 n ∧ wr = w1.drewN m ∧
    a = .int .u32 ((rounds W n ⟨sa, sb, sc, sd, se, sf, sg, sh⟩).a.toNat : Int) ∧ b = .int .u32 ((rounds W n ⟨sa, sb, sc, sd, se, sf, sg, sh⟩).b.toNat : Int) ∧ c = .int .u32 ((rounds W n ⟨sa, sb, sc, sd, se, sf, sg, sh⟩).c.toNat : Int) ∧
    d = .int .u32 ((rounds W n ⟨sa, sb, sc, sd, se, sf, sg, sh⟩).d.toNat : Int) ∧ e = .int .u32 ((rounds W n ⟨sa, sb, sc, sd, se, sf, sg, sh⟩).e.toNat : Int) ∧ f = .int .u32 ((rounds W n ⟨sa, sb, sc, sd, se, sf, sg, sh⟩).f.toNat : Int) ∧
    g = .int .u32 ((rounds W n ⟨sa, sb, sc, sd, se, sf, sg, sh⟩).g.toNat : Int) ∧ h = .int .u32 ((rounds W n ⟨sa, sb, sc, sd, se, sf, sg, sh⟩).h.toNat : Int)) (fun _ _ _ _ _ _ _ _ i _ => 64 - (intOf i).toNat)
  case atStart => exact ⟨0, 0, by omega, rfl, rfl, rfl, rfl, rfl, rfl, rfl, rfl, rfl, rfl⟩
  case round =>
    obtain ⟨n, m, hn, rfl, hwr, rfl, rfl, rfl, rfl, rfl, rfl, rfl, rfl⟩ := hrel
    by_cases hlt : n < 64
    · have HN := Lib.hid (show rounds W (n + 1) ⟨sa, sb, sc, sd, se, sf, sg, sh⟩ = rnd (K.getD n 0) (W.getD n 0) (rounds W n ⟨sa, sb, sc, sd, se, sf, sg, sh⟩) from rfl)
      generalize rounds W n ⟨sa, sb, sc, sd, se, sf, sg, sh⟩ = r at HN ⊢
      obtain ⟨a, b, c, d, e', f', g', h⟩ := r
      have R6 := Lib.hid (show ∀ k : Nat, Calls Tryd.prog 90 #[.int .u32 (e'.toNat : Int), .int .i64 6] (wr.drewN k) fun e w'' => e = .returned (.int .u32 ((rotr e' 6).toNat : Int)) ∧ ∃ m, w'' = wr.drewN m from fun k => rightQ e' 6 wr k)
      have R11 := Lib.hid (show ∀ k : Nat, Calls Tryd.prog 90 #[.int .u32 (e'.toNat : Int), .int .i64 11] (wr.drewN k) fun e w'' => e = .returned (.int .u32 ((rotr e' 11).toNat : Int)) ∧ ∃ m, w'' = wr.drewN m from fun k => rightQ e' 11 wr k)
      have R25 := Lib.hid (show ∀ k : Nat, Calls Tryd.prog 90 #[.int .u32 (e'.toNat : Int), .int .i64 25] (wr.drewN k) fun e w'' => e = .returned (.int .u32 ((rotr e' 25).toNat : Int)) ∧ ∃ m, w'' = wr.drewN m from fun k => rightQ e' 25 wr k)
      have hS1 := S1_wv e'
      have hch := ch_wv' e' f' g'
      have hS0 := S0_wv a
      have hmj := mj_wv a b c
      have hix : ∀ wx, (Instr.index 123 (.agg (W.map wv).toArray) (.int .i64 (n : Int))).run Tryd.prog wx = .ok (.int .u32 ((W.getD n 0).toNat : Int)) wx := index_words _ _ under_w64 W HW.out n hlt
      have ht : wr.cell? ⟨0, n, none⟩ = some (.int .u32 ((K.getD n 0).toNat : Int)) := by
        rw [hwr]
        exact (hb1.cell (p := ⟨0, n, none⟩) HT.out.1).trans (HT.out.2 n hlt)
      have HWR := Lib.hid hwr
      clear hwr
      generalize W.getD n 0 = wn at hix HN
      generalize K.getD n 0 = kn at ht HN
      go_wp2_with fail
      go_quiet ((go_at_call 90; first | with_reducible exact R6.out _ | with_reducible exact R11.out _ | with_reducible exact R25.out _))
      go_wp2_with fail
      refine (right_any a 2 _ (by omega) (by omega)).mono ?_
      rintro e w2 ⟨rfl, m2, rfl⟩
      go_wp2_with fail
      refine (right_any a 13 _ (by omega) (by omega)).mono ?_
      rintro e w3 ⟨rfl, m3, rfl⟩
      go_wp2_with fail
      refine (right_any a 22 _ (by omega) (by omega)).mono ?_
      rintro e w4 ⟨rfl, m4, rfl⟩
      go_wp2_with fail
      go_roundw
      case rel =>
        refine ⟨n + 1, m + (nq + m2 + m3 + m4), by omega, by go_num, by rw [HWR.out]; exact World.drewN_drewN w1 _ _, ?_⟩
        rw [HN.out, add5_wv, add_wv, add_wv, add_wv]
        exact ⟨rfl, rfl, rfl, rfl, rfl, rfl, rfl, rfl⟩
      case measure => simp [intOf]; omega
    · have e64 : n = 64 := by omega
      subst e64
      have HM := Lib.hid (show plus ⟨sa, sb, sc, sd, se, sf, sg, sh⟩ (rounds W 64 ⟨sa, sb, sc, sd, se, sf, sg, sh⟩) = mixS ⟨sa, sb, sc, sd, se, sf, sg, sh⟩ blk from (HWE.out _).symm)
      have hB0 : Bk wr g 130 (stCells (S8.list ⟨sa, sb, sc, sd, se, sf, sg, sh⟩) blk f len) := by
        rw [hwr]
        exact (HS.out.2.kept (below_undrawn hb1)).drewN _
      have hG0 : w.grownBy wr (some g) := by
        rw [hwr]
        exact grown_drewN (grown_of_below (below_undrawn hb1) _) _
      have HB0 := Lib.hid hB0
      have HG0 := Lib.hid hG0
      clear hB0 hG0 hwr hb1 c0 c1 c2 c3 c4 c5 c6 c7
      generalize rounds W 64 ⟨sa, sb, sc, sd, se, sf, sg, sh⟩ = r at HM ⊢
      generalize hs : S8.mk sa sb sc sd se sf sg sh = s at HM HB0 HS
      have HSE := Lib.hid hs
      clear hs
      obtain ⟨a, b, c, d, e', f', g', h⟩ := r
      go_wp2_with fail
      go_loopw [129] (fun i wr => ∃ n : Nat, n ≤ 8 ∧ i = .int .i64 n ∧ Bk wr g 130 (stCells (addN s.list (S8.list ⟨a, b, c, d, e', f', g', h⟩) n) blk f len) ∧ w.grownBy wr (some g)) (fun i _ => 8 - (intOf i).toNat)
      case atStart => exact ⟨0, by omega, rfl, HB0.out, HG0.out⟩
      case round =>
        obtain ⟨n, hn8, rfl, hb, hg⟩ := hrel
        by_cases hlt : n < 8
        · have hix : ∀ wx, (Instr.index 125 (.agg #[.int .u32 (a.toNat : Int), .int .u32 (b.toNat : Int), .int .u32 (c.toNat : Int), .int .u32 (d.toNat : Int), .int .u32 (e'.toNat : Int), .int .u32 (f'.toNat : Int), .int .u32 (g'.toNat : Int), .int .u32 (h.toNat : Int)]) (.int .i64 (n : Int))).run Tryd.prog wx =
              .ok (.int .u32 (((S8.list ⟨a, b, c, d, e', f', g', h⟩).getD n 0).toNat : Int)) wx := index_words _ _ under_w8 (S8.list ⟨a, b, c, d, e', f', g', h⟩) rfl n hlt
          have hc : wr.cell? ⟨g, n, none⟩ = some (.int .u32 ((s.list.getD n 0).toNat : Int)) := by
            rw [← addN_at s.list (S8.list ⟨a, b, c, d, e', f', g', h⟩) n n (Nat.le_refl _)]
            exact hb.at_ (stCells_word (by rw [addN_len]; rfl) blk f len hlt)
          have hf := hb.frozen n
          have HS2 := Lib.hid (hb.set n (.int .u32 ((s.list.getD n 0 + (S8.list ⟨a, b, c, d, e', f', g', h⟩).getD n 0).toNat : Int)))
          have HG2 := Lib.hid (grown_set hg n (.int .u32 ((s.list.getD n 0 + (S8.list ⟨a, b, c, d, e', f', g', h⟩).getD n 0).toNat : Int)))
          have HN2 := Lib.hid (show addN s.list (S8.list ⟨a, b, c, d, e', f', g', h⟩) (n + 1) = (addN s.list (S8.list ⟨a, b, c, d, e', f', g', h⟩) n).set n (s.list.getD n 0 + (S8.list ⟨a, b, c, d, e', f', g', h⟩).getD n 0) from rfl)
          generalize (S8.list ⟨a, b, c, d, e', f', g', h⟩).getD n 0 = y at hix HS2 HG2 HN2
          generalize s.list.getD n 0 = x at hc HS2 HG2 HN2
          clear hb hg
          go_wp2_with fail
          go_region
          go_wp2_with fail
          go_roundw
          case rel =>
            rw [add_wv]
            refine ⟨n + 1, by omega, by go_num, ?_, grown_drewN HG2.out _⟩
            have e := HS2.out
            rw [stCells_set (by rw [addN_len]; rfl) _ _ _ hlt] at e
            rw [HN2.out]
            exact e.drewN _
          case measure => simp [intOf]; omega
        · have e8 : n = 8 := by omega
          subst e8
          go_wp2_with fail
          refine bodyPost_end (results_none rfl _ _ _) rfl ?_
          refine ⟨rfl, ⟨HS.out.1, ?_⟩, hg⟩
          rw [HSE.out, ← HM.out]
          exact hb
end Go.Proofs.YtmiejaohkgemnaaDoor
