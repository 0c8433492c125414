/-
  The reference's log: area. A walk; no statement.
-/
import Derived.Test.YtmiejaohkgemnaaDoorMRefLogA
import Derived.Test.YtmiejaohkgemnaaDoorLogKeep
namespace Go.Proofs.YtmiejaohkgemnaaDoor
open Go.RowKit
open Pk Sh
set_option linter.unusedVariables false
set_option maxRecDepth 100000

/-- a log without a disk, as the reference has it -/
def lgV (g n : Nat) (s : Value) : List Value := [.int .i64 0, .slice none 0 0, .slice none 0 0, .int .i64 0, .int .i64 0, .int .i64 0, .int .i64 (g : Int), .int .i64 (n : Int), s]
/-- area's answer -/
def AreaR (b : List UInt8) (w : World) (e : Ending) (w' : World) : Prop :=
  Below w.heap.size w w' ∧ ∃ (g n : Nat) (S : Option Addr) (sn sc k : Nat) (ok : Bool), e = .returned (.tuple #[.agg (lgV g n (.slice S sn sc)).toArray, .int .i64 (k : Int), .bool ok]) ∧
    ((ok = false ∧ Lg.good b = none) ∨ (ok = true ∧ ∃ x, Lg.good b = some x ∧ g = x.gen ∧ n = x.laid ∧ sn = x.list.length ∧ k = b.length - x.rest.length ∧ OwnRs w' w.heap.size S sn sc x.list))
theorem info_log5 : (Tryd.prog.info? 39).map (·.size) = some 9 := by kernel_rfl
theorem area_r0 {b : List UInt8} {w w' : World} {g n k : Nat} {S : Option Addr} {sn sc : Nat} (hb : Below w.heap.size w w') (h : Lg.good b = none) : AreaR b w (.returned (.tuple #[.agg (lgV g n (.slice S sn sc)).toArray, .int .i64 (k : Int), .bool false])) w' := ⟨hb, g, n, S, sn, sc, k, false, rfl, .inl ⟨rfl, h⟩⟩
namespace Lg
theorem good_none {b : List UInt8} (h : area b = none) : good b = none := by unfold good; rw [h]; rfl
/-- the frame at the beginning of bytes is the one of that place -/
theorem frame_is {b s p r : List UInt8} {g k : Nat} (h : cut b = some (s, p, r)) : (frame g k p = b.take (b.length - r.length)) ↔ s = dig g k p := by
  obtain ⟨e, hs, hp⟩ := cut_some h
  have e2 : b.take (b.length - r.length) = encN p.length ++ (s ++ p) := by
    have e3 : b = (encN p.length ++ (s ++ p)) ++ r := by rw [e]; simp
    have e4 : b.length - r.length = (encN p.length ++ (s ++ p)).length := by rw [e3, List.length_append, Nat.add_sub_cancel]
    rw [e4, e3, List.take_left' rfl]
  rw [e2]
  unfold frame
  constructor
  · intro h
    have h1 := List.append_cancel_left h
    exact (List.append_cancel_right h1).symm
  · rintro rfl; rfl
end Lg
section
variable {X W : World} {h : Nat} {t : TypeId} {x0 x1 x2 x3 x4 x5 x6 x7 x8 : Value}
theorem Bk.nine (k : Bk X h t [x0, x1, x2, x3, x4, x5, x6, x7, x8]) :
    X.cell? ⟨h, 0, none⟩ = some x0 ∧ X.cell? ⟨h, 1, none⟩ = some x1 ∧ X.cell? ⟨h, 2, none⟩ = some x2 ∧ X.cell? ⟨h, 3, none⟩ = some x3 ∧ X.cell? ⟨h, 4, none⟩ = some x4 ∧ X.cell? ⟨h, 5, none⟩ = some x5 ∧ X.cell? ⟨h, 6, none⟩ = some x6 ∧ X.cell? ⟨h, 7, none⟩ = some x7 ∧ X.cell? ⟨h, 8, none⟩ = some x8 :=
  ⟨k.at_ rfl, k.at_ rfl, k.at_ rfl, k.at_ rfl, k.at_ rfl, k.at_ rfl, k.at_ rfl, k.at_ rfl, k.at_ rfl⟩
theorem nine_set (k : Bk X h t [x0, x1, x2, x3, x4, x5, x6, x7, x8]) (a b c d e f g i j : Value) :
    Bk (((((((((X.setCell ⟨h, 0, none⟩ a).setCell ⟨h, 1, none⟩ b).setCell ⟨h, 2, none⟩ c).setCell ⟨h, 3, none⟩ d).setCell ⟨h, 4, none⟩ e).setCell ⟨h, 5, none⟩ f).setCell ⟨h, 6, none⟩ g).setCell ⟨h, 7, none⟩ i).setCell ⟨h, 8, none⟩ j) h t [a, b, c, d, e, f, g, i, j] :=
  ((((((((k.set 0 a).set 1 b).set 2 c).set 3 d).set 4 e).set 5 f).set 6 g).set 7 i).set 8 j
theorem nine_below {B : Nat} (hb : Below B W X) (hg : B ≤ h) (a b c d e f g i j : Value) :
    Below B W (((((((((X.setCell ⟨h, 0, none⟩ a).setCell ⟨h, 1, none⟩ b).setCell ⟨h, 2, none⟩ c).setCell ⟨h, 3, none⟩ d).setCell ⟨h, 4, none⟩ e).setCell ⟨h, 5, none⟩ f).setCell ⟨h, 6, none⟩ g).setCell ⟨h, 7, none⟩ i).setCell ⟨h, 8, none⟩ j) :=
  below_set (below_set (below_set (below_set (below_set (below_set (below_set (below_set (below_set hb hg 0 a) hg 1 b) hg 2 c) hg 3 d) hg 4 e) hg 5 f) hg 6 g) hg 7 i) hg 8 j
theorem Bk.nine_free (k : Bk X h t [x0, x1, x2, x3, x4, x5, x6, x7, x8]) :
    X.frozen? ⟨h, 0, none⟩ = false ∧ X.frozen? ⟨h, 1, none⟩ = false ∧ X.frozen? ⟨h, 2, none⟩ = false ∧ X.frozen? ⟨h, 3, none⟩ = false ∧ X.frozen? ⟨h, 4, none⟩ = false ∧ X.frozen? ⟨h, 5, none⟩ = false ∧ X.frozen? ⟨h, 6, none⟩ = false ∧ X.frozen? ⟨h, 7, none⟩ = false ∧ X.frozen? ⟨h, 8, none⟩ = false :=
  ⟨k.frozen 0, k.frozen 1, k.frozen 2, k.frozen 3, k.frozen 4, k.frozen 5, k.frozen 6, k.frozen 7, k.frozen 8⟩
end
/-- rows of the call's own outlive stores into a block of logs -/
theorem own_set {X : World} {h base i : Nat} {cs : List Value} {L : Option Addr} {n c : Nat} {ls : List (List UInt8)} (ho : OwnRs X base L n c ls) (k : Bk X h 39 cs) (v : Value) : OwnRs (X.setCell ⟨h, i, none⟩ v) base L n c ls :=
  ho.off k (by decide) (by decide) (grown_set (grown_refl X (some h)) i v)
theorem own_nine {X : World} {h base : Nat} {x0 x1 x2 x3 x4 x5 x6 x7 x8 : Value} {L : Option Addr} {n c : Nat} {ls : List (List UInt8)} (ho : OwnRs X base L n c ls) (k : Bk X h 39 [x0, x1, x2, x3, x4, x5, x6, x7, x8]) (a b c' d e f g i j : Value) :
    OwnRs (((((((((X.setCell ⟨h, 0, none⟩ a).setCell ⟨h, 1, none⟩ b).setCell ⟨h, 2, none⟩ c').setCell ⟨h, 3, none⟩ d).setCell ⟨h, 4, none⟩ e).setCell ⟨h, 5, none⟩ f).setCell ⟨h, 6, none⟩ g).setCell ⟨h, 7, none⟩ i).setCell ⟨h, 8, none⟩ j) base L n c ls := by
  have k0 := k.set 0 a
  have k1 := k0.set 1 b
  have k2 := k1.set 2 c'
  have k3 := k2.set 3 d
  have k4 := k3.set 4 e
  have k5 := k4.set 5 f
  have k6 := k5.set 6 g
  have k7 := k6.set 7 i
  exact own_set (own_set (own_set (own_set (own_set (own_set (own_set (own_set (own_set ho k a) k0 b) k1 c') k2 d) k3 e) k4 f) k5 g) k6 i) k7 j
/-- where the loop over the records stands -/
def RvAt (w : World) (b : List UInt8) (x : Lg.Ar) (v : Value) (wr : World) : Prop :=
  ∃ (acc : List (List UInt8)) (L : Option Addr) (lc a f : Nat), v = .int .i64 (a : Nat) ∧ a ≤ b.length ∧ Bk wr w.heap.size 39 (lgV 0 0 (.slice none 0 0)) ∧ Bk wr (w.heap.size + 1) 39 (lgV x.gen x.laid (.slice L acc.length lc)) ∧
    Below w.heap.size w wr ∧ OwnRs wr w.heap.size L acc.length lc acc ∧ acc.length ≤ a ∧ (b.drop a).length ≤ f ∧ x.list = acc ++ (Lg.recs x.gen f (acc.length + 1) (b.drop a)).1 ∧ x.rest = (Lg.recs x.gen f (acc.length + 1) (b.drop a)).2
theorem Lg.cut_drop {b s p r : List UInt8} (h : Lg.cut b = some (s, p, r)) : b.drop (b.length - r.length) = r := by
  have e3 : b = (encN p.length ++ (s ++ p)) ++ r := by rw [(Lg.cut_some h).1]; simp
  have e4 : b.length - r.length = (encN p.length ++ (s ++ p)).length := by rw [e3, List.length_append, Nat.add_sub_cancel]
  rw [e4]
  conv => lhs; rw [e3]
  rw [List.drop_left]
/-- what is answered at the end -/
theorem area_r1 {b : List UInt8} {w w' : World} {x : Lg.Ar} {L : Option Addr} {lc a : Nat} (hb : Below w.heap.size w w') (hx : Lg.area b = some x) (h1 : 1 ≤ x.gen) (ho : OwnRs w' w.heap.size L x.list.length lc x.list) (ha : a = b.length - x.rest.length) :
    AreaR b w (.returned (.tuple #[.agg (lgV x.gen x.laid (.slice L x.list.length lc)).toArray, .int .i64 (a : Int), .bool (decide (x.laid ≤ x.list.length))])) w' := by
  refine ⟨hb, x.gen, x.laid, L, x.list.length, lc, a, _, rfl, ?_⟩
  by_cases hl : x.laid ≤ x.list.length
  · exact .inr ⟨by simp [hl], x, by unfold Lg.good; rw [hx]; simp [h1, hl], rfl, rfl, rfl, ha, ho⟩
  · exact .inl ⟨by simp [hl], by unfold Lg.good; rw [hx]; simp [hl]⟩
set_option maxHeartbeats 6400000 in
theorem refArea5_pre (A : Option Addr) (n c : Nat) (b : List UInt8) (w : World) (h : Sl w A n c b) (hn : n ≤ 4294967296) (h0 : ¬ ∃ x : Lg.Ar, Lg.area b = some x ∧ 1 ≤ x.gen) :
    Calls Tryd.prog 37 #[.slice A n c] w (AreaR b w) := by
  have H0 := Lib.hid h0
  have HA := Lib.hid h
  have HN := Lib.hid hn
  have HL := Lib.hid h.len
  have hb1 := ((Below.refl w.heap.size w).alloc (Nat.le_refl _) (.cells (lgV 0 0 (.slice none 0 0)).toArray 39)).alloc (by simp) (.cells (lgV 0 0 (.slice none 0 0)).toArray 39)
  have HB1 := Lib.hid hb1
  have HK0 := Lib.hid ((Bk.new w 39 (lgV 0 0 (.slice none 0 0))).alloc (.cells (lgV 0 0 (.slice none 0 0)).toArray 39))
  have HK1 := Lib.hid (bk_new2 w (.cells (lgV 0 0 (.slice none 0 0)).toArray 39) (lgV 0 0 (.slice none 0 0)) 39)
  have HNX := Lib.hid (refNext A n c b _ (h.below hb1).rd h.1 (by omega))
  clear h hn hb1 h0
  go_enter Tryd.func37, Tryd.ntmps37
  go_wp2_with fail
  refine HNX.out.mono ?_
  rintro e w2 ⟨hb2, ⟨hc, rfl⟩ | ⟨s, p, r, A2, c2, hc, rfl, hs2⟩⟩
  · have HAR := Lib.hid (Lg.good_none (Lg.area_none hc))
    have HZ := Lib.hid (HK0.out.kept hb2)
    have HB2 := Lib.hid (below_next HB1.out hb2 HB1.out.size)
    obtain ⟨q0, q1, q2, q3, q4, q5, q6, q7, q8⟩ := (HK1.out.kept hb2).nine
    obtain ⟨z0, z1, z2, z3, z4, z5, z6, z7, z8⟩ := (HK0.out.kept hb2).nine
    obtain ⟨u0, u1, u2, u3, u4, u5, u6, u7, u8⟩ := (HK0.out.kept hb2).nine_free
    clear hc hb2
    go_wp2_with fail
    refine bodyPost_ret_by (results_row_tmp2 rfl _ _ w.heap.size 39 _ _ rfl (nine_set HZ.out _ _ _ _ _ _ _ _ _) Tryd.underlying39 rfl info_log5) rfl ?_
    exact area_r0 (g := 0) (n := 0) (k := 0) (nine_below HB2.out (Nat.le_refl _) _ _ _ _ _ _ _ _ _) HAR.out
  · have HC := Lib.hid hc
    have HFI := Lib.hid (fun g k => Lg.frame_is (g := g) (k := k) hc)
    have hcl := Lg.cut_len hc
    have hcs := Lg.cut_some hc
    have HP := Lib.hid hcs.2.2
    have HCL := Lib.hid hcl
    have HZ := Lib.hid (HK0.out.kept hb2)
    have HY := Lib.hid (HK1.out.kept hb2)
    have HB2 := Lib.hid (below_next HB1.out hb2 HB1.out.size)
    have HS2 := Lib.hid hs2
    have HI := Lib.hid (refInts_any A2 p.length c2 p w2 hs2.rd hs2.1 hs2.2.1 (by have := HP.out; omega))
    clear hc hb2 hs2 hcl hcs HNX HK0 HK1
    go_wp2_with fail
    refine HI.out.mono ?_
    rintro e w3 ⟨hb3, ⟨hz, rfl⟩ | ⟨hz, A4, n4, c4, rfl, ho4⟩⟩
    · have HAR := Lib.hid (Lg.good_none (Lg.area_bad HC.out (.inl hz)))
      have hne : ((((intsN p).1 : Nat) : Int) != 0) = true := by rw [bne_iff_ne]; omega
      have HZ3 := Lib.hid (HZ.out.kept hb3)
      have HB3 := Lib.hid (below_next HB2.out hb3 HB2.out.size)
      obtain ⟨q0, q1, q2, q3, q4, q5, q6, q7, q8⟩ := (HY.out.kept hb3).nine
      obtain ⟨z0, z1, z2, z3, z4, z5, z6, z7, z8⟩ := (HZ.out.kept hb3).nine
      obtain ⟨u0, u1, u2, u3, u4, u5, u6, u7, u8⟩ := (HZ.out.kept hb3).nine_free
      clear hb3 hz
      go_wp2_with fail
      go_quiet (fail)
      go_wp2_with fail
      refine bodyPost_ret_by (results_row_tmp2 rfl _ _ w.heap.size 39 _ _ rfl (nine_set (HZ3.out.drewN _) _ _ _ _ _ _ _ _ _) Tryd.underlying39 rfl info_log5) rfl ?_
      exact area_r0 (g := 0) (n := 0) (k := 0) (nine_below (below_drewN HB3.out _) (Nat.le_refl _) _ _ _ _ _ _ _ _ _) HAR.out
    · have hl4 := ho4.len
      have HZ3 := Lib.hid (HZ.out.kept hb3)
      have HY3 := Lib.hid (HY.out.kept hb3)
      have HB3 := Lib.hid (below_next HB2.out hb3 HB2.out.size)
      have HS3 := Lib.hid (HS2.out.below hb3)
      obtain ⟨q0, q1, q2, q3, q4, q5, q6, q7, q8⟩ := HY3.out.nine
      obtain ⟨z0, z1, z2, z3, z4, z5, z6, z7, z8⟩ := HZ3.out.nine
      obtain ⟨u0, u1, u2, u3, u4, u5, u6, u7, u8⟩ := HZ3.out.nine_free
      by_cases h2 : n4 = 2
      · subst h2
        obtain ⟨g, l, hgl, hg, hl⟩ := ints_two p hz hl4
        rw [hgl] at ho4
        have HG := Lib.hid hg
        have HLL := Lib.hid hl
        have HRES := Lib.hid (Lg.area_two HC.out hgl)
        obtain ⟨gi, cap, hv, hge, hlt⟩ := ho4.form (by omega)
        have HGI := Lib.hid (show w.heap.size + 1 < gi from Nat.lt_of_lt_of_le HY.out.lt hge)
        have hA4 : A4 = some ⟨gi, 0, none⟩ := by injection hv
        subst hA4
        obtain ⟨gz, hgz⟩ : ∃ gz : Int, gz = (g : Int) := ⟨_, rfl⟩
        have i0 : w3.cell? ⟨gi, 0, none⟩ = some (.int .i64 gz) := by
          have := ho4.cells (g := gi) rfl 0 (.int .i64 (g : Int)) rfl
          rw [hgz]
          simpa [at_add] using this
        have HGZ := Lib.hid hgz
        have i1 : w3.cell? ⟨gi, 1, none⟩ = some (.int .i64 (l : Int)) := by
          have := ho4.cells (g := gi) rfl 1 (.int .i64 (l : Int)) rfl
          simpa [at_add] using this
        have HLI := Lib.hid (show gi < w3.heap.size from hlt)
        clear hb3 hz hl4 ho4 hv hge hlt hgl hg hl hgz HI HS2 HZ HY
        by_cases hg1 : 1 ≤ g
        · have HG1 := Lib.hid hg1
          have y1 : ¬ gz < 1 := by have := HGZ.out; omega
          have y2 : decide (gz < 1) = false := decide_eq_false y1
          have hsl := slice_h A n c (b.length - r.length) (by have := HL.out; have := HA.out.1; omega) HA.out.2.1
          obtain ⟨a0, ha0⟩ : ∃ a0, a0 = b.length - r.length := ⟨_, rfl⟩
          rw [← ha0] at hsl ⊢
          have HA0 := Lib.hid ha0
          have HFR := Lib.hid (show ∀ W, Below w3.heap.size w3 W → Calls Tryd.prog 43 #[.int .i64 gz, .int .i64 0, .slice A2 p.length c2] W (fun e w' => ∃ A5 n5 c5, e = .returned (.slice A5 n5 c5) ∧ OwnB w' w3.heap.size A5 n5 c5 (Lg.frame g 0 p) ∧ Below w3.heap.size w3 w') from fun W hW => by
            rw [HGZ.out]
            exact (refFrame g 0 A2 p.length c2 p W (HS3.out.rd.below hW) (by have := HP.out; omega) HG.out (by omega)).mono fun e w' ⟨A5, n5, c5, he, ho, hb⟩ => ⟨A5, n5, c5, he, ho.more hW.size, below_next hW hb hW.size⟩)
          have HSB := Lib.hid (show ∀ A5 n5 c5 W, Below w3.heap.size w3 W → OwnB W w3.heap.size A5 n5 c5 (Lg.frame g 0 p) → Calls Tryd.prog 34 #[.slice A5 n5 c5, .slice A a0 c] W (fun e w' => e = .returned (.bool (decide (s = Lg.dig g 0 p))) ∧ Below w3.heap.size w3 w') from fun A5 n5 c5 W hW ho => by
            have hx := sameBytes_any A5 A n5 a0 c5 c W (Lg.frame g 0 p) (b.take a0) ho.rd (by rw [List.map_take]; exact (((HA.out.below HB3.out).below hW).rd.front (by have := HL.out; omega))) (by have := own_cap ho; omega)
            rw [show decide (Lg.frame g 0 p = b.take a0) = decide (s = Lg.dig g 0 p) by rw [ha0]; exact decide_eq_decide.2 (HFI.out g 0)] at hx
            exact hx.mono fun e w' ⟨he, m, hw⟩ => ⟨he, by rw [hw]; exact below_drewN hW m⟩)
          have hw := Below.refl w3.heap.size w3
          clear hg1 ha0
          cases hd : decide (s = Lg.dig g 0 p)
          · rw [hd] at HSB
            have HAR := Lib.hid (show Lg.good b = none from Lg.good_none (by rw [HRES.out, if_neg (by simpa using hd)]))
            clear hd q0 q1 q2 q3 q4 q5 q6 q7 q8 z0 z1 z2 z3 z4 z5 z6 z7 z8 u0 u1 u2 u3 u4 u5 u6 u7 u8
            go_wp2_with fail
            go_region_held3 (fun w' => w'.cell? ⟨gi, 0, none⟩ = some (.int .i64 gz)) (first | go_keep | exact i0 | exact (hw.cell (p := ⟨gi, 0, none⟩) HLI.out).trans i0)
              (first
                | (go_at_call 43; with_reducible refine (HFR.out _ ?_).mono ?_
                   focus first | with_reducible exact hw | with_reducible exact below_drew hw
                   rintro e w4 ⟨A5, n5, c5, rfl, fo, hw'⟩
                   replace hw := hw'
                   clear hw')
                | (go_at_call 34; with_reducible refine (HSB.out _ _ _ _ ?_ ?_).mono ?_
                   focus first | with_reducible exact hw | with_reducible exact below_drew hw
                   focus first | with_reducible exact fo | exact fo
                   rintro e w5 ⟨rfl, hw'⟩
                   replace hw := hw'
                   clear hw'))
            clear i0
            have HB4 := Lib.hid (below_next HB3.out hw HB3.out.size)
            have HZ4 := Lib.hid (HZ3.out.kept hw)
            obtain ⟨q0, q1, q2, q3, q4, q5, q6, q7, q8⟩ := (HY3.out.kept hw).nine
            obtain ⟨z0, z1, z2, z3, z4, z5, z6, z7, z8⟩ := (HZ3.out.kept hw).nine
            obtain ⟨u0, u1, u2, u3, u4, u5, u6, u7, u8⟩ := (HZ3.out.kept hw).nine_free
            clear hw
            go_wp2_with fail
            refine bodyPost_ret_by (results_row_tmp2 rfl _ _ w.heap.size 39 _ _ rfl (nine_set HZ4.out _ _ _ _ _ _ _ _ _) Tryd.underlying39 rfl info_log5) rfl ?_
            exact area_r0 (g := 0) (n := 0) (k := 0) (nine_below HB4.out (Nat.le_refl _) _ _ _ _ _ _ _ _ _) HAR.out
          · have hde : s = Lg.dig g 0 p := by simpa using hd
            exact absurd ⟨_, by rw [HRES.out, if_pos hde], HG1.out⟩ H0.out
        · have y1 : gz < 1 := by have := HGZ.out; omega
          have y2 : decide (gz < 1) = true := decide_eq_true y1
          have HAR := Lib.hid (show Lg.good b = none by
            unfold Lg.good
            rw [HRES.out]
            split
            · simp only [Option.bind_some]; rw [if_neg (fun h => hg1 h.1)]
            · rfl)
          clear hg1
          go_wp2_with fail
          go_quiet (fail)
          go_wp2_with fail
          refine bodyPost_ret_by (results_row_tmp2 rfl _ _ w.heap.size 39 _ _ rfl (nine_set (HZ3.out.drewN _) _ _ _ _ _ _ _ _ _) Tryd.underlying39 rfl info_log5) rfl ?_
          exact area_r0 (g := 0) (n := 0) (k := 0) (nine_below (below_drewN HB3.out _) (Nat.le_refl _) _ _ _ _ _ _ _ _ _) HAR.out
      · have HAR := Lib.hid (Lg.good_none (Lg.area_bad HC.out (.inr (by omega))))
        have hne : ((n4 : Int) != 2) = true := by rw [bne_iff_ne]; omega
        clear hb3 hz hl4 h2 ho4
        go_wp2_with fail
        go_quiet (fail)
        go_wp2_with fail
        refine bodyPost_ret_by (results_row_tmp2 rfl _ _ w.heap.size 39 _ _ rfl (nine_set (HZ3.out.drewN _) _ _ _ _ _ _ _ _ _) Tryd.underlying39 rfl info_log5) rfl ?_
        exact area_r0 (g := 0) (n := 0) (k := 0) (nine_below (below_drewN HB3.out _) (Nat.le_refl _) _ _ _ _ _ _ _ _ _) HAR.out
end Go.Proofs.YtmiejaohkgemnaaDoor
