/-
  The program's Add and Records. Walks; no statement.
-/
import Derived.Test.YtmiejaohkgemnaaDoorLogDev6
namespace Go.Proofs.YtmiejaohkgemnaaDoor
open Go.RowKit
open Pk Sh
set_option linter.unusedVariables false
set_option maxRecDepth 100000

set_option maxHeartbeats 1600000 in
theorem add_any (gd g : Nat) (L : Lg.PL) (F : Nat → Prop) (B : Option Addr) (q c : Nat) (ls : List (List UInt8)) (w : World) (h : Lo w F gd g L) (hr : RowsOff w F B q ls)
    (hg : L.gen < 4611686018427387904) (hq : q ≤ 2147483647) (hc : L.list.length ≤ 2147483647)
    (b0 : L.D.d0.length + (Lg.frames L.gen (L.list.length + 1) ls).length ≤ 1099511627776) (b1 : L.D.d1.length + (Lg.frames L.gen (L.list.length + 1) ls).length ≤ 1099511627776) :
    Calls Tryd.prog 17 #[.pointer (some ⟨g, 0, none⟩), .slice B q c] w (LDid F gd g (L.add ls) w) := by
  have HH := Lib.hid h
  have HLQ := Lib.hid (show ls.length = q from hr.1)
  have HS := Lib.hid (someLong_any B q c ls w hr.rd (by simp only [maxLen]; omega))
  rw [long_longs] at HS
  obtain ⟨r, hres⟩ : ∃ r, r = L.add ls := ⟨_, rfl⟩
  rw [← hres]
  have HRES := Lib.hid hres
  cases hl : Lg.longs ls
  · have hlo := Lg.longs_false hl
    rw [hl] at HS
    have HLG := Lib.hid hl
    by_cases hq0 : q = 0
    · have HR := Lib.hid (show r = (L, 0) by rw [hres]; unfold Lg.PL.add; rw [hl, if_neg (by simp), if_pos (by rw [HLQ.out]; exact hq0)])
      rw [HR.out]
      have y1 : ((q : Int) == 0) = true := by simp [hq0]
      clear h hr hg hq hc b0 b1 hl hres hlo hq0
      go_enter Tryd.func17, Tryd.ntmps17
      go_wp2_with fail
      refine HS.out.mono ?_
      rintro e w1 ⟨rfl, rfl⟩
      go_wp2_with fail
      go_ret
      exact LDid.none HH.out (Below.refl _ _)
    · have y1 : ((q : Int) == 0) = false := by simp; omega
      have hrr : RowsOff w F B q ls := hr
      have HFR := Lib.hid (show ∀ W, Below w.heap.size w W → Calls Tryd.prog 41 #[.int .i64 L.gen, .int .i64 ((L.list.length : Int) + 1), .slice B q c] W (fun e w' => ∃ A n c', e = .returned (.slice A n c') ∧ (RowsOff w' F A n (Lg.partsN L.gen (L.list.length + 1) ls) ∧ Below w.heap.size w w')) from fun W hW => by
        have := frames_any L.gen (L.list.length + 1) B q c ls F W (hr.below hW) (fun i hi => Nat.lt_of_lt_of_le (h.dk.lt i hi) hW.size) (h.tab.still hW) hlo (by omega) hg (by omega)
        rw [show ((L.list.length + 1 : Nat) : Int) = (L.list.length : Int) + 1 by omega] at this
        exact this.mono fun e w' ⟨A, n, c', he, ho, hb⟩ => ⟨A, n, c', he, ho, below_next hW hb hW.size⟩)
      have HAP := Lib.hid (show ∀ W A n c, Below w.heap.size w W → RowsOff W F A n (Lg.partsN L.gen (L.list.length + 1) ls) → Calls Tryd.prog 30 #[.pointer (some ⟨gd, 0, none⟩), .int .i64 L.a, .slice A n c] W (fun e w' => e = .returned (.int .i64 (L.D.append L.a [Lg.frames L.gen (L.list.length + 1) ls]).2) ∧ ((∃ F', Dk w' F' gd (L.D.append L.a [Lg.frames L.gen (L.list.length + 1) ls]).1 ∧ (∀ i, F' i → F i ∨ w.heap.size ≤ i) ∧ Chg F w w') ∧ Bk w' g 77 (logC gd L.a L.gen L.n L.list.length))) from fun W A n c hW hR => by
        have hn : n = 3 * q := by rw [← hR.1, Lg.partsN_len, HLQ.out]
        have := disk_append gd L.a L.D F A n c _ W (h.dk.kept hW) hR.rds (by rw [Lg.partsN_flat]; exact b0) (by rw [Lg.partsN_flat]; exact b1) (by omega)
        rw [PD.append_flat, Lg.partsN_flat] at this
        exact this.mono fun e w' ⟨he, F', hd, hF, hcg⟩ => ⟨he, ⟨F', hd, fun i hi => (hF i hi).imp id (fun q => Nat.le_trans hW.size q), Chg.behind hW hcg⟩, hcg.bk (h.bk.kept hW) h.off⟩)
      obtain ⟨U, hU⟩ : ∃ U, U = L.D.append L.a [Lg.frames L.gen (L.list.length + 1) ls] := ⟨_, rfl⟩
      rw [← hU] at HAP
      have HU := Lib.hid hU
      obtain ⟨k0, k1, k2, k3, k4⟩ := Bk.five h.bk
      have HQ0 := Lib.hid hq0
      have w1' : IntKind.i64.wrap ((L.list.length : Int) + 1) = (L.list.length : Int) + 1 := by simp only [IntKind.wrap, IntKind.bits, IntKind.signed]; simp; omega
      have w2' : IntKind.i64.wrap ((L.list.length : Int) + (q : Int)) = ((L.list.length + q : Nat) : Int) := by simp only [IntKind.wrap, IntKind.bits, IntKind.signed]; simp; omega
      clear h hr hg hq hc b0 b1 hl hres hlo hq0 hrr hU
      go_enter Tryd.func17, Tryd.ntmps17
      go_wp2_with fail
      refine HS.out.mono ?_
      rintro e w1 ⟨rfl, rfl⟩
      go_wp2_with fail
      have hw := Below.refl w.heap.size w
      go_region_held3 (fun w' => ((w'.cell? ⟨g, 0, none⟩ = some (.pointer (some ⟨gd, 0, none⟩)) ∧ w'.cell? ⟨g, 1, none⟩ = some (.int .i64 L.a)) ∧ w'.cell? ⟨g, 2, none⟩ = some (.int .i64 L.gen)) ∧ w'.cell? ⟨g, 4, none⟩ = some (.int .i64 L.list.length)) (first | go_keep | exact ⟨⟨⟨k0, k1⟩, k2⟩, k4⟩ | exact ⟨⟨⟨KB.out.five.1, KB.out.five.2.1⟩, KB.out.five.2.2.1⟩, KB.out.five.2.2.2.2⟩ | exact ⟨⟨⟨KA.out.five.1, KA.out.five.2.1⟩, KA.out.five.2.2.1⟩, KA.out.five.2.2.2.2⟩)
        (first
          | (go_at_call 41; with_reducible refine (HFR.out _ ?_).mono ?_
             focus first | with_reducible exact hw | with_reducible exact below_drew hw
             rintro e w2 ⟨A2, n2, c2, rfl, hx⟩
             have HX := Lib.hid hx.1
             have KB := Lib.hid (HH.out.bk.kept hx.2)
             replace hw := hx.2
             clear hx)
          | (go_at_call 30; with_reducible refine (HAP.out _ _ _ _ ?_ ?_).mono ?_
             focus first | with_reducible exact hw | with_reducible exact below_drew hw
             focus first | with_reducible exact HX.out | exact HX.out
             rintro e w3 ⟨rfl, hd, hk⟩
             have HD := Lib.hid hd
             have KA := Lib.hid hk
             clear hd hk))
      all_goals
        obtain ⟨F3, hd3, hF3, hc3⟩ := HD.out
        have HD3 := Lib.hid hd3
        have HF3 := Lib.hid hF3
        have HC3 := Lib.hid hc3
        obtain ⟨q0, q1, q2, q3, q4⟩ := Bk.five KA.out
        have u4 := KA.out.frozen 4
        clear hd3 hF3 hc3 k0 k1 k2 k3 k4
        by_cases hu : U.2 = 0
        · have HR := Lib.hid (show r = (⟨U.1, L.a, L.gen, L.n, L.list ++ ls⟩, 0) by rw [HRES.out]; unfold Lg.PL.add; rw [HLG.out, if_neg (by simp), if_neg (by rw [HLQ.out]; exact HQ0.out), ← HU.out, if_pos hu])
          rw [hu]
          clear hu
          go_wp2_with fail
          go_ret
          rw [HR.out]
          have hch : Chg (fun i => F i ∨ i = g) w3 (w3.setCell ⟨g, 4, none⟩ (.int .i64 ((L.list.length + q : Nat) : Int))) := (Chg.refl (fun i => F i ∨ i = g) w3).set (.inl (.inr rfl)) 4 _
          have hcg : Chg (fun i => i = g) w3 (w3.setCell ⟨g, 4, none⟩ (.int .i64 ((L.list.length + q : Nat) : Int))) := (Chg.refl (fun i => i = g) w3).set (.inl rfl) 4 _
          have hlo := (HH.out.turn HD3.out HF3.out HC3.out)
          refine ⟨rfl, F3, ⟨HD3.out.keep hcg (fun i hi e => hlo.off (e ▸ hi)), ?_, hlo.off, hlo.tab.chg hcg (fun e => hlo.g0 e.symm), hlo.nz, hlo.g0⟩, HF3.out, (HC3.out.more (fun i hi => .inl (.inl hi))).same hch⟩
          have := KA.out.set 4 (.int .i64 ((L.list.length + q : Nat) : Int))
          simp only [logC, List.length_append, HLQ.out]
          simpa [logC] using this
        · have HR := Lib.hid (show r = (⟨U.1, L.a, L.gen, L.n, L.list⟩, U.2) by rw [HRES.out]; unfold Lg.PL.add; rw [HLG.out, if_neg (by simp), if_neg (by rw [HLQ.out]; exact HQ0.out), ← HU.out, if_neg hu])
          have y2 : (U.2 == 0) = false := by rw [beq_eq_false_iff_ne]; exact hu
          clear hu
          go_wp2_with fail
          go_ret
          rw [HR.out]
          exact ⟨rfl, F3, HH.out.turn HD3.out HF3.out HC3.out, HF3.out, HC3.out.more (fun i hi => .inl (.inl hi))⟩
  · rw [hl] at HS
    have HR := Lib.hid (show r = (L, 13) by rw [hres]; unfold Lg.PL.add; rw [hl]; rfl)
    rw [HR.out]
    clear h hr hg hq hc b0 b1 hl hres
    go_enter Tryd.func17, Tryd.ntmps17
    go_wp2_with fail
    refine HS.out.mono ?_
    rintro e w1 ⟨rfl, rfl⟩
    go_wp2_with fail
    go_ret
    exact LDid.none HH.out (Below.refl _ _)
end Go.Proofs.YtmiejaohkgemnaaDoor
