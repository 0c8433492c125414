/-
  The program's Add, Sync, Lay and Laid. Walks; no statement.
-/
import Derived.Test.YtmiejaohkgemnaaDoorLogDev5
import Derived.Deep.RegionHeld3
import Derived.StillTailTactics
namespace Go.Proofs.YtmiejaohkgemnaaDoor
open Go.RowKit
open Pk Sh
set_option linter.unusedVariables false
set_option maxRecDepth 100000

/-- the log in block g, on the disk in block gd, is L; all the disk's blocks lie in F -/
structure Lo (w : World) (F : Nat → Prop) (gd g : Nat) (L : Lg.PL) : Prop where
  dk : Dk w F gd L.D
  bk : Bk w g 77 (logC gd L.a L.gen L.n L.list.length)
  off : ¬ F g
  tab : Tab w
  nz : ¬ F 0
  g0 : g ≠ 0
/-- what a call on a log answers, and leaves -/
def LDid (F : Nat → Prop) (gd g : Nat) (r : Lg.PL × Int) (w : World) (e : Ending) (w' : World) : Prop :=
  e = .returned (.int .i64 r.2) ∧ ∃ F', Lo w' F' gd g r.1 ∧ (∀ i, F' i → F i ∨ w.heap.size ≤ i) ∧ Chg (fun i => F i ∨ i = g) w w'
theorem long_longs (ls : List (List UInt8)) : long ls = Lg.longs ls := rfl
theorem Lo.kept {w w' : World} {F : Nat → Prop} {gd g : Nat} {L : Lg.PL} (h : Lo w F gd g L) (hb : Below w.heap.size w w') : Lo w' F gd g L :=
  ⟨h.dk.kept hb, h.bk.kept hb, h.off, h.tab.still hb, h.nz, h.g0⟩
theorem LDid.none {F : Nat → Prop} {gd g : Nat} {L : Lg.PL} {n : Int} {w w' : World} (h : Lo w F gd g L) (hb : Below w.heap.size w w') : LDid F gd g (L, n) w (.returned (.int .i64 n)) w' :=
  ⟨rfl, F, h.kept hb, fun _ => .inl, Chg.of_below _ hb⟩
/-- behind a call on the log's disk -/
theorem Lo.turn {w w' : World} {F F' : Nat → Prop} {gd g : Nat} {L : Lg.PL} {D : PD} (h : Lo w F gd g L) (hd : Dk w' F' gd D) (hF : ∀ i, F' i → F i ∨ w.heap.size ≤ i) (hc : Chg F w w') : Lo w' F' gd g ⟨D, L.a, L.gen, L.n, L.list⟩ :=
  ⟨hd, hc.bk h.bk h.off, fun hf => (hF g hf).elim h.off (fun q => by have := h.bk.lt; omega), h.tab.chg hc h.nz, fun hf => (hF 0 hf).elim h.nz (fun q => by have := h.tab.1; omega), h.g0⟩
theorem laid_any (gd g : Nat) (L : Lg.PL) (F : Nat → Prop) (w : World) (h : Lo w F gd g L) : Calls Tryd.prog 29 #[.pointer (some ⟨g, 0, none⟩)] w (fun e w' => e = .returned (.int .i64 L.n) ∧ w' = w) := by
  obtain ⟨k0, k1, k2, k3, k4⟩ := Bk.five h.bk
  clear h
  go_enter Tryd.func29, Tryd.ntmps29
  go_wp2_with fail
  go_ret
  exact ⟨rfl, rfl⟩
set_option maxHeartbeats 1600000 in
theorem lay_any (gd g : Nat) (L : Lg.PL) (F : Nat → Prop) (B : Option Addr) (q c : Nat) (ls : List (List UInt8)) (w : World) (h : Lo w F gd g L) (hr : RowsOff w F B q ls)
    (ha : 0 ≤ L.a ∧ L.a ≤ 1) (hg : L.gen + 1 < 4611686018427387904) (hq : q ≤ 4294967295)
    (b0 : L.D.d0.length + (Lg.whole (L.gen + 1) ls.length ls).length ≤ 1099511627776) (b1 : L.D.d1.length + (Lg.whole (L.gen + 1) ls.length ls).length ≤ 1099511627776) :
    Calls Tryd.prog 21 #[.pointer (some ⟨g, 0, none⟩), .slice B q c] w (LDid F gd g (L.lay ls) w) := by
  have HH := Lib.hid h
  have HLQ := Lib.hid (show ls.length = q from hr.1)
  have HS := Lib.hid (someLong_any B q c ls w hr.rd (by simp only [maxLen]; omega))
  rw [long_longs] at HS
  obtain ⟨r, hres⟩ : ∃ r, r = L.lay ls := ⟨_, rfl⟩
  rw [← hres]
  have HRES := Lib.hid hres
  cases hl : Lg.longs ls
  · have hlo := Lg.longs_false hl
    rw [hl] at HS
    have hbg := logBegin g gd (1 - L.a) (L.gen + 1) B q c ls L.D F _ _ _ _ w h.bk h.dk h.off hr hlo h.tab h.nz hg hq b0 b1
    rw [show ((L.gen + 1 : Nat) : Int) = (L.gen : Int) + 1 by omega] at hbg
    have hbd : Below w.heap.size w w.drew := below_drew (Below.refl _ _)
    have hbg := logBegin g gd (1 - L.a) (L.gen + 1) B q c ls L.D F _ _ _ _ w.drew (h.bk.kept hbd) (h.dk.kept hbd) h.off (hr.below hbd) hlo (h.tab.still hbd) h.nz hg hq b0 b1
    rw [show ((L.gen + 1 : Nat) : Int) = (L.gen : Int) + 1 by omega] at hbg
    have HBG := Lib.hid hbg
    have HLG := Lib.hid hl
    obtain ⟨k0, k1, k2, k3, k4⟩ := Bk.five h.bk
    have w1 : IntKind.i64.wrap (1 - L.a) = 1 - L.a := by simp only [IntKind.wrap, IntKind.bits, IntKind.signed]; simp; omega
    have w2 : IntKind.i64.wrap ((L.gen : Int) + 1) = (L.gen : Int) + 1 := by simp only [IntKind.wrap, IntKind.bits, IntKind.signed]; simp; omega
    clear h hr ha hg hq b0 b1 hl hlo hbg hres
    go_enter Tryd.func21, Tryd.ntmps21
    go_wp2_with fail
    refine HS.out.mono ?_
    rintro e w1 ⟨rfl, rfl⟩
    go_wp2_with fail
    go_still_tail 14, (by kernel_rfl)
    change wpList _ _ _ _ _ w.drew
    go_wp2_with fail
    refine HBG.out.mono ?_
    rintro e w3 ⟨rfl, F3, hd3, hF3, hz3, hn3, hc3⟩
    have HX := Lib.hid (show LDid F gd g r w (.returned (.int .i64 (Lg.lay L.D (1 - L.a) (L.gen + 1) ls).2)) w3 by
      have hoff : ¬ F3 g := fun hf => (hF3 g hf).elim HH.out.off (fun h => by have h1 := HH.out.bk.lt; have h2 : w.heap.size ≤ g := h; omega)
      have hnz : ¬ F3 0 := fun hf => (hF3 0 hf).elim HH.out.nz (fun h => by have h1 := HH.out.tab.1; have h2 : w.heap.size ≤ 0 := h; omega)
      have hcw : Chg (fun i => F i ∨ i = g) w w3 := ⟨hc3.os, hc3.tape, hc3.output, hc3.size, hc3.block⟩
      have htb : Tab w3 := HH.out.tab.chg hcw (fun h => h.elim HH.out.nz (fun e => HH.out.g0 e.symm))
      by_cases hz : (Lg.lay L.D (1 - L.a) (L.gen + 1) ls).2 = 0
      · have hr : r = (⟨(Lg.lay L.D (1 - L.a) (L.gen + 1) ls).1, 1 - L.a, L.gen + 1, ls.length, ls⟩, 0) := by rw [HRES.out]; unfold Lg.PL.lay; rw [HLG.out, if_neg (by simp), if_pos hz]
        refine ⟨by rw [hr, hz], F3, ?_, hF3, hcw⟩
        rw [hr]
        exact ⟨hd3, by have := hz3 hz; rw [← HLQ.out] at this; exact this, hoff, htb, hnz, HH.out.g0⟩
      · have hr : r = (⟨(Lg.lay L.D (1 - L.a) (L.gen + 1) ls).1, L.a, L.gen, L.n, L.list⟩, (Lg.lay L.D (1 - L.a) (L.gen + 1) ls).2) := by rw [HRES.out]; unfold Lg.PL.lay; rw [HLG.out, if_neg (by simp), if_neg hz]
        refine ⟨by rw [hr], F3, ?_, hF3, hcw⟩
        rw [hr]
        exact ⟨hd3, hn3 hz, hoff, htb, hnz, HH.out.g0⟩)
    clear hd3 hF3 hz3 hn3 hc3
    go_wp2_with fail
    go_ret
    exact HX.out
  · rw [hl] at HS
    have HR := Lib.hid (show r = (L, 13) by rw [hres]; unfold Lg.PL.lay; rw [hl]; rfl)
    rw [HR.out]
    clear h hr ha hg hq b0 b1 hl hres
    go_enter Tryd.func21, Tryd.ntmps21
    go_wp2_with fail
    refine HS.out.mono ?_
    rintro e w1 ⟨rfl, rfl⟩
    go_wp2_with fail
    go_ret
    exact LDid.none HH.out (Below.refl _ _)
set_option maxHeartbeats 1600000 in
theorem sync_log (gd g : Nat) (L : Lg.PL) (F : Nat → Prop) (w : World) (h : Lo w F gd g L) : Calls Tryd.prog 19 #[.pointer (some ⟨g, 0, none⟩)] w (LDid F gd g L.sync w) := by
  have HH := Lib.hid h
  obtain ⟨k0, k1, k2, k3, k4⟩ := Bk.five h.bk
  have HSY := Lib.hid (show ∀ W A n c, Below w.heap.size w W → (∀ w', Chg F W w' → Rd w' A n [.int .i64 L.a]) → n ≤ maxLen → Calls Tryd.prog 32 #[.pointer (some ⟨gd, 0, none⟩), .slice A n c] W (fun e w' => e = .returned (.int .i64 (L.D.sync [L.a]).2) ∧ (LDid F gd g L.sync w e w' ∧ Bk w' g 77 (logC gd L.a L.gen L.n L.list.length))) from fun W A n c hW hr hm =>
    (disk_sync gd L.D F A n c [L.a] W (h.dk.kept hW) hr hm).mono fun e w' ⟨he, F', hd, hF, hc⟩ => ⟨he, ⟨he, F', (h.kept hW).turn hd hF hc, fun i hi => (hF i hi).imp id (fun q => Nat.le_trans hW.size q), (Chg.of_below _ hW).same (hc.more (fun i hi => .inl (.inl hi)))⟩, hc.bk (h.bk.kept hW) h.off⟩)
  obtain ⟨r, hr⟩ : ∃ r, r = L.sync := ⟨_, rfl⟩
  rw [← hr] at HSY ⊢
  clear h hr
  go_enter Tryd.func19, Tryd.ntmps19
  go_wp2_with fail
  have hw := Below.refl w.heap.size w
  go_region_held3 (fun w' => (w'.cell? ⟨g, 0, none⟩ = some (.pointer (some ⟨gd, 0, none⟩)) ∧ w'.cell? ⟨g, 1, none⟩ = some (.int .i64 L.a))) (first | go_keep | exact ⟨k0, k1⟩ | exact ⟨KA.out.five.1, KA.out.five.2.1⟩)
    (first
      | (go_at_call 32; with_reducible refine (HSY.out _ _ _ _ ?_ ?_ ?_).mono ?_
         focus exact below_drew (hw.alloc (Nat.le_refl _) _)
         focus exact fun w' hc => hc.rd (Rd.new w [.int .i64 L.a] 3) (fun b e _ hf => by injection e with e; subst e; exact absurd (HH.out.dk.lt _ hf) (Nat.lt_irrefl _))
         focus simp [maxLen]
         rintro e w3 ⟨rfl, hx, hk⟩
         have HX := Lib.hid hx
         have KA := Lib.hid hk
         clear hx hk))
  all_goals
    go_wp2_with fail
    go_ret
    exact HX.out
end Go.Proofs.YtmiejaohkgemnaaDoor
