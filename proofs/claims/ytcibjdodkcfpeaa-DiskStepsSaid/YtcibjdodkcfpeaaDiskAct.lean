/-
  The laws' own 'act': a call of a script on the disk. Walks; no statement.
-/
import Derived.Test.YtcibjdodkcfpeaaDiskCrash
import Derived.Test.YtcibjdodkcfpeaaConsts
namespace Go.Proofs.Ytcibjdodkcfpeaa
open Go.RowKit
set_option linter.unusedVariables false

theorem Did.behind {F : Nat → Prop} {g : Nat} {r : PD × Int} {W w w' : World} {e : Ending} (hW : Below W.heap.size W w) (h : Did F g r w e w') : Did F g r W e w' := by
  obtain ⟨he, F', hd, hF, hc⟩ := h
  exact ⟨he, F', hd, fun i hi => (hF i hi).imp id (fun q => Nat.le_trans hW.size q), Chg.behind hW hc⟩
theorem Chg.sl {F : Nat → Prop} {w w' : World} {A : Option Addr} {n c : Nat} {l : List UInt8} (h : Chg F w w') (hs : Sl w A n c l) (hA : ∀ a, A = some a → ¬ F a.block) : Sl w' A n c l :=
  ⟨hs.1, hs.2.1, h.rd hs.2.2.1 (fun a e _ => hA a e), hs.2.2.2⟩
theorem rows_of_1 {w : World} {X : Option Addr} {B : Option Addr} {n c : Nat} {l : List UInt8} (hr : Rd w X 1 [.slice B n c]) (hs : Sl w B n c l) : RdRows w X 1 [l] := by
  refine ⟨rfl, [.slice B n c], hr, fun k u x hu hx => ?_⟩
  match k, hu, hx with
  | 0, hu, hx =>
    simp only [List.getElem?_cons_zero, Option.some.injEq] at hu hx
    subst hu hx
    exact hs.row
theorem rows_of_2 {w : World} {X : Option Addr} {B B' : Option Addr} {n c n' c' : Nat} {l l' : List UInt8} (hr : Rd w X 2 [.slice B n c, .slice B' n' c']) (hs : Sl w B n c l) (hs' : Sl w B' n' c' l') : RdRows w X 2 [l, l'] := by
  refine ⟨rfl, [.slice B n c, .slice B' n' c'], hr, fun k u x hu hx => ?_⟩
  match k, hu, hx with
  | 0, hu, hx =>
    simp only [List.getElem?_cons_zero, Option.some.injEq] at hu hx
    subst hu hx
    exact hs.row
  | 1, hu, hx =>
    simp only [List.getElem?_cons_succ, List.getElem?_cons_zero, Option.some.injEq] at hu hx
    subst hu hx
    exact hs'.row
/-- a list of one new slice, which a call on the disk leaves as it is -/
theorem stay_1 {F : Nat → Prop} {W : World} {B : Option Addr} {n c base : Nat} {l : List UInt8} (h : Sl W B n c l) (hB : ∀ a, B = some a → base ≤ a.block) (hF : ∀ i, F i → i < base) (hb : base ≤ W.heap.size) :
    ∀ w', Chg F (W.alloc (.cells #[.slice B n c] 28)) w' → RdRows w' (some ⟨W.heap.size, 0, none⟩) 1 [l] := fun w' hc =>
  rows_of_1 (hc.rd (Rd.new W [.slice B n c] _) (fun a e _ hf => by injection e with e; subst e; have h2 : W.heap.size < base := hF _ hf; omega)) (hc.sl (h.alloc _) (fun a e hf => by have := hF _ hf; have := hB a e; omega))
theorem own_block_at {w : World} {base n c : Nat} {A : Option Addr} {l : List UInt8} (h : OwnB w base A n c l) : ∀ a, A = some a → base ≤ a.block := by
  rintro a rfl
  exact h.block a.block rfl
/-- a call of a script -/
def PD.act (P : PD) (o : Call) : PD × Int := if o.what = 1 then P.append o.area o.parts else if o.what = 2 then P.trim o.area o.n else if o.what = 3 then P.sync o.areas else (P, 0)
theorem info_call : (Try.prog.info? 36).map (·.size) = some 5 := by kernel_rfl
set_option maxHeartbeats 1000000 in
theorem act_any (g : Nat) (P : PD) (F : Nat → Prop) (o : Call) (B C : Option Addr) (p pc q qc : Nat) (w : World) (h : Dk w F g P) (hR : RdRows w B p o.parts) (hI : Rd w C q (o.areas.map iv))
    (bp : total o.parts ≤ 1099511627776) (bi : q ≤ 1099511627776) (b0 : P.d0.length + o.parts.flatten.length ≤ 1099511627776) (b1 : P.d1.length + o.parts.flatten.length ≤ 1099511627776) :
    Calls Try.prog 17 #[.pointer (some ⟨g, 0, none⟩), .agg #[.int .i64 o.what, .int .i64 o.area, .int .i64 o.n, .slice B p pc, .slice C q qc]] w (Did F g (P.act o) w) := by
  obtain ⟨wb, hwb⟩ : ∃ wb, wb = w.alloc (.cells #[.int .i64 o.what, .int .i64 o.area, .int .i64 o.n, .slice B p pc, .slice C q qc] 36) := ⟨_, rfl⟩
  have hb : Below w.heap.size w wb := by rw [hwb]; exact (Below.refl _ _).alloc (Nat.le_refl _) _
  have kb : Bk wb w.heap.size 36 [.int .i64 o.what, .int .i64 o.area, .int .i64 o.n, .slice B p pc, .slice C q qc] := by rw [hwb]; exact Bk.new _ _ _
  have HB := Lib.hid hb
  have HKB := Lib.hid kb
  have HH := Lib.hid h
  have HCR := Lib.hid (show ∀ W, Below wb.heap.size wb W → Calls Try.prog 29 #[.slice B p pc] W (fun e w' => ∃ A n c, e = .returned (.slice A n c) ∧ (OwnRs w' w.heap.size A n c o.parts ∧ Below wb.heap.size wb w' ∧ Below W.heap.size W w')) from fun W hW =>
    (copyRows_any B p pc o.parts W ((hR.below hb).below hW) bp).mono fun e w' ⟨A, n, c, he, ho, hbl⟩ => ⟨A, n, c, he, ho.more (Nat.le_trans hb.size hW.size), below_next hW hbl hW.size, hbl⟩)
  have HCI := Lib.hid (show ∀ W, Below wb.heap.size wb W → Calls Try.prog 14 #[.slice C q qc] W (fun e w' => ∃ A c, e = .returned (.slice A q c) ∧ (OwnI w' w.heap.size A q c o.areas ∧ Below wb.heap.size wb w')) from fun W hW =>
    (copyInts_any C q qc o.areas W ((hI.below hb).below hW) bi).mono fun e w' ⟨⟨A, c, he, ho⟩, hbl⟩ => by
      have hl : A = A := rfl
      refine ⟨A, c, ?_, ?_, below_next hW hbl hW.size⟩
      · rw [he]
      · exact ⟨ho.1, by
          rcases ho.2 with hn | ⟨g, cap, cur, e, hg, r⟩
          · exact .inl hn
          · exact .inr ⟨g, cap, cur, e, Nat.le_trans (Nat.le_trans hb.size hW.size) hg, r⟩⟩)
  have HLT := Lib.hid h.lt
  have HAP := Lib.hid (show ∀ W A n c, Below wb.heap.size wb W → OwnRs W w.heap.size A n c o.parts → Calls Try.prog 21 #[.pointer (some ⟨g, 0, none⟩), .int .i64 o.area, .slice A n c] W (fun e w' => e = .returned (.int .i64 (P.append o.area o.parts).2) ∧ (Did F g (P.append o.area o.parts) w e w' ∧ Bk w' w.heap.size 36 [.int .i64 o.what, .int .i64 o.area, .int .i64 o.n, .slice B p pc, .slice C q qc])) from fun W A n c hW ho => by
    have hlen := total_len o.parts
    have hn : o.parts.length = n := ho.1
    refine (disk_append g o.area P F A n c o.parts W ((HH.out.kept HB.out).kept hW) (fun w' hc => (hc.ownRs ho HLT.out).rd) b0 b1 (by omega)).mono fun e w' hd => ⟨hd.1, hd.behind (below_next HB.out hW HB.out.size), ?_⟩
    obtain ⟨_, F', _, _, hc⟩ := hd
    exact hc.bk (HKB.out.kept hW) (fun hf => by have := HLT.out _ hf; omega))
  have HTR := Lib.hid ((disk_trim g o.area o.n P F wb (h.kept hb)).mono fun e w' hd => show e = .returned (.int .i64 (P.trim o.area o.n).2) ∧ Did F g (P.trim o.area o.n) w e w' from ⟨hd.1, hd.behind hb⟩)
  have HSY := Lib.hid (show ∀ W A c, Below wb.heap.size wb W → OwnI W w.heap.size A q c o.areas → Calls Try.prog 19 #[.pointer (some ⟨g, 0, none⟩), .slice A q c] W (fun e w' => e = .returned (.int .i64 (P.sync o.areas).2) ∧ Did F g (P.sync o.areas) w e w') from fun W A c hW ho =>
    (disk_sync g P F A q c o.areas W ((HH.out.kept HB.out).kept hW) (fun w' hc => (hc.owns ho (fun k hk hf => by have := (World.ownsRow.lt ho k hk).1; have := HLT.out _ hf; omega)) |> Rd.own) (by simp only [maxLen]; omega)).mono fun e w' hd => ⟨hd.1, hd.behind (below_next HB.out hW HB.out.size)⟩)
  obtain ⟨t0, t1, t2, t3, t4⟩ := kb.five
  by_cases h1 : o.what = 1
  · have y1 : (o.what == 1) = true := by simp [h1]
    have HR := Lib.hid (show P.act o = P.append o.area o.parts by unfold PD.act; rw [if_pos h1])
    rw [HR.out]
    obtain ⟨r, hr⟩ : ∃ r, r = P.append o.area o.parts := ⟨_, rfl⟩
    rw [← hr] at HAP ⊢
    clear h1 h hR hI hb kb hr HTR HSY HCI
    go_enter Try.func17, Try.ntmps17
    go_wp2_with fail
    rw [← hwb]
    clear hwb
    have hw := Below.refl wb.heap.size wb
    go_region_held3 (fun w' => w'.cell? ⟨w.heap.size, 1, none⟩ = some (.int .i64 o.area) ∧ w'.cell? ⟨w.heap.size, 3, none⟩ = some (.slice B p pc)) (first | go_keep | exact ⟨t1, t3⟩ | exact ⟨KB.out.five.2.1, KB.out.five.2.2.2.1⟩ | exact ⟨KA.five.2.1, KA.five.2.2.2.1⟩)
      (first
        | (go_at_call 29; with_reducible refine (HCR.out _ ?_).mono ?_
           focus first | with_reducible exact hw | with_reducible exact below_drew hw
           rintro e w2 ⟨A2, n2, c2, rfl, hx⟩
           have HX := Lib.hid hx
           have KB := Lib.hid (HKB.out.kept hx.2.1)
           replace hw := hx.2.1
           clear hx)
        | (go_at_call 21; with_reducible refine (HAP.out _ _ _ _ ?_ ?_).mono ?_
           focus first | with_reducible exact hw | with_reducible exact below_drew hw
           focus first | with_reducible exact HX.out.1 | exact HX.out.1
           rintro e w3 ⟨rfl, hd, KA⟩
           have HD := Lib.hid hd
           clear hd))
    all_goals
      go_wp2_with fail
      go_ret
      exact HD.out
  · have y1 : (o.what == 1) = false := by simp [h1]
    by_cases h2 : o.what = 2
    · have y2 : (o.what == 2) = true := by simp [h2]
      have HR := Lib.hid (show P.act o = P.trim o.area o.n by unfold PD.act; rw [if_neg h1, if_pos h2])
      rw [HR.out]
      obtain ⟨r, hr⟩ : ∃ r, r = P.trim o.area o.n := ⟨_, rfl⟩
      rw [← hr] at HTR ⊢
      have HWB := Lib.hid hwb
      clear h1 h2 h hR hI hb kb hr HAP HSY HCI HCR hwb
      go_enter Try.func17, Try.ntmps17
      go_wp2_with fail
      rw [← HWB.out]
      refine HTR.out.mono ?_
      rintro e w3 ⟨rfl, hd⟩
      have HD := Lib.hid hd
      clear hd
      go_wp2_with fail
      go_ret
      exact HD.out
    · have y2 : (o.what == 2) = false := by simp [h2]
      by_cases h3 : o.what = 3
      · have y3 : (o.what == 3) = true := by simp [h3]
        have HR := Lib.hid (show P.act o = P.sync o.areas by unfold PD.act; rw [if_neg h1, if_neg h2, if_pos h3])
        rw [HR.out]
        obtain ⟨r, hr⟩ : ∃ r, r = P.sync o.areas := ⟨_, rfl⟩
        rw [← hr] at HSY ⊢
        have HWB := Lib.hid hwb
        clear h1 h2 h3 h hR hI hb kb hr HAP HTR HCR hwb
        go_enter Try.func17, Try.ntmps17
        go_wp2_with fail
        rw [← HWB.out]
        refine (HCI.out _ (Below.refl _ _)).mono ?_
        rintro e w2 ⟨A2, c2, rfl, ho, hbl⟩
        have HY2 := Lib.hid (HSY.out w2 A2 c2 hbl ho)
        clear ho hbl
        go_wp2_with fail
        refine HY2.out.mono ?_
        rintro e w3 ⟨rfl, hd⟩
        have HD := Lib.hid hd
        clear hd
        go_wp2_with fail
        go_ret
        exact HD.out
      · have y3 : (o.what == 3) = false := by simp [h3]
        have HR := Lib.hid (show P.act o = (P, 0) by unfold PD.act; rw [if_neg h1, if_neg h2, if_neg h3])
        rw [HR.out]
        have HWB := Lib.hid hwb
        clear h1 h2 h3 h hR hI hb kb HAP HTR HCR HSY HCI hwb
        go_enter Try.func17, Try.ntmps17
        go_wp2_with fail
        rw [← HWB.out]
        go_ret
        exact Did.none HH.out HB.out
end Go.Proofs.Ytcibjdodkcfpeaa
