/-
  Watches: Fire, Drop. Walks; no statement.
-/
import Derived.Test.YtbppokdaehaocaaDoorWatchTake
namespace Go.Proofs.YtbppokdaehaocaaDoor
set_option maxRecDepth 100000
open Go.RowKit
set_option linter.unusedVariables false

theorem TakeP.behind {F : Nat → Prop} {g : Nat} {t' xs : List Wt} {w w2 w' : World} {e : Ending} (h : TakeP F g t' xs w2 e w') (hb : Below w.heap.size w w2) : TakeP F g t' xs w e w' := by
  obtain ⟨A, c, F', h1, h2, h3, h4, h5, h6⟩ := h
  exact ⟨A, c, F', h1, h2.more hb.size, h3, fun k hk => (h4 k hk).imp id fun q => Nat.le_trans hb.size q, h5, Chg.behind hb h6⟩
theorem enters_fire : ∀ args w, (callFunc 39 args).run Tryd.prog w = .ok (.enter 39 args) w := enters_of Tryd.func39 (by kernel_rfl) rfl
theorem enters_drop : ∀ args w, (callFunc 41 args).run Tryd.prog w = .ok (.enter 41 args) w := enters_of Tryd.func41 (by kernel_rfl) rfl
theorem pred_fire (b0 b1 : Nat) (kind : Int) (PA : Option Addr) (pn pc : Nat) (ps : List (List UInt8)) (x : Wt) (W : World) (h0 : W.cell? ⟨b0, 0, none⟩ = some (.int .i64 kind)) (h1 : W.cell? ⟨b1, 0, none⟩ = some (.slice PA pn pc)) (hp : RdT W PA pn ps) (hm : pn ≤ maxLen) :
    Calls Tryd.prog 39 #[.agg #[.int .i64 x.client, .int .i64 x.kind, .string ⟨x.path.toArray⟩], .pointer (some ⟨b0, 0, none⟩), .pointer (some ⟨b1, 0, none⟩)] W fun e w' => e = .returned (.bool (wHit kind ps x)) ∧ Below W.heap.size W w' := by
  have hb := (Below.refl W.heap.size W).alloc (Nat.le_refl _) (.cells #[.int .i64 x.client, .int .i64 x.kind, .string ⟨x.path.toArray⟩] 31)
  have g0 := cell_kept h0 hb
  have g1 := cell_kept h1 hb
  have HB := Lib.hid hb
  have HC := Lib.hid (hasText_any PA pn pc ps x.path _ (hp.below hb) hm)
  clear h0 h1 hp hb
  by_cases hk : x.kind = kind
  · have HH := Lib.hid (show wHit kind ps x = decide (x.path ∈ ps) by unfold wHit; simp [hk])
    have hd : (x.kind == kind) = true := by simpa using hk
    clear hk
    rw [HH.out]
    go_enter Tryd.func39, Tryd.ntmps39
    go_wp2_with (go_at_call 40; refine HC.out.mono ?_; rintro e w2 ⟨rfl, rfl⟩)
    go_ret
    exact ⟨rfl, HB.out⟩
  · have HH := Lib.hid (show wHit kind ps x = false by unfold wHit; simp [hk])
    have hd : (x.kind == kind) = false := by simpa using hk
    clear hk
    rw [HH.out]
    go_enter Tryd.func39, Tryd.ntmps39
    go_wp2_with fail
    go_ret
    exact ⟨rfl, HB.out⟩
theorem fire_any (F : Nat → Prop) (g : Nat) (t : List Wt) (kind : Int) (PA : Option Addr) (pn pc : Nat) (ps : List (List UInt8)) (w : World) (hT : TbAt F w g t) (hn : t.length ≤ 1000) (hp : RdT w PA pn ps) (hm : pn ≤ maxLen) :
    Calls Tryd.prog 18 #[.pointer (some ⟨g, 0, none⟩), .int .i64 kind, .slice PA pn pc] w (TakeP F g (wLeft kind ps t) (wFired kind ps t) w) := by
  have hb : Below w.heap.size w ((w.alloc (.cells #[.int .i64 kind] 3)).alloc (.cells #[.slice PA pn pc] 32)) := ((Below.refl w.heap.size w).alloc (Nat.le_refl _) _).alloc (by simp) _
  have k0 : Bk ((w.alloc (.cells #[.int .i64 kind] 3)).alloc (.cells #[.slice PA pn pc] 32)) w.heap.size 3 [.int .i64 kind] := (Bk.new w 3 [.int .i64 kind]).alloc _
  have k1 : Bk ((w.alloc (.cells #[.int .i64 kind] 3)).alloc (.cells #[.slice PA pn pc] 32)) (w.heap.size + 1) 32 [.slice PA pn pc] := bk_new2 w _ [.slice PA pn pc] _
  have HB := Lib.hid hb
  have HK := Lib.hid (take_any 39 #[.pointer (some ⟨w.heap.size, 0, none⟩), .pointer (some ⟨w.heap.size + 1, 0, none⟩)] (wHit kind ps) enters_fire F g t _ (hT.below hb) hn
    (fun x W hW => pred_fire w.heap.size (w.heap.size + 1) kind PA pn pc ps x W ((k0.kept hW).at_ rfl) ((k1.kept hW).at_ rfl) (RdT.below (RdT.below hp hb) hW) hm))
  clear hb k0 k1 hT hn hp hm
  go_enter Tryd.func18, Tryd.ntmps18
  go_wp2_with fail
  refine HK.out.mono ?_
  rintro e w' h
  obtain ⟨A, c, F', rfl, h2⟩ := h.behind HB.out
  go_wp2_with fail
  go_ret
  exact ⟨A, c, F', rfl, h2⟩
theorem pred_drop (b0 : Nat) (CA : Option Addr) (cn cc : Nat) (cs : List Int) (x : Wt) (W : World) (h0 : W.cell? ⟨b0, 0, none⟩ = some (.slice CA cn cc)) (hp : Rd W CA cn (cs.map (.int .i64 ·))) (hm : cn ≤ maxLen) :
    Calls Tryd.prog 41 #[.agg #[.int .i64 x.client, .int .i64 x.kind, .string ⟨x.path.toArray⟩], .pointer (some ⟨b0, 0, none⟩)] W fun e w' => e = .returned (.bool (decide (x.client ∈ cs))) ∧ Below W.heap.size W w' := by
  have hb := (Below.refl W.heap.size W).alloc (Nat.le_refl _) (.cells #[.int .i64 x.client, .int .i64 x.kind, .string ⟨x.path.toArray⟩] 31)
  have g0 := cell_kept h0 hb
  have HB := Lib.hid hb
  have HC := Lib.hid (hasInt_any CA cn cc cs x.client _ (hp.below hb) hm)
  clear h0 hp hb
  go_enter Tryd.func41, Tryd.ntmps41
  go_wp2_with (go_at_call 42; refine HC.out.mono ?_; rintro e w2 ⟨rfl, rfl⟩)
  go_ret
  exact ⟨rfl, HB.out⟩
theorem dropW_any (F : Nat → Prop) (g : Nat) (t : List Wt) (CA : Option Addr) (cn cc : Nat) (cs : List Int) (w : World) (hT : TbAt F w g t) (hn : t.length ≤ 1000) (hp : Rd w CA cn (cs.map (.int .i64 ·))) (hm : cn ≤ maxLen) :
    Calls Tryd.prog 20 #[.pointer (some ⟨g, 0, none⟩), .slice CA cn cc] w (WDid F g (wDrop cs t) (.tuple #[]) w) := by
  have hb : Below w.heap.size w (w.alloc (.cells #[.slice CA cn cc] 33)) := (Below.refl w.heap.size w).alloc (Nat.le_refl _) _
  have k0 : Bk (w.alloc (.cells #[.slice CA cn cc] 33)) w.heap.size 33 [.slice CA cn cc] := Bk.new w 33 [.slice CA cn cc]
  have HB := Lib.hid hb
  have HK := Lib.hid (take_any 41 #[.pointer (some ⟨w.heap.size, 0, none⟩)] (fun x => decide (x.client ∈ cs)) enters_drop F g t _ (hT.below hb) hn
    (fun x W hW => pred_drop w.heap.size CA cn cc cs x W ((k0.kept hW).at_ rfl) ((hp.below hb).below hW) hm))
  clear hb k0 hT hn hp hm
  go_enter Tryd.func20, Tryd.ntmps20
  go_wp2_with fail
  refine HK.out.mono ?_
  rintro e w' h
  obtain ⟨A, c, F', rfl, h2, h3, h4, h5, h6⟩ := h.behind HB.out
  go_wp2_with fail
  refine bodyPost_ret (results_none rfl _ _ _) rfl ?_
  exact ⟨rfl, F', h3, h4, h6⟩
end Go.Proofs.YtbppokdaehaocaaDoor
