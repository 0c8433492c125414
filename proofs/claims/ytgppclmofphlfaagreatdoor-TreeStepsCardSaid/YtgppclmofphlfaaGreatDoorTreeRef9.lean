/-
  The reference's Kids (the method). Walks; no statement.
-/
import Derived.Test.YtgppclmofphlfaaGreatDoorTreeRef8
namespace Go.Proofs.YtgppclmofphlfaaGreatDoor
set_option maxRecDepth 100000
open Go.RowKit
set_option linter.unusedVariables false

theorem get_cases (q : List UInt8) (t : List Lf) : (∃ l, tGet q t = (some l, 0)) ∨ ∃ n : Int, tGet q t = (none, n) ∧ (n = 90 ∨ n = 100) := by
  unfold tGet
  split
  · exact .inr ⟨90, rfl, .inl rfl⟩
  · split
    · exact .inr ⟨100, rfl, .inr rfl⟩
    · exact .inl ⟨_, rfl⟩
set_option maxHeartbeats 3200000 in
theorem refKidsM_any (p : ByteArray) (A : Option Addr) (c : Nat) (t : List Lf) (F : Nat → Prop) (w : World) (hp : p.size ≤ maxLen) (h : RdS RLf F w A c t) (hb : lfsBig t) (hn : t.length ≤ 1000) (hsz : ∀ l ∈ t, l.path.length ≤ maxLen) :
    Calls Tryz.prog 25 #[.agg #[.slice A t.length c], .string p] w (KidsP (tGet p.data.toList t) (tKids p.data.toList t) w) := by
  obtain ⟨q, rfl⟩ : ∃ l : List UInt8, p = ⟨l.toArray⟩ := ⟨p.data.toList, (sv_of p).symm⟩
  show Calls _ _ _ _ (KidsP (tGet q t) (tKids q t) w)
  have HB := Lib.hid ((Below.refl w.heap.size w).alloc (Nat.le_refl _) (.cells #[.slice A t.length c] 30))
  have HS := Lib.hid (show (w.alloc (.cells #[.slice A t.length c] 30)).heap.size = w.heap.size + 1 by simp)
  have HZ := Lib.hid (fun X (hx : Below (w.heap.size + 1) (w.alloc (.cells #[.slice A t.length c] 30)) X) => show X.cell? ⟨w.heap.size, 0, none⟩ = some (.slice A t.length c) ∧ w.heap.size + 1 ≤ X.heap.size ∧ Below w.heap.size w X from
    ⟨((Bk.new w 30 [.slice A t.length c]).below hx (by omega)).at_ rfl, by have := hx.size; have := HS.out; omega, HB.out.trans (hx.mono (by omega))⟩)
  have HG0 := Lib.hid (fun W (hx : Below w.heap.size w W) => show Calls _ _ _ _ (GetP (tGet q t) W) from refGet_any ⟨q.toArray⟩ A c t F W hp (h.below hx) hb)
  have HK := Lib.hid (fun W (hx : Below w.heap.size w W) => show Calls _ _ _ _ (FreshT (tKids q t) W) from refKids_any ⟨q.toArray⟩ A c t F W (h.below hx) hn hsz)
  clear h hb hn hsz hp
  rcases get_cases q t with ⟨l, e⟩ | ⟨n, e, hn⟩
  · have HG := Lib.hid (fun W (hx : Below w.heap.size w W) => show Calls Tryz.prog _ _ W (fun e w' => Below W.heap.size W w' ∧ ∃ B d, e = .returned (.tuple #[.agg #[.string ⟨l.path.toArray⟩, .slice B l.data.length d, .int .i64 l.ver, .int .i64 l.own, .int .i64 l.next, .int .i64 l.born], .int .i64 0])) from
      (HG0.out W hx).mono fun e' w' h' => by rw [e] at h'; obtain ⟨h1, B, d, h2, _⟩ := h'; exact ⟨h1, B, d, h2⟩)
    rw [e]
    clear e HG0
    go_enter Tryz.func25, Tryz.ntmps25
    go_wp2_with fail
    refine (HG.out _ HB.out).mono ?_
    rintro e w1 ⟨hb1, B, d, rfl⟩
    have hbx : Below (w.heap.size + 1) (w.alloc (.cells #[.slice A t.length c] 30)) w1 := by have := HS.out; rw [← this]; exact hb1
    have hbx2 := hbx.alloc (by have := hbx.size; have := HS.out; omega) (.cells #[.string ⟨l.path.toArray⟩, .slice B l.data.length d, .int .i64 l.ver, .int .i64 l.own, .int .i64 l.next, .int .i64 l.born] 50)
    have HX := Lib.hid hbx2
    clear hb1 hbx hbx2
    obtain ⟨j0, hs, hbw⟩ := HZ.out _ HX.out
    have hs0 := hbw.size
    go_wp2_with fail
    refine (HK.out _ hbw).mono ?_
    rintro e w2 ⟨A2, n2, c2, rfl, ho, hb2⟩
    have HO := Lib.hid (ho.more hs0)
    have HB2 := Lib.hid (hbw.trans (hb2.mono hbw.size))
    clear ho hb2
    go_wp2_with fail
    go_ret2
    exact ⟨_, ⟨A2, n2, c2, rfl, HO.out, HB2.out⟩, rfl⟩
  · have HG := Lib.hid (fun W (hx : Below w.heap.size w W) => show Calls Tryz.prog _ _ W (fun e w' => Below W.heap.size W w' ∧ e = .returned (.tuple #[.agg #[.string ⟨#[]⟩, .slice none 0 0, .int .i64 0, .int .i64 0, .int .i64 0, .int .i64 0], .int .i64 n])) from
      (HG0.out W hx).mono fun e' w' h' => by rw [e] at h'; exact h')
    rw [e]
    have b1 : (n != 0) = true := by rcases hn with rfl | rfl <;> rfl
    have HN := Lib.hid (show n ≠ 0 by rcases hn with rfl | rfl <;> omega)
    clear e HG0 hn
    go_enter Tryz.func25, Tryz.ntmps25
    go_wp2_with fail
    refine (HG.out _ HB.out).mono ?_
    rintro e w1 ⟨hb1, rfl⟩
    have HX := Lib.hid ((HB.out.trans (hb1.mono HB.out.size)).alloc (Nat.le_trans HB.out.size hb1.size) (.cells #[.string ⟨#[]⟩, .slice none 0 0, .int .i64 0, .int .i64 0, .int .i64 0, .int .i64 0] 50))
    clear hb1
    go_wp2_with fail
    go_ret2
    unfold KidsP
    rw [if_neg HN.out]
    exact ⟨HX.out, rfl⟩
end Go.Proofs.YtgppclmofphlfaaGreatDoor
