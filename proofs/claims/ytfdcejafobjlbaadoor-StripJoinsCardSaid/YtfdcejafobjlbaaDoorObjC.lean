
/- Equal, and whether strips are alike, the text walked. -/
import Derived.Test.YtfdcejafobjlbaaDoorObjB
namespace Go.Proofs.YtfdcejafobjlbaaDoor
open Go.RowKit
theorem St.rw_ {w : World} {s h : Nat} {ws : List Nat} (a : St w s h ws) : Rw w w.heap.size (some ⟨h, 0, none⟩) ws := fun _ =>
  ⟨h, 0, rfl, a.lt.2, fun k hk => by rw [Nat.zero_add]; exact a.cell k hk⟩
theorem s_equal (w : World) (s h s2 h2 : Nat) (ws vs : List Nat) (a : St w s h ws) (b : St w s2 h2 vs) :
    Calls Tryd.prog 33 #[.pointer (some ⟨s, 0, none⟩), .pointer (some ⟨s2, 0, none⟩)] w fun e w' => e = .returned (.bool (decide (ws = vs))) ∧ ∃ n, w' = w.drewN n := by
  have hc1 := a.head
  have hc2 := b.head
  have hl1 := a.2.2.2
  have hl2 := b.2.2.2
  have he := fun n => Lib.hid (sl_equal _ _ ws.length vs.length ws vs (w.drewN n) _ _ (a.rw_.drew n) (b.rw_.drew n) (by omega) (by omega))
  clear a b
  generalize hd : decide (ws = vs) = d at *
  clear hd
  generalize ws.length = n1 at *
  generalize vs.length = n2 at *
  go_enter Tryd.func33, Tryd.ntmps33
  go_wp2
  go_quiet ((go_at_call 55; exact Calls.quiet_of (he _).out))
  go_wp2
  go_ret
  exact ⟨rfl, _, rfl⟩
end Go.Proofs.YtfdcejafobjlbaaDoor
