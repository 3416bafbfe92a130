
/- A pool, its meter, and the reference's pool beside one another; what a step of one leaves of the others. -/
import Derived.Test.YtpgmgldhpagieaaPLaws4
import Derived.Test.YtpgmgldhpagieaaRDo4
import Derived.Test.YtpgmgldhpagieaaPObj5
namespace Go.Proofs.Ytpgmgldhpagieaa
open Go.RowKit
/-- All three, in blocks of their own. -/
structure Bo (w : World) (B P M R lim : Nat) (An : Option Addr) (cn : Nat) (Af : Option Addr) (cf : Nat) (Av : Option Addr) (cv : Nat) (Al : Option Addr) (cl : Nat) (Ag : Option Addr) (cg : Nat) (ns : List (Nat × Bool)) (fs : List Nat) (rs : List (Nat × Bool)) (gs : List Nat) (r t p q : Nat) : Prop where
  po : Po w B P M lim An cn Af cf ns fs
  rf : Rf w B R lim q Av cv Al cl Ag cg rs gs
  mt : Mt w M r 0 0 t p
  ml : M < w.heap.size
  mb : B ≤ M
  pr : ∀ j, PB P An Af j → ¬ RB R Av Al Ag j
  pm : ∀ j, PB P An Af j → j ≠ M
  rm : ∀ j, RB R Av Al Ag j → j ≠ M
/-- All three, wherever their rows lie. -/
def Bs (w : World) (B P M R lim : Nat) (ns : List (Nat × Bool)) (fs : List Nat) (rs : List (Nat × Bool)) (gs : List Nat) (r t p q : Nat) : Prop :=
  ∃ An cn Af cf Av cv Al cl Ag cg, Bo w B P M R lim An cn Af cf Av cv Al cl Ag cg ns fs rs gs r t p q
section
variable {w w' : World} {B P M R lim cn cf cv cl cg r t p q : Nat} {An Af Av Al Ag : Option Addr} {ns rs : List (Nat × Bool)} {fs gs : List Nat}
theorem Bo.pool (a : Bo w B P M R lim An cn Af cf Av cv Al cl Ag cg ns fs rs gs r t p q) {ns' : List (Nat × Bool)} {fs' : List Nat} (st : PStep w B P M lim An Af ns' fs' w') : Bs w' B P M R lim ns' fs' rs gs r t p q ∧ Below B w w' := by
  obtain ⟨An', cn', Af', cf', hp, b, hin⟩ := st
  have hB : B ≤ w.heap.size := Nat.le_trans a.po.base (Nat.le_of_lt a.po.lt)
  refine ⟨⟨An', cn', Af', cf', Av, cv, Al, cl, Ag, cg, ⟨hp, a.rf.but b (fun j h h' => a.pr j h' h), (b.block M a.ml (fun h => a.pm M h rfl)).trans a.mt, Nat.lt_of_lt_of_le a.ml b.size, a.mb, fun j h h' => ?_, fun j h => ?_, a.rm⟩⟩, b.below hB (fun j h => (a.po.pb h).1)⟩
  · rcases hin j h with h1 | h1
    · exact a.pr j h1 h'
    · have := (a.rf.rb h').2; omega
  · rcases hin j h with h1 | h1
    · exact a.pm j h1
    · have := a.ml; omega
theorem Bo.refr (a : Bo w B P M R lim An cn Af cf Av cv Al cl Ag cg ns fs rs gs r t p q) {rs' : List (Nat × Bool)} {gs' : List Nat} {q' : Nat} (st : RStep w B R lim q' Av Al Ag rs' gs' w') : Bs w' B P M R lim ns fs rs' gs' r t p q' ∧ Below B w w' := by
  obtain ⟨Av', cv', Al', cl', Ag', cg', hr, b, hin⟩ := st
  have hB : B ≤ w.heap.size := Nat.le_trans a.po.base (Nat.le_of_lt a.po.lt)
  refine ⟨⟨An, cn, Af, cf, Av', cv', Al', cl', Ag', cg', ⟨a.po.but b (fun j h h' => a.pr j h h'), hr, (b.block M a.ml (fun h => a.rm M h rfl)).trans a.mt, Nat.lt_of_lt_of_le a.ml b.size, a.mb, fun j h h' => ?_, a.pm, fun j h => ?_⟩⟩, b.below hB (fun j h => (a.rf.rb h).1)⟩
  · rcases hin j h' with h1 | h1
    · exact a.pr j h h1
    · have := (a.po.pb h).2; omega
  · rcases hin j h with h1 | h1
    · exact a.rm j h1
    · have := a.ml; omega
theorem Bo.meter (a : Bo w B P M R lim An cn Af cf Av cv Al cl Ag cg ns fs rs gs r t p q) {r' t' p' : Nat} (hm : Mt w' M r' 0 0 t' p') (g : w.grownBy w' (some M)) : Bs w' B P M R lim ns fs rs gs r' t' p' q ∧ Below B w w' := by
  have hB : B ≤ w.heap.size := Nat.le_trans a.po.base (Nat.le_of_lt a.po.lt)
  have b : ButS w w' (· = M) := ButS.of_grown g (fun j e => by cases e; rfl)
  exact ⟨⟨An, cn, Af, cf, Av, cv, Al, cl, Ag, cg, ⟨a.po.but b (fun j h => a.pm j h), a.rf.but b (fun j h => a.rm j h), hm, Nat.lt_of_lt_of_le a.ml b.size, a.mb, a.pr, a.pm, a.rm⟩⟩, b.below hB (fun j h => by rw [h]; exact a.mb)⟩
theorem Bo.same (a : Bo w B P M R lim An cn Af cf Av cv Al cl Ag cg ns fs rs gs r t p q) (b : ButS w w' (fun _ => False)) : Bs w' B P M R lim ns fs rs gs r t p q ∧ Below B w w' := by
  have hB : B ≤ w.heap.size := Nat.le_trans a.po.base (Nat.le_of_lt a.po.lt)
  exact ⟨⟨An, cn, Af, cf, Av, cv, Al, cl, Ag, cg, ⟨a.po.but b (fun _ _ h => h), a.rf.but b (fun _ _ h => h), (b.block M a.ml (fun h => h)).trans a.mt, Nat.lt_of_lt_of_le a.ml b.size, a.mb, a.pr, a.pm, a.rm⟩⟩, b.below hB (fun j h => h.elim)⟩
end
end Go.Proofs.Ytpgmgldhpagieaa
