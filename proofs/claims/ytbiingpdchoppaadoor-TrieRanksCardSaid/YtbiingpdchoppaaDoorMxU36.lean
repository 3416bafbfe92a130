/- The trie keeps what a set of keys by its methods must keep; the law TriePlays. -/
import Derived.Test.YtbiingpdchoppaaDoorMgV
import Derived.Test.YtbiingpdchoppaaDoorMxU30
import Derived.Test.YtbiingpdchoppaaDoorMgX
import Derived.Test.YtbiingpdchoppaaDoorMxK22
namespace Go.Proofs.YtbiingpdchoppaaDoor
set_option maxRecDepth 40000
open Go.RowKit
/-- A trie at P, and the table of bits as it lay. -/
def TT (w : World) (P : Nat) (xs : List Nat) (lim tk : Nat) (O : Nat → Prop) : Prop :=
  ∃ Q m0 An cn Af cf ns fs root pl, TW w P Q m0 lim tk An cn Af cf ns fs root pl xs ∧ Tab w ∧ O = TBk P Q m0 An Af ns ∧ ¬ O 0 ∧ tk ≤ 100
theorem tt_s {w w' : World} {P Q m0 lim tk most : Nat} {O : Nat → Prop} {An0 Af0 : Option Addr} {ns0 : List (Nd × Bool)} {xs : List Nat} {v : Value} {e : Ending} (hT : Tab w) (hO : O = TBk P Q m0 An0 Af0 ns0) (h0 : ¬ O 0) (he : e = .returned v) (h : TWs w w' P Q m0 lim (TBk P Q m0 An0 Af0 ns0) xs tk) (ht : tk ≤ most) (ht2 : tk ≤ 100) : TOp TT w P O v xs lim most e w' := by
  obtain ⟨An, cn, Af, cf, ns, fs, root, pl, hT', hC, hb⟩ := h
  rw [← hO] at hC
  refine ⟨tk, TBk P Q m0 An Af ns, he, ⟨Q, m0, An, cn, Af, cf, ns, fs, root, pl, hT', hT.chg hC h0, rfl, fun h => ?_, ht2⟩, ht, hC, fun j hj => ?_⟩
  · rcases hb 0 h with h | h
    · exact h0 (by rw [hO]; exact h)
    · have := hT.pos; omega
  · rcases hb j hj with h | h
    · exact .inl (by rw [hO]; exact h)
    · exact .inr h
theorem tt_look {w w' : World} {P Q m0 lim tk most root cn cf : Nat} {O : Nat → Prop} {An Af : Option Addr} {ns : List (Nd × Bool)} {fs xs : List Nat} {pl : Nat → Nat → Nat} {v : Value} {e : Ending} (h : TW w P Q m0 lim tk An cn Af cf ns fs root pl xs) (hT : Tab w) (hO : O = TBk P Q m0 An Af ns) (h0 : ¬ O 0) (hm : most ≤ 100) (hl : LookP w m0 most v e w') : TOp TT w P O v xs lim most e w' := by
  obtain ⟨he, tk', ht, hx, hC⟩ := hl
  exact tt_s hT hO h0 he ((h.met hC hx).same (hC.mono (fun j hj => .inr (.inl hj))) (fun b hb => .inl hb)) ht (by omega)
theorem tt_tc : TC K.trie 11 12 1 TT := by
  refine { frame := ?frame, pos := ?pos, lt := ?lt, up := ?up, insert := ?insert, delete := ?delete, has := ?has, next := ?next, prev := ?prev, min := ?min, max := ?max, clear := ?clear }
  case frame =>
    rintro w w' P xs lim tk O ⟨Q, m0, An, cn, Af, cf, ns, fs, root, pl, h, hT, rfl, h0, ht⟩ hC
    exact ⟨Q, m0, An, cn, Af, cf, ns, fs, root, pl, h.chg hC (fun j hj hn => hn (.inl hj)), hT.chg hC (fun hn => hn (.inr rfl)), rfl, h0, ht⟩
  case pos =>
    rintro w P xs lim tk O ⟨Q, m0, An, cn, Af, cf, ns, fs, root, pl, h, hT, rfl, h0, ht⟩
    exact hT.pos
  case lt =>
    rintro w P xs lim tk O ⟨Q, m0, An, cn, Af, cf, ns, fs, root, pl, h, hT, rfl, h0, ht⟩ j hj
    exact (tb_types h hj).1
  case up =>
    rintro w P xs lim tk O ⟨Q, m0, An, cn, Af, cf, ns, fs, root, pl, h, hT, rfl, h0, ht⟩
    refine ⟨h.up, h.lt, ?_⟩
    have := h.used
    have := h.po.ns_le
    omega
  case insert =>
    rintro w P xs lim tk O ⟨Q, m0, An, cn, Af, cf, ns, fs, root, pl, h, hT, rfl, h0, ht⟩ k hk
    refine (t_insert w P Q m0 lim tk root cn cf An Af ns fs xs pl h k hk).mono ?_
    rintro e w' ⟨he, tk', ht', hs⟩
    exact tt_s hT rfl h0 he hs (by omega) (by omega)
  case delete =>
    rintro w P xs lim tk O ⟨Q, m0, An, cn, Af, cf, ns, fs, root, pl, h, hT, rfl, h0, ht⟩ k hk
    refine (t_delete w P Q m0 lim tk root cn cf An Af ns fs xs pl h hT k hk).mono ?_
    rintro e w' ⟨he, tk', ht', hs⟩
    exact tt_s hT rfl h0 he hs (by omega) (by omega)
  case has =>
    rintro w P xs lim tk O ⟨Q, m0, An, cn, Af, cf, ns, fs, root, pl, h, hT, rfl, h0, ht⟩ k hk
    exact (t_has w P Q m0 lim tk root cn cf An Af ns fs xs pl h k hk).mono fun e w' hl => tt_look h hT rfl h0 (by omega) hl
  case next =>
    rintro w P xs lim tk O ⟨Q, m0, An, cn, Af, cf, ns, fs, root, pl, h, hT, rfl, h0, ht⟩ k hk
    exact (t_next w P Q m0 lim tk root cn cf An Af ns fs xs pl h hT k hk).mono fun e w' hl => tt_look h hT rfl h0 (by omega) hl
  case prev =>
    rintro w P xs lim tk O ⟨Q, m0, An, cn, Af, cf, ns, fs, root, pl, h, hT, rfl, h0, ht⟩ k hk
    exact (t_prev w P Q m0 lim tk root cn cf An Af ns fs xs pl h hT k hk).mono fun e w' hl => tt_look h hT rfl h0 (by omega) hl
  case min =>
    rintro w P xs lim tk O ⟨Q, m0, An, cn, Af, cf, ns, fs, root, pl, h, hT, rfl, h0, ht⟩
    exact (t_min w P Q m0 lim tk root cn cf An Af ns fs xs pl h).mono fun e w' hl => tt_look h hT rfl h0 (by omega) hl
  case max =>
    rintro w P xs lim tk O ⟨Q, m0, An, cn, Af, cf, ns, fs, root, pl, h, hT, rfl, h0, ht⟩
    exact (t_max w P Q m0 lim tk root cn cf An Af ns fs xs pl h).mono fun e w' hl => tt_look h hT rfl h0 (by omega) hl
  case clear =>
    rintro w P xs lim tk O ⟨Q, m0, An, cn, Af, cf, ns, fs, root, pl, h, hT, rfl, h0, ht⟩
    refine (t_clear w P Q m0 lim tk root cn cf An Af ns fs xs pl h).mono ?_
    rintro e w' ⟨he, hs⟩
    exact tt_s hT rfl h0 he hs (by omega) ht
theorem tt_tc2 : TC2 K.trie 11 12 1 TT := by
  refine { toTC := tt_tc, new := ?new, len := ?len, used := ?used, limit := ?limit, all := ?all }
  case new =>
    intro w hT n hn
    refine (t_new w n hn).mono ?_
    rintro e w' ⟨P, Q, m0, rfl, ⟨An, cn, Af, cf, ns, fs, root, pl, h, _, hO⟩, hb⟩
    have hlo : ∀ j, TBk P Q m0 An Af ns j → w.heap.size ≤ j := fun j hj => (hO j hj).elim (fun h => h.elim) (fun h => h)
    exact ⟨P, 0, _, rfl, ⟨Q, m0, An, cn, Af, cf, ns, fs, root, pl, h, hT.below hb hT.pos, rfl, fun h => by have := hlo 0 h; have := hT.pos; omega, by omega⟩, hb, hlo⟩
  case len =>
    rintro w P xs lim tk O ⟨Q, m0, An, cn, Af, cf, ns, fs, root, pl, h, hT, rfl, h0, ht⟩
    exact t_len w P Q m0 lim tk root cn cf An Af ns fs xs pl h
  case used =>
    rintro w P xs lim tk O ⟨Q, m0, An, cn, Af, cf, ns, fs, root, pl, h, hT, rfl, h0, ht⟩
    exact t_used w P Q m0 lim tk root cn cf An Af ns fs xs pl h
  case limit =>
    rintro w P xs lim tk O ⟨Q, m0, An, cn, Af, cf, ns, fs, root, pl, h, hT, rfl, h0, ht⟩
    exact t_limit w P Q m0 lim tk root cn cf An Af ns fs xs pl h
  case all =>
    rintro w P xs lim tk O ⟨Q, m0, An, cn, Af, cf, ns, fs, root, pl, h, hT, rfl, h0, ht⟩ m hm hm2
    have hxl : xs.length ≤ 67108864 := by
      have h1 := T.len_trie h.up
      have h2 := h.used
      have h3 := h.po.ns_le
      have h4 := h.po.lim_le
      omega
    refine all_law w (some ⟨P, 0, none⟩) xs m hm (by omega) (by omega) ?_
    intro Bn W hb hW hBn hc
    have hC : K.Chg w W (fun _ => False) := K.Chg.of_below hb
    exact all_w W P Q m0 lim tk root cn cf An Af ns fs xs pl (fun j => j < w.heap.size + 1) (h.chg hC (fun _ _ h => h)) (hT.chg hC (fun h => h)) (fun j hj => by have := (tb_types h hj).1; omega) (by omega) (fun j hj => by omega) 8 Bn hBn hc
theorem tt_tc3 : TC3 K.trie 11 12 1 TT := by
  refine { toTC2 := tt_tc2, taken := ?_ }
  rintro w P xs lim tk O ⟨Q, m0, An, cn, Af, cf, ns, fs, root, pl, h, hT, rfl, h0, ht⟩
  have hc := cell_of_row w P 0 _ _ (0, 0) h.row
  refine ⟨m0, by simpa using hc, row_lt h.row, .inl rfl, ?_⟩
  refine (x_taken w m0 tk h.mx).mono ?_
  rintro e w' ⟨rfl, rfl⟩
  exact ⟨rfl, Below.refl _ _⟩
theorem law_plays (L : Nat) (hL : L < 65536) (A : Option Addr) (cp : Nat) (acts : List (Nat × Nat)) (st : Nat) (hst : st < 256) (w : World) (hTab : Tab w) (hr : Rk w w.heap.size A acts) (hlen : acts.length ≤ 9223372036854775807) :
    Calls Tryd.prog 3 #[.int .u16 (L : Int), .slice A acts.length cp, .int .u8 (st : Int)] w fun e w' => e = .returned (.bool true) ∧ Below w.heap.size w w' :=
  law_trie_plays tt_tc3 L hL A cp acts st hst w hr hlen hTab (by decide) (by decide)
end Go.Proofs.YtbiingpdchoppaaDoor
