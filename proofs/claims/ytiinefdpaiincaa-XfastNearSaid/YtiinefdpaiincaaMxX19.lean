/- An x-fast trie keeps what a set of keys by its methods must keep; the law XfastPlays. -/
import Derived.Test.YtiinefdpaiincaaMxX18
namespace Go.Proofs.Ytiinefdpaiincaa
open Go.RowKit
theorem xz_tc : TC K.xfast 1 9 1 XZ := by
  refine { frame := ?frame, pos := ?pos, lt := ?lt, up := ?up, insert := ?insert, delete := ?delete, has := ?has, next := ?next, prev := ?prev, min := ?min, max := ?max, clear := ?clear }
  case frame =>
    rintro w w' Xb xs lim tk O ⟨C, Q, M, P, L, es, h⟩ hC
    exact ⟨C, Q, M, P, L, es, ⟨h.xt.chg hC (fun j hj hn => hn hj), h.te, h.ks, h.up, h.cnt, h.le, h.max, h.few⟩⟩
  case pos =>
    rintro w Xb xs lim tk O ⟨C, Q, M, P, L, es, h⟩
    have := row_lt h.xt.row
    omega
  case lt =>
    rintro w Xb xs lim tk O ⟨C, Q, M, P, L, es, h⟩
    exact h.xt.lt
  case up =>
    rintro w Xb xs lim tk O ⟨C, Q, M, P, L, es, h⟩
    exact ⟨h.up, h.keys, h.le⟩
  case insert =>
    rintro w Xb xs lim tk O ⟨C, Q, M, P, L, es, h⟩ k hk
    exact x_insert w Xb C Q M P lim tk xs L es O h k hk
  case delete =>
    rintro w Xb xs lim tk O ⟨C, Q, M, P, L, es, h⟩ k hk
    exact x_delete w Xb C Q M P lim tk xs L es O h k hk
  case has =>
    rintro w Xb xs lim tk O ⟨C, Q, M, P, L, es, h⟩ k hk
    exact x_has w Xb C Q M P lim tk xs L es O h k
  case next =>
    rintro w Xb xs lim tk O ⟨C, Q, M, P, L, es, h⟩ k hk
    exact x_next w Xb C Q M P lim tk xs L es O h k hk
  case prev =>
    rintro w Xb xs lim tk O ⟨C, Q, M, P, L, es, h⟩ k hk
    exact x_prev w Xb C Q M P lim tk xs L es O h k hk
  case min =>
    rintro w Xb xs lim tk O ⟨C, Q, M, P, L, es, h⟩
    exact x_min w Xb C Q M P lim tk xs L es O h
  case max =>
    rintro w Xb xs lim tk O ⟨C, Q, M, P, L, es, h⟩
    exact x_max w Xb C Q M P lim tk xs L es O h
  case clear =>
    rintro w Xb xs lim tk O ⟨C, Q, M, P, L, es, h⟩
    exact x_clear w Xb C Q M P lim tk xs L es O h
theorem xz_tc2 : TC2 K.xfast 1 9 1 XZ := by
  refine { toTC := xz_tc, new := ?new, len := ?len, used := ?used, limit := ?limit, all := ?all }
  case new =>
    intro w sd _ n hn
    exact xf_new w sd n hn
  case len =>
    rintro w Xb xs lim tk O ⟨C, Q, M, P, L, es, h⟩
    exact x_len w Xb C Q M P lim tk xs L es O h
  case used =>
    rintro w Xb xs lim tk O ⟨C, Q, M, P, L, es, h⟩
    exact x_used w Xb C Q M P lim tk xs L es O h
  case limit =>
    rintro w Xb xs lim tk O ⟨C, Q, M, P, L, es, h⟩
    exact x_limit w Xb C Q M P lim tk xs L es O h
  case all =>
    rintro w Xb xs lim tk O ⟨C, Q, M, P, L, es, h⟩ m hm hm2
    have hlt := h.xt.lt
    have hxl : xs.length ≤ 500000 := by
      have h1 := X.len_map h.ks
      have h2 := h.cnt
      have h3 := h.le
      have h4 := h.max
      omega
    refine all_law w (some ⟨Xb, 0, none⟩) xs m hm (by omega) (by omega) ?_
    intro Bn W hb hW hBn hc
    have hT := h.xt.chg (K.Chg.of_below (O := fun _ => False) hb) (fun _ _ h => h)
    have hs := xf_all W Xb C Q M P lim tk L es O (fun j => j < w.heap.size + 1) hT (fun j hj => by have := hlt j hj; omega) (fun j hj => by have hj : j < w.heap.size + 1 := hj; omega) 8 Bn hBn hc
    rw [h.ks] at hs
    exact hs
theorem xz_tc3 : TC3 K.xfast 1 9 1 XZ := by
  refine { toTC2 := xz_tc2, taken := ?_ }
  rintro w Xb xs lim tk O ⟨C, Q, M, P, L, es, h⟩
  refine ⟨M, h.xt.c0, row_lt h.xt.row, h.xt.mem, ?_⟩
  refine (x_taken w M tk h.xt.mx.1).mono ?_
  rintro e w' ⟨rfl, rfl⟩
  exact ⟨rfl, Below.refl _ _⟩
end Go.Proofs.Ytiinefdpaiincaa
