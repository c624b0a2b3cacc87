/- The walk of TextAsciis. -/
import Derived.Test.YtlbjjkiflcjkgaaDoorR2
namespace Go.Proofs.YtlbjjkiflcjkgaaDoor
open Go.RowKit


theorem plain_n {A : Option Addr} {xs : List Nat} {n c : Nat} {p : ByteArray} {ok : Bool} (h : Hid (plS xs = p ∧ low xs = ok)) (w : World) (ha : Ar .u16 65536 w A xs n c) (hs : n ≤ 1048576) : Calls Tryd.prog 28 #[.slice A n c] w fun e w' => e = .returned (.tuple #[.string p, .bool ok]) ∧ Plus w w' := by
  obtain ⟨rfl, rfl⟩ := h.out
  exact plain_c A xs n c w ha (by omega)
def AsRel (s : ByteArray) (s6 s7 : Value) : Prop := ∃ k : Nat, k ≤ s.size ∧ s7 = .int .i64 k ∧ s6 = .bool (low ((nats s).take k))
theorem low_next {s : ByteArray} {k : Nat} (hk : k < s.size) (hl : low ((nats s).take k) = true) : low ((nats s).take (k + 1)) = decide (s[k].toNat < 128) := by
  have h1 : k < (nats s).length := by rw [nats_len]; exact hk
  have h2 := nats_get s k hk
  rw [List.getD_eq_getElem?_getD, List.getElem?_eq_getElem h1] at h2
  have h3 : (nats s)[k] = s[k].toNat := by simpa using h2
  unfold low at hl ⊢
  rw [List.take_succ_eq_append_getElem h1, List.all_append, hl, h3]
  simp
theorem low_stop {s : ByteArray} {k : Nat} (hk : k < s.size) (hl : low ((nats s).take k) = false) : low ((nats s).take (k + 1)) = false := by
  have h1 : k < (nats s).length := by rw [nats_len]; exact hk
  unfold low at hl ⊢
  rw [List.take_succ_eq_append_getElem h1, List.all_append, hl]
  rfl
theorem enc_bytes : ∀ xs : List Nat, isB xs → ∃ G, enc xs = some G ∧ (low xs = true → G = xs)
  | [], _ => ⟨[], by rw [enc], fun _ => rfl⟩
  | a :: r, h => by
    have ha : a < 256 := h a (by simp)
    obtain ⟨G, hG, hl⟩ := enc_bytes r (fun x hx => h x (List.mem_cons_of_mem _ hx))
    have e := enc_plain (a := a) (by unfold hiU; simp; omega) (by unfold loU; simp; omega) r
    refine ⟨bts a ++ G, by rw [e, hG]; rfl, fun hlo => ?_⟩
    unfold low at hlo
    rw [List.all_cons] at hlo
    simp at hlo
    have hl2 : low r = true := by unfold low; simpa using hlo.2
    rw [hl hl2]
    unfold bts
    rw [if_pos hlo.1]
    rfl
theorem byts_nats (s : ByteArray) : byts (nats s) = s := by
  unfold byts nats
  rw [List.map_map]
  have e : s.data.toList.map (Nat.toUInt8 ∘ UInt8.toNat) = s.data.toList := by
    conv => rhs; rw [← List.map_id s.data.toList]
    exact List.map_congr_left fun x _ => by simp
  rw [e]

set_option maxRecDepth 100000 in
set_option maxHeartbeats 8000000 in
theorem asciis_y (s : ByteArray) (xs G : List Nat) (n : Nat) (w : World) (hL : Hid (Lai w)) (hs : s.size ≤ 4000) (hn : n = s.size) (h1 : Hid (nats s = xs ∧ n = xs.length)) (h2 : Hid (plS xs = s ∧ low xs = true)) (h3 : Hid (ByN xs G 0)) (h4 : Hid (byts G = s)) : Calls Tryd.prog 9 #[.string s] w fun e w' => e = .returned (.bool true) ∧ Plus w w' := by
  subst hn
  go_enter Tryd.func9, Tryd.ntmps9
  go_wp2_with fail
  refine (first_c _ (hL.out.plus (by repeat' (first | exact Plus.refl _ | refine Plus.alloc ?_ _ | refine Plus.plus ?_ _ | refine Plus.drew ?_ | refine Plus.drewN ?_ _)))).mono ?_
  rintro e w1 ⟨rfl, ⟨y0, rfl⟩⟩
  go_wp2_with fail
  refine (ascii_n s (by omega) xs s.size h1 _).mono ?_
  rintro e w1 ⟨C1, d1, rfl, a1, ⟨x1, rfl⟩⟩
  replace a1 := Lib.hid a1
  go_wp2_with fail
  refine (plain_n h2 _ (a1.out.plus (by repeat' (first | exact Plus.refl _ | refine Plus.alloc ?_ _ | refine Plus.plus ?_ _ | refine Plus.drew ?_ | refine Plus.drewN ?_ _))) (by omega)).mono ?_
  rintro e w1 ⟨rfl, ⟨x2, rfl⟩⟩
  go_wp2_with fail
  go_loop [6, 7] (AsRel s) (fun _ s7 => ((s.size : Int) - intOf s7).toNat)
  case atStart => exact ⟨0, by omega, rfl, rfl⟩
  case round =>
    obtain ⟨k, hk, rfl, rfl⟩ := hrel
    by_cases hlt : k < s.size
    · cases hl : low ((nats s).take k)
      · have HN := Lib.hid (low_stop hlt hl)
        clear hl
        go_wp2_with fail
        go_round
        case rel => exact ⟨k + 1, hlt, by rw [show ((k + 1 : Nat) : Int) = (k : Int) + 1 by omega], by rw [HN.out]⟩
        case measure => simp [intOf]; omega
      · have HN := Lib.hid (low_next hlt hl)
        clear hl
        go_wp2_with fail
        go_round
        case rel => exact ⟨k + 1, hlt, by rw [show ((k + 1 : Nat) : Int) = (k : Int) + 1 by omega], by rw [HN.out]; congr 1; simp; omega⟩
        case measure => simp [intOf]; omega
    · obtain rfl : k = s.size := by omega
      have e0 : low ((nats s).take s.size) = true := by rw [← nats_len s, List.take_length, h1.out.1, h2.out.2]
      rw [e0]
      clear e0
      have pe : (s.toList == s.toList) = true := by simp
      go_wp2_with fail
      refine (bytes_n h3 _ (a1.out.plus (by repeat' (first | exact Plus.refl _ | refine Plus.alloc ?_ _ | refine Plus.plus ?_ _ | refine Plus.drew ?_ | refine Plus.drewN ?_ _))) (by omega)).mono ?_
      rintro e w1 ⟨C3, d3, rfl, a3, ⟨x3, rfl⟩⟩
      replace a3 := Lib.hid a3
      go_wp2_with fail
      refine (first_c _ (hL.out.plus (by repeat' (first | exact Plus.refl _ | refine Plus.alloc ?_ _ | refine Plus.plus ?_ _ | refine Plus.drew ?_ | refine Plus.drewN ?_ _)))).mono ?_
      rintro e w1 ⟨rfl, ⟨y1, rfl⟩⟩
      have hcv := conv_any (w := plus (plus (plus (plus (plus w y0) x1) x2) x3) y1) (c := d3) (a3.out.plus (by repeat' (first | exact Plus.refl _ | refine Plus.alloc ?_ _ | refine Plus.plus ?_ _ | refine Plus.drew ?_ | refine Plus.drewN ?_ _))).rd a3.out.bd
      rw [h4.out] at hcv
      go_wp2_with fail
      go_returns
      exact ⟨rfl, (by repeat' (first | exact Plus.refl _ | refine Plus.alloc ?_ _ | refine Plus.plus ?_ _ | refine Plus.drew ?_ | refine Plus.drewN ?_ _))⟩

set_option maxRecDepth 100000 in
set_option maxHeartbeats 8000000 in
theorem asciis_n (s : ByteArray) (xs G : List Nat) (n : Nat) (w : World) (hL : Hid (Lai w)) (hs : s.size ≤ 4000) (hn : n = s.size) (h1 : Hid (nats s = xs ∧ n = xs.length)) (p : ByteArray) (h2 : Hid (plS xs = p ∧ low xs = false)) (h3 : Hid (ByN xs G 0)) : Calls Tryd.prog 9 #[.string s] w fun e w' => e = .returned (.bool true) ∧ Plus w w' := by
  subst hn
  go_enter Tryd.func9, Tryd.ntmps9
  go_wp2_with fail
  refine (first_c _ (hL.out.plus (by repeat' (first | exact Plus.refl _ | refine Plus.alloc ?_ _ | refine Plus.plus ?_ _ | refine Plus.drew ?_ | refine Plus.drewN ?_ _)))).mono ?_
  rintro e w1 ⟨rfl, ⟨y0, rfl⟩⟩
  go_wp2_with fail
  refine (ascii_n s (by omega) xs s.size h1 _).mono ?_
  rintro e w1 ⟨C1, d1, rfl, a1, ⟨x1, rfl⟩⟩
  replace a1 := Lib.hid a1
  go_wp2_with fail
  refine (plain_n h2 _ (a1.out.plus (by repeat' (first | exact Plus.refl _ | refine Plus.alloc ?_ _ | refine Plus.plus ?_ _ | refine Plus.drew ?_ | refine Plus.drewN ?_ _))) (by omega)).mono ?_
  rintro e w1 ⟨rfl, ⟨x2, rfl⟩⟩
  go_wp2_with fail
  go_loop [6, 7] (AsRel s) (fun _ s7 => ((s.size : Int) - intOf s7).toNat)
  case atStart => exact ⟨0, by omega, rfl, rfl⟩
  case round =>
    obtain ⟨k, hk, rfl, rfl⟩ := hrel
    by_cases hlt : k < s.size
    · cases hl : low ((nats s).take k)
      · have HN := Lib.hid (low_stop hlt hl)
        clear hl
        go_wp2_with fail
        go_round
        case rel => exact ⟨k + 1, hlt, by rw [show ((k + 1 : Nat) : Int) = (k : Int) + 1 by omega], by rw [HN.out]⟩
        case measure => simp [intOf]; omega
      · have HN := Lib.hid (low_next hlt hl)
        clear hl
        go_wp2_with fail
        go_round
        case rel => exact ⟨k + 1, hlt, by rw [show ((k + 1 : Nat) : Int) = (k : Int) + 1 by omega], by rw [HN.out]; congr 1; simp; omega⟩
        case measure => simp [intOf]; omega
    · obtain rfl : k = s.size := by omega
      have e0 : low ((nats s).take s.size) = false := by rw [← nats_len s, List.take_length, h1.out.1, h2.out.2]
      rw [e0]
      clear e0
      go_wp2_with fail
      refine (bytes_n h3 _ (a1.out.plus (by repeat' (first | exact Plus.refl _ | refine Plus.alloc ?_ _ | refine Plus.plus ?_ _ | refine Plus.drew ?_ | refine Plus.drewN ?_ _))) (by omega)).mono ?_
      rintro e w1 ⟨C3, d3, rfl, a3, ⟨x3, rfl⟩⟩
      replace a3 := Lib.hid a3
      go_wp2_with fail
      refine (first_c _ (hL.out.plus (by repeat' (first | exact Plus.refl _ | refine Plus.alloc ?_ _ | refine Plus.plus ?_ _ | refine Plus.drew ?_ | refine Plus.drewN ?_ _)))).mono ?_
      rintro e w1 ⟨rfl, ⟨y1, rfl⟩⟩
      go_wp2_with fail
      go_returns
      exact ⟨rfl, (by repeat' (first | exact Plus.refl _ | refine Plus.alloc ?_ _ | refine Plus.plus ?_ _ | refine Plus.drew ?_ | refine Plus.drewN ?_ _))⟩

set_option maxRecDepth 100000 in
set_option maxHeartbeats 4000000 in
theorem asciis_few (s : ByteArray) (w : World) (hL : Hid (Lai w)) (hf : ¬ s.size ≤ 4000) : Calls Tryd.prog 9 #[.string s] w fun e w' => e = .returned (.bool true) ∧ Plus w w' := by
  have f1 : 4000 < s.size := by omega
  clear hf
  go_enter Tryd.func9, Tryd.ntmps9
  go_wp2_with fail
  refine (first_c _ (hL.out.plus (by repeat' (first | exact Plus.refl _ | refine Plus.alloc ?_ _ | refine Plus.plus ?_ _ | refine Plus.drew ?_ | refine Plus.drewN ?_ _)))).mono ?_
  rintro e w1 ⟨rfl, ⟨y0, rfl⟩⟩
  go_wp2_with fail
  refine (first_c _ (hL.out.plus (by repeat' (first | exact Plus.refl _ | refine Plus.alloc ?_ _ | refine Plus.plus ?_ _ | refine Plus.drew ?_ | refine Plus.drewN ?_ _)))).mono ?_
  rintro e w1 ⟨rfl, ⟨y1, rfl⟩⟩
  go_wp2_with fail
  go_returns
  exact ⟨rfl, (by repeat' (first | exact Plus.refl _ | refine Plus.alloc ?_ _ | refine Plus.plus ?_ _ | refine Plus.drew ?_ | refine Plus.drewN ?_ _))⟩

set_option maxHeartbeats 4000000 in
theorem asciis_w (s : ByteArray) (w : World) (hL : Lai w) : Calls Tryd.prog 9 #[.string s] w fun e w' => e = .returned (.bool true) ∧ Plus w w' := by
  by_cases hf : s.size ≤ 4000
  · obtain ⟨G, hG, hlo⟩ := enc_bytes (nats s) (nats_B s)
    cases hl : low (nats s)
    · exact asciis_n s (nats s) G s.size w (Lib.hid hL) hf rfl (Lib.hid ⟨rfl, (nats_len s).symm⟩) _ (Lib.hid ⟨rfl, hl⟩) (Lib.hid (.inl ⟨hG, rfl⟩))
    · refine asciis_y s (nats s) G s.size w (Lib.hid hL) hf rfl (Lib.hid ⟨rfl, (nats_len s).symm⟩) (Lib.hid ⟨?_, hl⟩) (Lib.hid (.inl ⟨hG, rfl⟩)) (Lib.hid ?_)
      · unfold plS; rw [if_pos hl, byts_nats]
      · rw [hlo hl, byts_nats]
  · exact asciis_few s w (Lib.hid hL) hf
end Go.Proofs.YtlbjjkiflcjkgaaDoor
