/- What crc.take, crc.Update, crc.Sum and the reference's answer. -/
import Derived.Test.YtpjikkhcimghaaaDoorRows
import Derived.Test.YtpjikkhcimghaaaDoorAid
import Derived.Test.YtpjikkhcimghaaaDoorCm
namespace Go.Proofs.YtpjikkhcimghaaaDoor
open Go.ChangeShapes Go.WideShapes Go.ChangeAt Go.RowKit
def tabL : List Nat := [0, 498536548, 997073096, 651767980, 1994146192, 1802195444, 1303535960, 1342533948, 3988292384, 4027552580, 3604390888, 3412177804, 2607071920, 2262029012, 2685067896, 3183342108]
def tab (i : Nat) : Nat := tabL.getD i 0
/-- the table lies where the program's text lays it -/
def Tab (w : World) : Prop := 0 < w.heap.size ∧ ∀ i, i < 16 → w.cell? ⟨0, i, none⟩ = some (.int .u32 (tab i : Nat))
theorem Tab.keep {w w' : World} (h : Tab w) (hb : Below w.heap.size w w') : Tab w' :=
  ⟨Nat.lt_of_lt_of_le h.1 hb.size, fun i hi => (hb.cell (p := ⟨0, i, none⟩) h.1).trans (h.2 i hi)⟩
theorem Tab.drewN {w : World} (h : Tab w) (n : Nat) : Tab (w.drewN n) := ⟨by simpa using h.1, fun i hi => by simpa using h.2 i hi⟩
theorem tab_lt (i : Nat) : tab i < 4294967296 := by
  unfold tab
  rw [List.getD_eq_getElem?_getD]
  by_cases hi : i < tabL.length
  · rw [List.getElem?_eq_getElem hi]
    exact (by decide : ∀ x ∈ tabL, x < 4294967296) _ (List.getElem_mem hi)
  · rw [List.getElem?_eq_none (by omega)]; decide
theorem tab_shN : ∀ i : Fin 16, Crcm.shN 4 i.val = tab i.val := by decide
theorem half (x : Nat) : x / 16 ^^^ tab (x % 16) = Crcm.shN 4 x := by
  have h : Crcm.shN 4 (x % 16 + 2 ^ 4 * (x / 16)) = tab (x % 16) ^^^ x / 16 := by
    rw [Crcm.add_eq_xor 4 _ _ (by omega), Crcm.shN_xor, Crcm.shN_pow]
    rw [tab_shN ⟨x % 16, by omega⟩]
  rw [show x % 16 + 2 ^ 4 * (x / 16) = x from by omega] at h
  rw [h, Nat.xor_comm]
theorem xor_lt32 {a b : Nat} (ha : a < 4294967296) (hb : b < 4294967296) : a ^^^ b < 4294967296 := Nat.xor_lt_two_pow (n := 32) ha hb
set_option maxRecDepth 20000 in
set_option maxHeartbeats 400000 in
theorem take_any (r c : Nat) (w : World) (hr : r < 4294967296) (hc : c < 256) (ht : Tab w) :
    Calls Tryd.prog 32 #[.int .u32 r, .int .u8 c] w fun e w' => e = .returned (.int .u32 (Crcm.take r c : Nat)) ∧ w = w' := by
  have e1 : bits .xor .u32 (r : Int) (c : Int) = ((r ^^^ c : Nat) : Int) := u32_xor_nat r c hr (by omega)
  have hx : r ^^^ c < 4294967296 := xor_lt32 hr (by omega)
  have HT : Hid (Crcm.shN 8 (r ^^^ c) = Crcm.take r c) := rfl
  generalize r ^^^ c = x at *
  have e2 : bits .and .u32 (x : Int) 15 = ((x % 16 : Nat) : Int) := by
    have h := u32_and_nat x 15 hx (by omega)
    rw [nat_mask4] at h
    exact h
  have e3 : bits .xor .u32 ((x : Int) / 16) (tab (x % 16) : Nat) = ((Crcm.shN 4 x : Nat) : Int) := by
    have h := u32_xor_nat (x / 16) (tab (x % 16)) (by omega) (tab_lt _)
    rw [half, show ((x / 16 : Nat) : Int) = (x : Int) / 16 from by omega] at h
    exact h
  have hy : Crcm.shN 4 x < 4294967296 := Crcm.shN_lt 4 x hx
  have HT2 : Hid (Crcm.shN 8 x = Crcm.shN 4 (Crcm.shN 4 x)) := Crcm.shN_add 4 4 x
  have t1 := ht.2 (x % 16) (by omega)
  have hm1 : x % 16 < 16 := by omega
  generalize Crcm.shN 4 x = y at *
  have e4 : bits .and .u32 (y : Int) 15 = ((y % 16 : Nat) : Int) := by
    have h := u32_and_nat y 15 hy (by omega)
    rw [nat_mask4] at h
    exact h
  have e5 : bits .xor .u32 ((y : Int) / 16) (tab (y % 16) : Nat) = ((Crcm.shN 4 y : Nat) : Int) := by
    have h := u32_xor_nat (y / 16) (tab (y % 16)) (by omega) (tab_lt _)
    rw [half, show ((y / 16 : Nat) : Int) = (y : Int) / 16 from by omega] at h
    exact h
  have t2 := ht.2 (y % 16) (by omega)
  have hm2 : y % 16 < 16 := by omega
  generalize tab (x % 16) = tx at *
  generalize tab (y % 16) = ty at *
  clear ht
  go_enter Tryd.func32, Tryd.ntmps32
  go_wp2
  go_ret
  exact ⟨ret_int (by rw [← HT.out, HT2.out]), rfl⟩
theorem take_snoc_nat (l : List Nat) (k c : Nat) (h : k < l.length) (hc : c = l.getD k 0) : l.take (k + 1) = l.take k ++ [c] := by
  subst hc
  rw [List.take_succ_eq_append_getElem h, List.getD_eq_getElem?_getD, List.getElem?_eq_getElem h]; rfl
theorem upd_snoc (r : Nat) (l : List Nat) (c : Nat) : Crcm.upd r (l ++ [c]) = Crcm.take (Crcm.upd r l) c := by rw [Crcm.upd_append]; rfl
theorem mem_take_lt {w : World} {a : Option Addr} {l : List Nat} (h : Bytes w a l) (k : Nat) : ∀ x ∈ l.take k, x < 256 := fun x hx => h.mem x (List.mem_of_mem_take hx)
theorem not32 (s : Nat) (h : s < 4294967296) : bits .xor .u32 IntKind.u32.max (s : Int) = ((s ^^^ Crcm.ones : Nat) : Int) := by
  rw [show IntKind.u32.max = ((4294967295 : Nat) : Int) from rfl]
  have h1 := u32_xor_nat 4294967295 s (by omega) h
  rw [Nat.xor_comm] at h1
  exact h1
set_option maxRecDepth 20000 in
set_option maxHeartbeats 400000 in
theorem update_any (s : Nat) (l : List Nat) (a : Option Addr) (cap : Nat) (w : World) (hs : s < 4294967296) (hb : Bytes w a l) (hl : l.length ≤ maxLen) (ht : Tab w) :
    Calls Tryd.prog 31 #[.int .u32 s, .slice a l.length cap] w fun e w' => e = .returned (.int .u32 (Crcm.update s l : Nat)) ∧ w = w' := by
  unfold maxLen at hl
  have e0 := not32 s hs
  have hr0 : s ^^^ Crcm.ones < 4294967296 := xor_lt32 hs (by decide)
  have HTK : Hid (∀ k, ∀ x ∈ l.take k, x < 256) := fun k => mem_take_lt hb k
  have HTAB : Hid (Tab w) := ht
  have HU : Hid (Crcm.upd (s ^^^ Crcm.ones) l ^^^ Crcm.ones = Crcm.update s l) := rfl
  generalize s ^^^ Crcm.ones = r0 at *
  obtain ⟨hby, rfl | ⟨b, off, rfl, hlt, hcell⟩⟩ := hb
  · have e9 := not32 r0 hr0
    clear hby ht
    go_enter Tryd.func31, Tryd.ntmps31
    go_wp2
    refine wp_loop_rounds 1 ?_
    rw [rounds_succ]
    go_wp2
    go_ret
    exact ⟨ret_int (by rw [← HU.out]; rfl), rfl⟩
  · have HBY : Hid (∀ i, l.getD i 0 < 256) := hby
    have HCELL : Hid (∀ i, i < l.length → w.cell? ⟨b, off + i, none⟩ = some (.int .u8 (l.getD i 0 : Nat))) := hcell
    clear hby hcell ht
    go_enter Tryd.func31, Tryd.ntmps31
    go_wp2
    go_loop [5, 12] (fun vr vi => ∃ k r : Nat, k ≤ l.length ∧ vi = .int .i64 k ∧ vr = .int .u32 r ∧ r = Crcm.upd r0 (l.take k)) (fun _ vi => l.length - (intOf vi).toNat)
    case atStart => exact ⟨0, r0, Nat.zero_le _, rfl, rfl, rfl⟩
    case round =>
      obtain ⟨k, r, hk, rfl, rfl, hr⟩ := hrel
      have hrlt : r < 4294967296 := by rw [hr]; exact Crcm.upd_lt _ _ hr0 (HTK.out k)
      have HR : Hid (r = Crcm.upd r0 (l.take k)) := hr
      clear hr
      by_cases hkl : k < l.length
      · have hc := HCELL.out k hkl
        have hc256 := HBY.out k
        obtain ⟨c, hcE⟩ : ∃ c, c = l.getD k 0 := ⟨_, rfl⟩
        rw [← hcE] at hc hc256
        have HN : Hid (Crcm.take r c = Crcm.upd r0 (l.take (k + 1))) := by
          show _ = _
          rw [take_snoc_nat l k c hkl hcE, upd_snoc, HR.out]
        clear hcE HCELL HBY e0
        go_wp2_with (go_at_call 32; refine (take_any r c _ hrlt hc256 HTAB.out).mono ?_; rintro e w' ⟨rfl, rfl⟩)
        go_round
        case rel => exact ⟨k + 1, _, by omega, by go_num, rfl, HN.out⟩
        case measure => simp [intOf]; omega
      · have e9 := not32 r hrlt
        have HF : Hid (r ^^^ Crcm.ones = Crcm.update s l) := by
          show _ = _
          rw [← HU.out, HR.out, List.take_of_length_le (by omega)]
        clear e0 HCELL HBY
        go_wp2
        go_ret
        exact ⟨ret_int (by rw [← HF.out]), rfl⟩
theorem sum_any (l : List Nat) (n : Nat) (a : Option Addr) (cap : Nat) (w : World) (hn : l.length = n) (hb : Bytes w a l) (hl : l.length ≤ maxLen) (ht : Tab w) :
    Calls Tryd.prog 29 #[.slice a n cap] w fun e w' => e = .returned (.int .u32 (Crcm.sum l : Nat)) ∧ w = w' := by
  subst hn
  have HB : Hid (Bytes w a l) := hb
  have HT : Hid (Tab w) := ht
  have HU : Hid (Crcm.update 0 l = Crcm.sum l) := rfl
  clear hb ht
  go_enter Tryd.func29, Tryd.ntmps29
  go_wp2_with (go_at_call 31; refine (update_any 0 l _ _ _ (by omega) HB.out hl HT.out).mono ?_; rw [HU.out]; rintro e w' ⟨rfl, rfl⟩)
  go_ret
  exact ⟨rfl, rfl⟩
end Go.Proofs.YtpjikkhcimghaaaDoor
