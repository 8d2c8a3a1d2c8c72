/-
  What the document's Text answers, for every int from 0 on: its decimal numeral. The world: new blocks alone.
-/
import Derived.Test.YtgjfhfjmdkhllaaDoorTab
import Derived.Laws.IdiomStrings
import Derived.Lib.ItoaLen
namespace Go.Proofs.YtgjfhfjmdkhllaaDoor
open Go.RowKit

theorem conv_one (W : World) (x : Int) (c : UInt8) (hx : (c.toNat : Int) = x) :
    (convert 22 9 (.slice (some ⟨W.heap.size, 0, none⟩) 1 1)).run Tryd.prog (W.alloc (.cells #[.int .u8 x] 5)) = .ok (.string ⟨#[c]⟩) (W.alloc (.cells #[.int .u8 x] 5)) :=
  run_convert_bytes_back (P := Tryd.prog) (W.alloc (.cells #[.int .u8 x] 5)) 22 9 5 ⟨W.heap.size, 0, none⟩ 1 [c] Tryd.underlying22 Tryd.underlying5 Tryd.underlying9
    (fun j hj => by
      obtain rfl : j = 0 := by simpa using hj
      rw [← hx]
      simp [Addr.add])

theorem digit_nat (v : Nat) (h : v < 10) : (((UInt8.ofNat (48 + v)).toNat : Nat) : Int) = 48 + (v : Int) := by
  rw [UInt8.toNat_ofNat_of_lt' (by simp [UInt8.size]; omega)]; omega
theorem str_cons (c : UInt8) (acc : List UInt8) : (⟨#[c]⟩ : ByteArray) ++ ⟨acc.toArray⟩ = ⟨(c :: acc).toArray⟩ := by
  apply ByteArray.ext
  simp

theorem ret_str {a b : ByteArray} (h : a = b) : Ending.returned (.string a) = .returned (.string b) := by rw [h]

set_option maxRecDepth 100000 in
set_option maxHeartbeats 400000 in
theorem refText_any (n : Int) (h0 : 0 ≤ n) (h1 : n ≤ 9223372036854775807) (w : World) :
    Calls Tryd.prog 17 #[.int .i64 n] w fun e w' => e = .returned (.string ⟨(Lib.decDigits n.toNat).toArray⟩) ∧ Below w.heap.size w w' := by
  have hlen : (Lib.decDigits n.toNat).length ≤ 21 := by
    have := Lib.itoa_length_le n (by omega) h1
    rwa [Lib.itoa, if_neg (by omega)] at this
  go_enter Tryd.func17, Tryd.ntmps17
  go_wp2
  go_loopw [0, 3] (fun t u wr => ∃ (v : Nat) (acc : List UInt8), t = .int .i64 v ∧ u = .string ⟨acc.toArray⟩ ∧ (v : Int) ≤ 9223372036854775807 ∧ acc.length ≤ 21 ∧ Below w.heap.size w wr ∧ Hid (Lib.decDigits v ++ acc = Lib.decDigits n.toNat)) (fun t _ _ => (intOf t).toNat)
  case atStart => exact ⟨n.toNat, [], by rw [Int.toNat_of_nonneg h0], rfl, by omega, by simp, Below.refl _ _, by show _ = _; simp⟩
  case round =>
    obtain ⟨v, acc, rfl, rfl, hv, ha, hb, hd⟩ := hrel
    by_cases h : v < 10
    · obtain ⟨c, hc, hcd⟩ : ∃ c : UInt8, (c.toNat : Int) = 48 + (v : Int) ∧ c = UInt8.ofNat (48 + v) := ⟨_, digit_nat v h, rfl⟩
      have hcv := conv_one wr (48 + (v : Int)) c hc
      have HS : Hid ((⟨#[c]⟩ : ByteArray) ++ ⟨acc.toArray⟩ = ⟨(Lib.decDigits n.toNat).toArray⟩) := by
        show _ = _
        have hd' := hd.out
        rw [Lib.decDigits_one h, ← hcd] at hd'
        rw [str_cons, ← hd']; rfl
      clear hd hc hcd
      go_wp2
      go_ret
      exact ⟨ret_str HS.out, hb.alloc hb.size _⟩
    · obtain ⟨c, hc, hcd⟩ : ∃ c : UInt8, (c.toNat : Int) = 48 + (v : Int) % 10 ∧ c = UInt8.ofNat (48 + v % 10) := ⟨_, by have := digit_nat (v % 10) (by omega); omega, rfl⟩
      have hcv := conv_one wr (48 + (v : Int) % 10) c hc
      have hd2 : Hid (Lib.decDigits (v / 10) ++ (c :: acc) = Lib.decDigits n.toNat) := by
        show _ = _
        have hd' := hd.out
        rw [Lib.decDigits, dif_neg h, ← hcd, List.append_assoc] at hd'
        exact hd'
      have hl2 : (c :: acc).length ≤ 21 := by
        have := congrArg List.length hd2.out
        rw [List.length_append] at this
        omega
      have HS := str_cons c acc
      have HS2 : Hid ((⟨#[c]⟩ : ByteArray) ++ ⟨acc.toArray⟩ = ⟨(c :: acc).toArray⟩) := HS
      clear hd hc hcd HS
      go_wp2
      go_roundw
      case rel => exact ⟨v / 10, c :: acc, rfl, by rw [HS2.out], by omega, hl2, hb.alloc hb.size _, hd2⟩
      case measure => simp [intOf]; omega

end Go.Proofs.YtgjfhfjmdkhllaaDoor
