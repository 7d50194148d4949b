/- Proved: what Text of prefix and of the document answer. Condition: an address has sixteen bytes; the library's table is as its text lays it. -/
import Derived.Test.YtabniphnmlbkfaaDoorY
namespace Go.Proofs.YtabniphnmlbkfaaDoor
open Go.RowKit

def textL (p : Px) : List UInt8 := addrL p.six p.addr ++ 47 :: dec p.len.toNat
/-- What a call answers while the library's table is as its text lays it. -/
def GivesT (f : FuncId) (args : Array Value) (v : Value) : Prop := ∀ w, Tab w → Calls Tryd.prog f args w fun e w' => e = .returned v ∧ Same w w'

set_option maxRecDepth 100000 in
theorem text_no (p : Px) (hp : p.addr.length = 16) (hr : ¬ rightP p) : Gives Tryd.prog 20 #[.agg (pc p)] (.string ⟨#[]⟩) := by
  intro w
  obtain ⟨hA, hS⟩ := one_at w p hp
  have HR := Lib.hid (right p hp)
  rw [decide_eq_false hr] at HR
  obtain ⟨n2, hn2⟩ : ∃ n, n = 18 := ⟨18, rfl⟩
  have hsz2 : ∀ w, (Go.sizeOf 24).run Tryd.prog w = .ok n2 w := fun w => by rw [hn2]; exact Tryd.sizeOf24 w
  have hw := hA.whole hn2
  have HS := Lib.hid hS
  clear hA hS hn2
  go_enter Tryd.func20, Tryd.ntmps20
  go_wp2_with fail
  refine (HR.out _).mono ?_
  rintro e w1 ⟨rfl, b1⟩
  go_wp2
  go_ret
  exact ⟨rfl, HS.out.trans b1⟩

set_option maxRecDepth 100000 in
theorem text_ok (p : Px) (hp : p.addr.length = 16) (hr : rightP p) : GivesT 20 #[.agg (pc p)] (.string ⟨(textL p).toArray⟩) := by
  intro w ht
  obtain ⟨hA, hS⟩ := one_at w p hp
  have HR := Lib.hid (right p hp)
  rw [decide_eq_true hr] at HR
  obtain ⟨n2, hn2⟩ : ∃ n, n = 18 := ⟨18, rfl⟩
  have hsz2 : ∀ w, (Go.sizeOf 24).run Tryd.prog w = .ok n2 w := fun w => by rw [hn2]; exact Tryd.sizeOf24 w
  obtain ⟨n1, hn1⟩ : ∃ n, n = 16 := ⟨16, rfl⟩
  have hsz1 : ∀ w, (Go.sizeOf 22).run Tryd.prog w = .ok n1 w := fun w => by rw [hn1]; exact Tryd.sizeOf22 w
  have hn0 : ¬ n1 = 0 := by omega
  obtain ⟨k, hk⟩ : ∃ k : Nat, p.len = k := ⟨p.len.toNat, by have := hr.1; omega⟩
  have hk2 : k ≤ 128 := by have := hr.2.1; have := sizeN_le p.six; omega
  have HX := Lib.hid (show textL p = addrL p.six p.addr ++ 47 :: dec k by unfold textL; rw [hk, Int.toNat_natCast])
  have hw := hA.whole hn2
  have HA := Lib.hid hA
  have HS := Lib.hid hS
  have HK := Lib.hid hk
  have HN1 := Lib.hid hn1
  have HT := Lib.hid ht
  have h4 := four_len p.addr
  have h6 := sixth_short p.addr 16
  have hd := dec_len k (by omega)
  clear hA hS hn2 hn1 hr hk ht
  go_enter Tryd.func20, Tryd.ntmps20
  go_wp2_with fail
  refine (HR.out _).mono ?_
  rintro e w1 ⟨rfl, b1⟩
  have ha1 := (HA.out.mono b1).addr HN1.out
  clear hw
  go_wp2_with fail
  refine (fourText p.addr hp w1 (HT.out.mono (HS.out.trans b1))).mono ?_
  rintro e w2 ⟨rfl, b2⟩
  have b12 := b1.trans b2
  have h0 := (HA.out.mono b12).six
  clear ha1 b1 b2
  cases hs : p.six
  · rw [hs] at h0
    have h17 := (HA.out.mono b12).bits
    rw [HK.out] at h17
    go_wp2_with fail
    refine (itoa_at k (by omega) w2 (HT.out.mono (HS.out.trans b12))).mono ?_
    rintro e w3 ⟨rfl, b3⟩
    go_wp2
    go_ret
    refine ⟨?_, (HS.out.trans b12).trans b3⟩
    rw [HX.out, hs, show addrL false p.addr ++ 47 :: dec k = (four p.addr 4 ++ [47]) ++ dec k by simp [addrL], ← app_list, ← app_list]
    rfl
  · rw [hs] at h0
    have ha2 := (HA.out.mono b12).addr HN1.out
    go_wp2_with fail
    refine (sixText p.addr hp w2).mono ?_
    rintro e w3 ⟨rfl, b3⟩
    have h17 := (HA.out.mono (b12.trans b3)).bits
    rw [HK.out] at h17
    clear ha2
    go_wp2_with fail
    refine (itoa_at k (by omega) w3 (HT.out.mono ((HS.out.trans b12).trans b3))).mono ?_
    rintro e w4 ⟨rfl, b4⟩
    go_wp2
    go_ret
    refine ⟨?_, ((HS.out.trans b12).trans b3).trans b4⟩
    rw [HX.out, hs, show addrL true p.addr ++ 47 :: dec k = (sixth p.addr 16 ++ [47]) ++ dec k by simp [addrL], ← app_list, ← app_list]
    rfl
end Go.Proofs.YtabniphnmlbkfaaDoor
