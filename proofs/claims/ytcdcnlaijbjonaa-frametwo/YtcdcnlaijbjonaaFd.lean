/- Proved: what Print of frame answers. Condition: the frame's numbers are ints. -/
import Derived.Test.YtcdcnlaijbjonaaFc
import Derived.Laws.BytesArg
namespace Go.Proofs.Ytcdcnlaijbjonaa
open Go.RowKit

theorem right_sq {f : Fr} (h : rightF f) : SqF f := by
  obtain ⟨_, h2, h3, h4, h5, h6⟩ := h
  exact ⟨by omega, by omega, by omega, by omega, by omega⟩
/-- The head's bytes as a text. -/
theorem HAt.text {w : World} {b : Nat} {h : List UInt8} (q : HAt w b h) : (convert 44 9 (.slice (some ⟨b, 0, none⟩) 15 15)).run Try.prog w = .ok (.string ⟨h.toArray⟩) w := by
  have hl := q.len
  have := run_convert_bytes_back (P := Try.prog) w 44 9 5 ⟨b, 0, none⟩ 15 h Try.underlying44 Try.underlying5 Try.underlying9 (fun j hj => by
    have hadd : (⟨b, 0, none⟩ : Addr).add j = ⟨b, j, none⟩ := by unfold Addr.add; split <;> simp_all
    rw [hadd, q.byte j (by omega)]
    simp [hj])
  rwa [hl] at this

set_option maxRecDepth 100000 in
theorem dprint_no (f : Fr) (hs : SqF f) (hr : ¬ rightF f) (w : World) : Calls Try.prog 9 #[.agg (fc f)] w fun e w' => e = .returned (.tuple #[.string ⟨#[]⟩, .int .i64 1]) ∧ Keep w w' := by
  have HR := Lib.hid (fun w => dright f hs w)
  rw [decide_eq_false hr] at HR
  obtain ⟨n, hn⟩ : ∃ n, n = 6 := ⟨6, rfl⟩
  have hsz : ∀ w, (Go.sizeOf 23).run Try.prog w = .ok n w := fun w => by rw [hn]; exact Try.sizeOf23 w
  have hn0 : ¬ n = 0 := by omega
  have hl := (FAt.new w f).whole hn
  have HK := Lib.hid (show Keep w (w.alloc (.cells (fc f) 23)) from (Keep.refl w).alloc _)
  clear hn hr hs
  go_enter Try.func9, Try.ntmps9
  go_wp2_with fail
  refine (HR.out _).mono ?_
  rintro e w1 ⟨rfl, k1⟩
  have HK1 := Lib.hid (HK.out.trans k1)
  clear k1
  go_wp2
  go_ret2
  exact ⟨rfl, HK1.out⟩

set_option maxRecDepth 100000 in
theorem dprint_ok (f : Fr) (hr : rightF f) (w : World) : Calls Try.prog 9 #[.agg (fc f)] w fun e w' => e = .returned (.tuple #[.string ⟨(bytesF f).toArray⟩, .int .i64 0]) ∧ Keep w w' := by
  have HR := Lib.hid (fun w => dright f (right_sq hr) w)
  rw [decide_eq_true hr] at HR
  have HO := Lib.hid (fun w => headOf_at f hr w)
  have HS := Lib.hid (sealed (headF f ++ f.data) (by rw [List.length_append, headF_len]; have := hr.2.2.2.2.2; omega)).keep
  rw [show K.sealB (headF f ++ f.data) = bytesF f from rfl] at HS
  have hap := app_list (headF f) f.data
  have hlen := headF_len f
  have hdl : f.data.length ≤ 65000 := hr.2.2.2.2.2
  obtain ⟨n, hn⟩ : ∃ n, n = 6 := ⟨6, rfl⟩
  have hsz : ∀ w, (Go.sizeOf 23).run Try.prog w = .ok n w := fun w => by rw [hn]; exact Try.sizeOf23 w
  have hn0 : ¬ n = 0 := by omega
  obtain ⟨m, hm⟩ : ∃ n, n = 15 := ⟨15, rfl⟩
  have hszm : ∀ w, (Go.sizeOf 41).run Try.prog w = .ok m w := fun w => by rw [hm]; exact Try.sizeOf41 w
  have hm0 : ¬ m = 0 := by omega
  obtain ⟨hz, _⟩ := zero_of_info infoH
  have HM := Lib.hid hm
  have HA := Lib.hid (FAt.new w f)
  have HN := Lib.hid hn
  have hl := HA.out.whole HN.out
  have HK := Lib.hid (show Keep w (w.alloc (.cells (fc f) 23)) from (Keep.refl w).alloc _)
  clear hn hm hr
  generalize bytesF f = B at *
  generalize headF f = H at *
  go_enter Try.func9, Try.ntmps9
  go_wp2_with fail
  refine (HR.out _).mono ?_
  rintro e w1 ⟨rfl, k1⟩
  have HA1 := Lib.hid (HA.out.keep k1)
  have hl1 := HA1.out.whole HN.out
  have HK1 := Lib.hid (HK.out.trans k1)
  clear k1 hl HA HK
  go_wp2_with fail
  refine (HO.out _).mono ?_
  rintro e w2 ⟨rfl, k2⟩
  have HA2 := Lib.hid (HA1.out.keep k2)
  have HK2 := Lib.hid (HK1.out.trans k2)
  have hnew : HAt (w2.alloc (.cells (ac zh) 41)) w2.heap.size zh := ⟨heap_alloc_last _ _, rfl⟩
  have hst := hnew.store H hlen
  have HH := Lib.hid (hnew.put H hlen)
  have HK3 := Lib.hid (((Keep.refl w2).alloc (.cells (ac zh) 41)).setRow w2.heap.size (ac H) (Nat.le_refl _))
  have hzs : (ac H).size = m := by rw [ac_size, hlen, HM.out]
  clear k2 hl1 HA1 HK1 hnew
  go_wp2_with fail
  generalize (w2.alloc (.cells (ac zh) 41)).setRow w2.heap.size (ac H) = w3 at *
  have HA3 := Lib.hid (HA2.out.keep HK3.out)
  have HK4 := Lib.hid (HK2.out.trans HK3.out)
  have c5 : ∀ u : KW w3, u.1.cell? ⟨w.heap.size, 5, none⟩ = some (.string ⟨f.data.toArray⟩) := fun u => (HA3.out.keep u.2).data
  have hcv : ∀ u : KW w3, (convert 44 9 (.slice (some ⟨w2.heap.size, 0, none⟩) 15 15)).run Try.prog u.1 = .ok (.string ⟨H.toArray⟩) u.1 := fun u => (HH.out.keep u.2).text
  have hall := all_head w2.heap.size
  clear hst hzs HA2 HK2 HK3 HH HA3 hz
  refine wp_region_keep (Keep.refl w3) (by kernel_rfl) (by kernel_rfl) ?_
  repeat (first | go_big_quiet_step (exact HS.out.at _) | quiet_step (exact HS.out.at _))
  refine wpQuiet_nil ?_
  rintro w5 ⟨⟨w6, b6⟩, rfl⟩
  go_wp2
  go_ret2
  exact ⟨rfl, HK4.out.trans b6⟩
end Go.Proofs.Ytcdcnlaijbjonaa
