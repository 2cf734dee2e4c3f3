/-
  The document's answer for addresses as texts: the contracts of gangwayref02's Num and Ip.
-/
import Derived.Test.YtmpkeakbcojdeaaGreatDoorRefRead
namespace Go.Proofs.YtmpkeakbcojdeaaGreatDoor
open Go.RowKit

theorem one_char (wr : World) (u : Nat) (hu : u < 256) : (convert 62 9 (.slice (some ⟨wr.heap.size, 0, none⟩) 1 1)).run Tryz.prog (wr.alloc (.cells #[.int .u8 (u : Int)] 5)) = .ok (.string (bs [UInt8.ofNat u])) (wr.alloc (.cells #[.int .u8 (u : Int)] 5)) := by
  have h := one_string wr u
  rw [show (u : Int) % 256 = (u : Int) by omega, Nat.mod_eq_of_lt hu] at h
  exact h
set_option maxRecDepth 20000 in
theorem rdec_one (n : Nat) (w : World) (hn : n < 10) :
    Calls Tryz.prog 42 #[.int .i64 n] w fun e w' => e = .returned (.string (bs (Lib.decDigits n))) ∧ Below w.heap.size w w' := by
  rw [dec_one n hn]
  have hc := one_char w (48 + n) (by omega)
  have hr : (48 : Int) + (n : Int) % 10 = ((48 + n : Nat) : Int) := by omega
  have hni : (n : Int) < 10 := by omega
  generalize bs [UInt8.ofNat (48 + n)] = C at hc ⊢
  generalize hx : 48 + n = x at hc hr
  have hx8 : x < 256 := by omega
  clear hx
  go_enter Tryz.func42, Tryz.ntmps42
  go_wp2_with fail
  go_ret
  exact ⟨rfl, (Below.refl w.heap.size w).alloc (Nat.le_refl _) _⟩
set_option maxRecDepth 20000 in
theorem rdec_more (n : Nat) (w : World) (h10 : ¬ n < 10) (hn : n < 1000) (hd : ∀ W, Calls Tryz.prog 42 #[.int .i64 ((n / 10 : Nat) : Int)] W fun e W' => e = .returned (.string (bs (Lib.decDigits (n / 10)))) ∧ Below W.heap.size W W') (hl : (bs (Lib.decDigits (n / 10))).size ≤ 10) :
    Calls Tryz.prog 42 #[.int .i64 n] w fun e w' => e = .returned (.string (bs (Lib.decDigits n))) ∧ Below w.heap.size w w' := by
  have hap : bs (Lib.decDigits (n / 10)) ++ bs [UInt8.ofNat (48 + n % 10)] = bs (Lib.decDigits n) := by
    conv => rhs; rw [Lib.decDigits, dif_neg h10]
    rw [bs_append]
  have hc := one_char w (48 + n % 10) (by omega)
  have hr : (48 : Int) + (n : Int) % 10 = ((48 + n % 10 : Nat) : Int) := by omega
  have hq : (n : Int) / 10 = ((n / 10 : Nat) : Int) := by omega
  have hni : (10 : Int) ≤ (n : Int) := by omega
  have hnj : (n : Int) < 1000 := by omega
  have hc1 : (bs [UInt8.ofNat (48 + n % 10)]).size = 1 := bs_size _
  rw [← hap]
  have HD := hide hd
  clear hd hap
  generalize bs [UInt8.ofNat (48 + n % 10)] = C at hc hc1 ⊢
  generalize bs (Lib.decDigits (n / 10)) = D at HD hl ⊢
  generalize hx : 48 + n % 10 = x at hc hr
  have hx8 : x < 256 := by omega
  clear hx
  generalize n / 10 = q at HD hq
  go_enter Tryz.func42, Tryz.ntmps42
  go_wp2_with fail
  refine (unhide HD _).mono ?_
  rintro e w1 ⟨rfl, b1⟩
  go_wp2_with fail
  go_ret
  exact ⟨rfl, box_then b1⟩
theorem dec_length (n : Nat) (hn : n < 1000) : (bs (Lib.decDigits n)).size ≤ 3 := by
  rw [bs_size, dec_tens n hn]
  unfold tens
  split
  · simp
  · split <;> simp
theorem rdec (n : Nat) (w : World) (hn : n < 256) :
    Calls Tryz.prog 42 #[.int .i64 n] w fun e w' => e = .returned (.string (bs (Lib.decDigits n))) ∧ Below w.heap.size w w' := by
  by_cases h1 : n < 10
  · exact rdec_one n w h1
  · have hl : (bs (Lib.decDigits (n / 10))).size ≤ 10 := Nat.le_trans (dec_length (n / 10) (by omega)) (by omega)
    by_cases h2 : n < 100
    · exact rdec_more n w h1 (by omega) (fun W => rdec_one (n / 10) W (by omega)) hl
    · refine rdec_more n w h1 (by omega) (fun W => ?_) hl
      exact rdec_more (n / 10) W (by omega) (by omega) (fun W => rdec_one (n / 10 / 10) W (by omega)) (Nat.le_trans (dec_length (n / 10 / 10) (by omega)) (by omega))
theorem be_four_is (a : Nat) : be a 4 = [UInt8.ofNat (a / 16777216 % 256), UInt8.ofNat (a / 65536 % 256), UInt8.ofNat (a / 256 % 256), UInt8.ofNat (a % 256)] := by
  rw [be_cons, be_cons, be_cons, be_cons]
  simp [be]
theorem ten_nat (n : Nat) (h : n < 256) : ten (UInt8.ofNat n) = Lib.decDigits n := by rw [ten, UInt8.toNat_ofNat_of_lt' (by show _ < 256; exact h)]
theorem ip_parts (a : Nat) (ha : a < 4294967296) : bs (Lib.decDigits (a / 16777216)) ++ ⟨#[46]⟩ ++ bs (Lib.decDigits (a / 65536 % 256)) ++ ⟨#[46]⟩ ++ bs (Lib.decDigits (a / 256 % 256)) ++ ⟨#[46]⟩ ++ bs (Lib.decDigits (a % 256)) = bs (ipT (be a 4)) := by
  rw [show (⟨#[46]⟩ : ByteArray) = bs [46] from rfl]
  simp only [bs_append]
  rw [be_four_is, ipT]
  simp only [List.map_cons, List.map_nil]
  rw [ten_nat _ (by omega), ten_nat _ (by omega), ten_nat _ (by omega), ten_nat _ (by omega), show a / 16777216 % 256 = a / 16777216 by omega, join_more, join_more, join_more, Lib.join_one]
  simp
set_option maxRecDepth 20000 in
theorem rip (a : Nat) (w : World) (ha : a < 4294967296) :
    Calls Tryz.prog 17 #[.int .u32 a] w fun e w' => e = .returned (.string (bs (ipT (be a 4)))) ∧ Below w.heap.size w w' := by
  rw [← ip_parts a ha]
  have d0 := hide fun W => rdec (a / 16777216) W (by omega)
  have d1 := hide fun W => rdec (a / 65536 % 256) W (by omega)
  have d2 := hide fun W => rdec (a / 256 % 256) W (by omega)
  have d3 := hide fun W => rdec (a % 256) W (by omega)
  have l0 := dec_length (a / 16777216) (by omega)
  have l1 := dec_length (a / 65536 % 256) (by omega)
  have l2 := dec_length (a / 256 % 256) (by omega)
  have l3 := dec_length (a % 256) (by omega)
  have q0 : (a : Int) / 16777216 = ((a / 16777216 : Nat) : Int) := by omega
  have q1 : (a : Int) / 65536 % 256 = ((a / 65536 % 256 : Nat) : Int) := by omega
  have q2 : (a : Int) / 256 % 256 = ((a / 256 % 256 : Nat) : Int) := by omega
  have q3 : (a : Int) % 256 = ((a % 256 : Nat) : Int) := by omega
  have hai : (a : Int) < 4294967296 := by omega
  have b0 : a / 16777216 < 256 := by omega
  have b1 : a / 65536 % 256 < 256 := by omega
  have b2 : a / 256 % 256 < 256 := by omega
  have b3 : a % 256 < 256 := by omega
  clear ha
  generalize bs (Lib.decDigits (a / 16777216)) = D0 at d0 l0 ⊢
  generalize bs (Lib.decDigits (a / 65536 % 256)) = D1 at d1 l1 ⊢
  generalize bs (Lib.decDigits (a / 256 % 256)) = D2 at d2 l2 ⊢
  generalize bs (Lib.decDigits (a % 256)) = D3 at d3 l3 ⊢
  generalize a / 16777216 = x0 at d0 q0 b0
  generalize a / 65536 % 256 = x1 at d1 q1 b1
  generalize a / 256 % 256 = x2 at d2 q2 b2
  generalize a % 256 = x3 at d3 q3 b3
  have s1 : (D0 ++ (⟨#[46]⟩ : ByteArray)).size = D0.size + 1 := by rw [ByteArray.size_append]; rfl
  have s2 : (D0 ++ (⟨#[46]⟩ : ByteArray) ++ D1).size = D0.size + 1 + D1.size := by rw [ByteArray.size_append, s1]
  have s3 : (D0 ++ (⟨#[46]⟩ : ByteArray) ++ D1 ++ (⟨#[46]⟩ : ByteArray)).size = D0.size + 1 + D1.size + 1 := by rw [ByteArray.size_append, s2]; rfl
  have s4 : (D0 ++ (⟨#[46]⟩ : ByteArray) ++ D1 ++ (⟨#[46]⟩ : ByteArray) ++ D2).size = D0.size + 1 + D1.size + 1 + D2.size := by rw [ByteArray.size_append, s3]
  have s5 : (D0 ++ (⟨#[46]⟩ : ByteArray) ++ D1 ++ (⟨#[46]⟩ : ByteArray) ++ D2 ++ (⟨#[46]⟩ : ByteArray)).size = D0.size + 1 + D1.size + 1 + D2.size + 1 := by rw [ByteArray.size_append, s4]; rfl
  go_enter Tryz.func17, Tryz.ntmps17
  go_wp2_with fail
  refine (unhide d0 _).mono ?_
  rintro e w1 ⟨rfl, c1⟩
  go_wp2_with fail
  refine (unhide d1 _).mono ?_
  rintro e w2 ⟨rfl, c2⟩
  go_wp2_with fail
  refine (unhide d2 _).mono ?_
  rintro e w3 ⟨rfl, c3⟩
  go_wp2_with fail
  refine (unhide d3 _).mono ?_
  rintro e w4 ⟨rfl, c4⟩
  go_wp2_with fail
  go_ret
  exact ⟨rfl, bthen (bthen (bthen c1 c2) c3) c4⟩
end Go.Proofs.YtmpkeakbcojdeaaGreatDoor
