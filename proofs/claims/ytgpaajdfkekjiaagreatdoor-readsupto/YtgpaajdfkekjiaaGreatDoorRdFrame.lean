/-
  A frame of 108 slots, written out.
-/
import Derived.WalkKit
namespace Go.Proofs.YtgpaajdfkekjiaaGreatDoor
open Go.RowKit

theorem uncons {l : List Value} {n : Nat} (h : l.length = n + 1) : ∃ x t, l = x :: t ∧ t.length = n := by
  cases l with
  | nil => simp at h
  | cons x t => exact ⟨x, t, rfl, by simpa using h⟩
set_option maxRecDepth 10000 in
theorem destruct108 (a : Act) (h : a.defers = []) (hs : a.tmps.size = 108) : ∃ x0 x1 x2 x3 x4 x5 x6 x7 x8 x9 x10 x11 x12 x13 x14 x15 x16 x17 x18 x19 x20 x21 x22 x23 x24 x25 x26 x27 x28 x29 x30 x31 x32 x33 x34 x35 x36 x37 x38 x39 x40 x41 x42 x43 x44 x45 x46 x47 x48 x49 x50 x51 x52 x53 x54 x55 x56 x57 x58 x59 x60 x61 x62 x63 x64 x65 x66 x67 x68 x69 x70 x71 x72 x73 x74 x75 x76 x77 x78 x79 x80 x81 x82 x83 x84 x85 x86 x87 x88 x89 x90 x91 x92 x93 x94 x95 x96 x97 x98 x99 x100 x101 x102 x103 x104 x105 x106 x107, a = ⟨#[x0, x1, x2, x3, x4, x5, x6, x7, x8, x9, x10, x11, x12, x13, x14, x15, x16, x17, x18, x19, x20, x21, x22, x23, x24, x25, x26, x27, x28, x29, x30, x31, x32, x33, x34, x35, x36, x37, x38, x39, x40, x41, x42, x43, x44, x45, x46, x47, x48, x49, x50, x51, x52, x53, x54, x55, x56, x57, x58, x59, x60, x61, x62, x63, x64, x65, x66, x67, x68, x69, x70, x71, x72, x73, x74, x75, x76, x77, x78, x79, x80, x81, x82, x83, x84, x85, x86, x87, x88, x89, x90, x91, x92, x93, x94, x95, x96, x97, x98, x99, x100, x101, x102, x103, x104, x105, x106, x107], []⟩ := by
  obtain ⟨⟨l⟩, d⟩ := a
  simp only at h
  subst h
  have hl : l.length = 108 := hs
  clear hs
  obtain ⟨x0, l0, rfl, h0⟩ := uncons (n := 107) hl
  obtain ⟨x1, l1, rfl, h1⟩ := uncons (n := 106) h0
  obtain ⟨x2, l2, rfl, h2⟩ := uncons (n := 105) h1
  obtain ⟨x3, l3, rfl, h3⟩ := uncons (n := 104) h2
  obtain ⟨x4, l4, rfl, h4⟩ := uncons (n := 103) h3
  obtain ⟨x5, l5, rfl, h5⟩ := uncons (n := 102) h4
  obtain ⟨x6, l6, rfl, h6⟩ := uncons (n := 101) h5
  obtain ⟨x7, l7, rfl, h7⟩ := uncons (n := 100) h6
  obtain ⟨x8, l8, rfl, h8⟩ := uncons (n := 99) h7
  obtain ⟨x9, l9, rfl, h9⟩ := uncons (n := 98) h8
  obtain ⟨x10, l10, rfl, h10⟩ := uncons (n := 97) h9
  obtain ⟨x11, l11, rfl, h11⟩ := uncons (n := 96) h10
  obtain ⟨x12, l12, rfl, h12⟩ := uncons (n := 95) h11
  obtain ⟨x13, l13, rfl, h13⟩ := uncons (n := 94) h12
  obtain ⟨x14, l14, rfl, h14⟩ := uncons (n := 93) h13
  obtain ⟨x15, l15, rfl, h15⟩ := uncons (n := 92) h14
  obtain ⟨x16, l16, rfl, h16⟩ := uncons (n := 91) h15
  obtain ⟨x17, l17, rfl, h17⟩ := uncons (n := 90) h16
  obtain ⟨x18, l18, rfl, h18⟩ := uncons (n := 89) h17
  obtain ⟨x19, l19, rfl, h19⟩ := uncons (n := 88) h18
  obtain ⟨x20, l20, rfl, h20⟩ := uncons (n := 87) h19
  obtain ⟨x21, l21, rfl, h21⟩ := uncons (n := 86) h20
  obtain ⟨x22, l22, rfl, h22⟩ := uncons (n := 85) h21
  obtain ⟨x23, l23, rfl, h23⟩ := uncons (n := 84) h22
  obtain ⟨x24, l24, rfl, h24⟩ := uncons (n := 83) h23
  obtain ⟨x25, l25, rfl, h25⟩ := uncons (n := 82) h24
  obtain ⟨x26, l26, rfl, h26⟩ := uncons (n := 81) h25
  obtain ⟨x27, l27, rfl, h27⟩ := uncons (n := 80) h26
  obtain ⟨x28, l28, rfl, h28⟩ := uncons (n := 79) h27
  obtain ⟨x29, l29, rfl, h29⟩ := uncons (n := 78) h28
  obtain ⟨x30, l30, rfl, h30⟩ := uncons (n := 77) h29
  obtain ⟨x31, l31, rfl, h31⟩ := uncons (n := 76) h30
  obtain ⟨x32, l32, rfl, h32⟩ := uncons (n := 75) h31
  obtain ⟨x33, l33, rfl, h33⟩ := uncons (n := 74) h32
  obtain ⟨x34, l34, rfl, h34⟩ := uncons (n := 73) h33
  obtain ⟨x35, l35, rfl, h35⟩ := uncons (n := 72) h34
  obtain ⟨x36, l36, rfl, h36⟩ := uncons (n := 71) h35
  obtain ⟨x37, l37, rfl, h37⟩ := uncons (n := 70) h36
  obtain ⟨x38, l38, rfl, h38⟩ := uncons (n := 69) h37
  obtain ⟨x39, l39, rfl, h39⟩ := uncons (n := 68) h38
  obtain ⟨x40, l40, rfl, h40⟩ := uncons (n := 67) h39
  obtain ⟨x41, l41, rfl, h41⟩ := uncons (n := 66) h40
  obtain ⟨x42, l42, rfl, h42⟩ := uncons (n := 65) h41
  obtain ⟨x43, l43, rfl, h43⟩ := uncons (n := 64) h42
  obtain ⟨x44, l44, rfl, h44⟩ := uncons (n := 63) h43
  obtain ⟨x45, l45, rfl, h45⟩ := uncons (n := 62) h44
  obtain ⟨x46, l46, rfl, h46⟩ := uncons (n := 61) h45
  obtain ⟨x47, l47, rfl, h47⟩ := uncons (n := 60) h46
  obtain ⟨x48, l48, rfl, h48⟩ := uncons (n := 59) h47
  obtain ⟨x49, l49, rfl, h49⟩ := uncons (n := 58) h48
  obtain ⟨x50, l50, rfl, h50⟩ := uncons (n := 57) h49
  obtain ⟨x51, l51, rfl, h51⟩ := uncons (n := 56) h50
  obtain ⟨x52, l52, rfl, h52⟩ := uncons (n := 55) h51
  obtain ⟨x53, l53, rfl, h53⟩ := uncons (n := 54) h52
  obtain ⟨x54, l54, rfl, h54⟩ := uncons (n := 53) h53
  obtain ⟨x55, l55, rfl, h55⟩ := uncons (n := 52) h54
  obtain ⟨x56, l56, rfl, h56⟩ := uncons (n := 51) h55
  obtain ⟨x57, l57, rfl, h57⟩ := uncons (n := 50) h56
  obtain ⟨x58, l58, rfl, h58⟩ := uncons (n := 49) h57
  obtain ⟨x59, l59, rfl, h59⟩ := uncons (n := 48) h58
  obtain ⟨x60, l60, rfl, h60⟩ := uncons (n := 47) h59
  obtain ⟨x61, l61, rfl, h61⟩ := uncons (n := 46) h60
  obtain ⟨x62, l62, rfl, h62⟩ := uncons (n := 45) h61
  obtain ⟨x63, l63, rfl, h63⟩ := uncons (n := 44) h62
  obtain ⟨x64, l64, rfl, h64⟩ := uncons (n := 43) h63
  obtain ⟨x65, l65, rfl, h65⟩ := uncons (n := 42) h64
  obtain ⟨x66, l66, rfl, h66⟩ := uncons (n := 41) h65
  obtain ⟨x67, l67, rfl, h67⟩ := uncons (n := 40) h66
  obtain ⟨x68, l68, rfl, h68⟩ := uncons (n := 39) h67
  obtain ⟨x69, l69, rfl, h69⟩ := uncons (n := 38) h68
  obtain ⟨x70, l70, rfl, h70⟩ := uncons (n := 37) h69
  obtain ⟨x71, l71, rfl, h71⟩ := uncons (n := 36) h70
  obtain ⟨x72, l72, rfl, h72⟩ := uncons (n := 35) h71
  obtain ⟨x73, l73, rfl, h73⟩ := uncons (n := 34) h72
  obtain ⟨x74, l74, rfl, h74⟩ := uncons (n := 33) h73
  obtain ⟨x75, l75, rfl, h75⟩ := uncons (n := 32) h74
  obtain ⟨x76, l76, rfl, h76⟩ := uncons (n := 31) h75
  obtain ⟨x77, l77, rfl, h77⟩ := uncons (n := 30) h76
  obtain ⟨x78, l78, rfl, h78⟩ := uncons (n := 29) h77
  obtain ⟨x79, l79, rfl, h79⟩ := uncons (n := 28) h78
  obtain ⟨x80, l80, rfl, h80⟩ := uncons (n := 27) h79
  obtain ⟨x81, l81, rfl, h81⟩ := uncons (n := 26) h80
  obtain ⟨x82, l82, rfl, h82⟩ := uncons (n := 25) h81
  obtain ⟨x83, l83, rfl, h83⟩ := uncons (n := 24) h82
  obtain ⟨x84, l84, rfl, h84⟩ := uncons (n := 23) h83
  obtain ⟨x85, l85, rfl, h85⟩ := uncons (n := 22) h84
  obtain ⟨x86, l86, rfl, h86⟩ := uncons (n := 21) h85
  obtain ⟨x87, l87, rfl, h87⟩ := uncons (n := 20) h86
  obtain ⟨x88, l88, rfl, h88⟩ := uncons (n := 19) h87
  obtain ⟨x89, l89, rfl, h89⟩ := uncons (n := 18) h88
  obtain ⟨x90, l90, rfl, h90⟩ := uncons (n := 17) h89
  obtain ⟨x91, l91, rfl, h91⟩ := uncons (n := 16) h90
  obtain ⟨x92, l92, rfl, h92⟩ := uncons (n := 15) h91
  obtain ⟨x93, l93, rfl, h93⟩ := uncons (n := 14) h92
  obtain ⟨x94, l94, rfl, h94⟩ := uncons (n := 13) h93
  obtain ⟨x95, l95, rfl, h95⟩ := uncons (n := 12) h94
  obtain ⟨x96, l96, rfl, h96⟩ := uncons (n := 11) h95
  obtain ⟨x97, l97, rfl, h97⟩ := uncons (n := 10) h96
  obtain ⟨x98, l98, rfl, h98⟩ := uncons (n := 9) h97
  obtain ⟨x99, l99, rfl, h99⟩ := uncons (n := 8) h98
  obtain ⟨x100, l100, rfl, h100⟩ := uncons (n := 7) h99
  obtain ⟨x101, l101, rfl, h101⟩ := uncons (n := 6) h100
  obtain ⟨x102, l102, rfl, h102⟩ := uncons (n := 5) h101
  obtain ⟨x103, l103, rfl, h103⟩ := uncons (n := 4) h102
  obtain ⟨x104, l104, rfl, h104⟩ := uncons (n := 3) h103
  obtain ⟨x105, l105, rfl, h105⟩ := uncons (n := 2) h104
  obtain ⟨x106, l106, rfl, h106⟩ := uncons (n := 1) h105
  obtain ⟨x107, l107, rfl, h107⟩ := uncons (n := 0) h106
  obtain rfl : l107 = [] := List.eq_nil_of_length_eq_zero h107
  exact ⟨x0, x1, x2, x3, x4, x5, x6, x7, x8, x9, x10, x11, x12, x13, x14, x15, x16, x17, x18, x19, x20, x21, x22, x23, x24, x25, x26, x27, x28, x29, x30, x31, x32, x33, x34, x35, x36, x37, x38, x39, x40, x41, x42, x43, x44, x45, x46, x47, x48, x49, x50, x51, x52, x53, x54, x55, x56, x57, x58, x59, x60, x61, x62, x63, x64, x65, x66, x67, x68, x69, x70, x71, x72, x73, x74, x75, x76, x77, x78, x79, x80, x81, x82, x83, x84, x85, x86, x87, x88, x89, x90, x91, x92, x93, x94, x95, x96, x97, x98, x99, x100, x101, x102, x103, x104, x105, x106, x107, rfl⟩

end Go.Proofs.YtgpaajdfkekjiaaGreatDoor
