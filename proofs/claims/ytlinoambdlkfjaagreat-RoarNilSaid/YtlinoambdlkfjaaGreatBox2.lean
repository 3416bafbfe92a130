
/- To which function a call through the interface leads, for each kind and each method. -/
import Derived.Test.YtlinoambdlkfjaaGreatBox1
namespace Go.Proofs.YtlinoambdlkfjaaGreat
set_option maxRecDepth 40000
open Go.RowKit
theorem toA_Has (A : Option Addr) (n c : Nat) (w : World) : (method 313 85 (.slice A n c) "Has").run Tryz.prog w = .ok (155, .slice A n c) w := by kernel_rfl
theorem toA_Len (A : Option Addr) (n c : Nat) (w : World) : (method 313 85 (.slice A n c) "Len").run Tryz.prog w = .ok (156, .slice A n c) w := by kernel_rfl
theorem toA_Next (A : Option Addr) (n c : Nat) (w : World) : (method 313 85 (.slice A n c) "Next").run Tryz.prog w = .ok (157, .slice A n c) w := by kernel_rfl
theorem toA_Prev (A : Option Addr) (n c : Nat) (w : World) : (method 313 85 (.slice A n c) "Prev").run Tryz.prog w = .ok (158, .slice A n c) w := by kernel_rfl
theorem toA_copied (A : Option Addr) (n c : Nat) (w : World) : (method 313 85 (.slice A n c) "stepstone/box.copied").run Tryz.prog w = .ok (161, .slice A n c) w := by kernel_rfl
theorem toA_cost (A : Option Addr) (n c : Nat) (w : World) : (method 313 85 (.slice A n c) "stepstone/box.cost").run Tryz.prog w = .ok (162, .slice A n c) w := by kernel_rfl
theorem toA_list (A : Option Addr) (n c : Nat) (w : World) : (method 313 85 (.slice A n c) "stepstone/box.list").run Tryz.prog w = .ok (163, .slice A n c) w := by kernel_rfl
theorem toB_Has (p : Nat) (w : World) : (method 313 113 (.agg #[.pointer (some ⟨p, 0, none⟩)]) "Has").run Tryz.prog w = .ok (171, .pointer (some ⟨p, 0, none⟩)) w := by kernel_rfl
theorem toB_Len (p : Nat) (w : World) : (method 313 113 (.agg #[.pointer (some ⟨p, 0, none⟩)]) "Len").run Tryz.prog w = .ok (172, .pointer (some ⟨p, 0, none⟩)) w := by kernel_rfl
theorem toB_Next (p : Nat) (w : World) : (method 313 113 (.agg #[.pointer (some ⟨p, 0, none⟩)]) "Next").run Tryz.prog w = .ok (173, .pointer (some ⟨p, 0, none⟩)) w := by kernel_rfl
theorem toB_Prev (p : Nat) (w : World) : (method 313 113 (.agg #[.pointer (some ⟨p, 0, none⟩)]) "Prev").run Tryz.prog w = .ok (174, .pointer (some ⟨p, 0, none⟩)) w := by kernel_rfl
theorem toB_Rank (p : Nat) (w : World) : (method 313 113 (.agg #[.pointer (some ⟨p, 0, none⟩)]) "Rank").run Tryz.prog w = .ok (175, .pointer (some ⟨p, 0, none⟩)) w := by kernel_rfl
theorem toB_Select (p : Nat) (w : World) : (method 313 113 (.agg #[.pointer (some ⟨p, 0, none⟩)]) "Select").run Tryz.prog w = .ok (176, .pointer (some ⟨p, 0, none⟩)) w := by kernel_rfl
theorem toB_copied (p : Nat) (w : World) : (method 313 113 (.agg #[.pointer (some ⟨p, 0, none⟩)]) "stepstone/box.copied").run Tryz.prog w = .ok (188, .agg #[.pointer (some ⟨p, 0, none⟩)]) w := by kernel_rfl
theorem toB_cost (p : Nat) (w : World) : (method 313 113 (.agg #[.pointer (some ⟨p, 0, none⟩)]) "stepstone/box.cost").run Tryz.prog w = .ok (189, .agg #[.pointer (some ⟨p, 0, none⟩)]) w := by kernel_rfl
theorem toB_list (p : Nat) (w : World) : (method 313 113 (.agg #[.pointer (some ⟨p, 0, none⟩)]) "stepstone/box.list").run Tryz.prog w = .ok (190, .agg #[.pointer (some ⟨p, 0, none⟩)]) w := by kernel_rfl
theorem toR_Has (A : Option Addr) (n c : Nat) (w : World) : (method 313 126 (.slice A n c) "Has").run Tryz.prog w = .ok (200, .slice A n c) w := by kernel_rfl
theorem toR_Len (A : Option Addr) (n c : Nat) (w : World) : (method 313 126 (.slice A n c) "Len").run Tryz.prog w = .ok (201, .slice A n c) w := by kernel_rfl
theorem toR_Next (A : Option Addr) (n c : Nat) (w : World) : (method 313 126 (.slice A n c) "Next").run Tryz.prog w = .ok (202, .slice A n c) w := by kernel_rfl
theorem toR_Prev (A : Option Addr) (n c : Nat) (w : World) : (method 313 126 (.slice A n c) "Prev").run Tryz.prog w = .ok (203, .slice A n c) w := by kernel_rfl
theorem toR_Rank (A : Option Addr) (n c : Nat) (w : World) : (method 313 126 (.slice A n c) "Rank").run Tryz.prog w = .ok (204, .slice A n c) w := by kernel_rfl
theorem toR_Select (A : Option Addr) (n c : Nat) (w : World) : (method 313 126 (.slice A n c) "Select").run Tryz.prog w = .ok (205, .slice A n c) w := by kernel_rfl
theorem toR_copied (A : Option Addr) (n c : Nat) (w : World) : (method 313 126 (.slice A n c) "stepstone/box.copied").run Tryz.prog w = .ok (206, .slice A n c) w := by kernel_rfl
theorem toR_cost (A : Option Addr) (n c : Nat) (w : World) : (method 313 126 (.slice A n c) "stepstone/box.cost").run Tryz.prog w = .ok (207, .slice A n c) w := by kernel_rfl
theorem toR_list (A : Option Addr) (n c : Nat) (w : World) : (method 313 126 (.slice A n c) "stepstone/box.list").run Tryz.prog w = .ok (208, .slice A n c) w := by kernel_rfl
end Go.Proofs.YtlinoambdlkfjaaGreat
