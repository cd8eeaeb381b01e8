/- Texts of one seat, put together: LexH LexI. -/
import Derived.Test.YtneiajkcikcnnaaDoorB03
set_option linter.unusedVariables false
/- lex and plumblineref10: Reserved; plumblineref10.class; lex: is, Name, Number. -/
namespace Go.Proofs.YtneiajkcikcnnaaDoor
open Go.RowKit
open Lx

def resB (s : ByteArray) : Bool := (s.toList == [116, 114, 117, 101]) || (s.toList == [102, 97, 108, 115, 101]) || (s.toList == [118, 97, 114]) || (s.toList == [105, 110]) || (s.toList == [105, 110, 105, 116]) || (s.toList == [112, 114, 111, 99]) || (s.toList == [108, 111, 99]) || (s.toList == [101, 110, 100])
set_option maxHeartbeats 2000000 in
theorem reserved_any (s : ByteArray) (w : World) : Calls Tryd.prog 58 #[.string s] w (Draws (.bool (resB s)) w) := by
  have HR := hide (show resB s = ((s.toList == [116, 114, 117, 101]) || (s.toList == [102, 97, 108, 115, 101]) || (s.toList == [118, 97, 114]) || (s.toList == [105, 110]) || (s.toList == [105, 110, 105, 116]) || (s.toList == [112, 114, 111, 99]) || (s.toList == [108, 111, 99]) || (s.toList == [101, 110, 100])) from rfl)
  generalize resB s = r at *
  by_cases h0 : (s.toList == [116, 114, 117, 101]) = true
  · have hr : r = true := by rw [HR.out, h0]; simp
    subst hr
    clear HR
    go_enter Tryd.func58, Tryd.ntmps58
    go_wp2_with fail
    go_ret
    exact ⟨rfl, 0, rfl⟩
  · have h0 : (s.toList == [116, 114, 117, 101]) = false := by simpa using h0
    by_cases h1 : (s.toList == [102, 97, 108, 115, 101]) = true
    · have hr : r = true := by rw [HR.out, h1]; simp
      subst hr
      clear HR
      go_enter Tryd.func58, Tryd.ntmps58
      go_wp2_with fail
      go_ret
      exact ⟨rfl, 0, rfl⟩
    · have h1 : (s.toList == [102, 97, 108, 115, 101]) = false := by simpa using h1
      by_cases h2 : (s.toList == [118, 97, 114]) = true
      · have hr : r = true := by rw [HR.out, h2]; simp
        subst hr
        clear HR
        go_enter Tryd.func58, Tryd.ntmps58
        go_wp2_with fail
        go_ret
        exact ⟨rfl, 0, rfl⟩
      · have h2 : (s.toList == [118, 97, 114]) = false := by simpa using h2
        by_cases h3 : (s.toList == [105, 110]) = true
        · have hr : r = true := by rw [HR.out, h3]; simp
          subst hr
          clear HR
          go_enter Tryd.func58, Tryd.ntmps58
          go_wp2_with fail
          go_ret
          exact ⟨rfl, 0, rfl⟩
        · have h3 : (s.toList == [105, 110]) = false := by simpa using h3
          by_cases h4 : (s.toList == [105, 110, 105, 116]) = true
          · have hr : r = true := by rw [HR.out, h4]; simp
            subst hr
            clear HR
            go_enter Tryd.func58, Tryd.ntmps58
            go_wp2_with fail
            go_ret
            exact ⟨rfl, 0, rfl⟩
          · have h4 : (s.toList == [105, 110, 105, 116]) = false := by simpa using h4
            by_cases h5 : (s.toList == [112, 114, 111, 99]) = true
            · have hr : r = true := by rw [HR.out, h5]; simp
              subst hr
              clear HR
              go_enter Tryd.func58, Tryd.ntmps58
              go_wp2_with fail
              go_ret
              exact ⟨rfl, 0, rfl⟩
            · have h5 : (s.toList == [112, 114, 111, 99]) = false := by simpa using h5
              by_cases h6 : (s.toList == [108, 111, 99]) = true
              · have hr : r = true := by rw [HR.out, h6]; simp
                subst hr
                clear HR
                go_enter Tryd.func58, Tryd.ntmps58
                go_wp2_with fail
                go_ret
                exact ⟨rfl, 0, rfl⟩
              · have h6 : (s.toList == [108, 111, 99]) = false := by simpa using h6
                by_cases h7 : (s.toList == [101, 110, 100]) = true
                · have hr : r = true := by rw [HR.out, h7]; simp
                  subst hr
                  clear HR
                  go_enter Tryd.func58, Tryd.ntmps58
                  go_wp2_with fail
                  go_ret
                  exact ⟨rfl, 0, rfl⟩
                · have h7 : (s.toList == [101, 110, 100]) = false := by simpa using h7
                  have hr : r = false := by rw [HR.out, h0, h1, h2, h3, h4, h5, h6, h7]; rfl
                  subst hr
                  clear HR
                  go_enter Tryd.func58, Tryd.ntmps58
                  go_wp2_with fail
                  go_ret
                  exact ⟨rfl, 0, rfl⟩
set_option maxHeartbeats 2000000 in
theorem rreserved_any (s : ByteArray) (w : World) : Calls Tryd.prog 54 #[.string s] w (Draws (.bool (resB s)) w) := by
  have HR := hide (show resB s = ((s.toList == [116, 114, 117, 101]) || (s.toList == [102, 97, 108, 115, 101]) || (s.toList == [118, 97, 114]) || (s.toList == [105, 110]) || (s.toList == [105, 110, 105, 116]) || (s.toList == [112, 114, 111, 99]) || (s.toList == [108, 111, 99]) || (s.toList == [101, 110, 100])) from rfl)
  generalize resB s = r at *
  by_cases h0 : (s.toList == [116, 114, 117, 101]) = true
  · have hr : r = true := by rw [HR.out, h0]; simp
    subst hr
    clear HR
    go_enter Tryd.func54, Tryd.ntmps54
    go_wp2_with fail
    go_ret
    exact ⟨rfl, 0, rfl⟩
  · have h0 : (s.toList == [116, 114, 117, 101]) = false := by simpa using h0
    by_cases h1 : (s.toList == [102, 97, 108, 115, 101]) = true
    · have hr : r = true := by rw [HR.out, h1]; simp
      subst hr
      clear HR
      go_enter Tryd.func54, Tryd.ntmps54
      go_wp2_with fail
      go_ret
      exact ⟨rfl, 0, rfl⟩
    · have h1 : (s.toList == [102, 97, 108, 115, 101]) = false := by simpa using h1
      by_cases h2 : (s.toList == [118, 97, 114]) = true
      · have hr : r = true := by rw [HR.out, h2]; simp
        subst hr
        clear HR
        go_enter Tryd.func54, Tryd.ntmps54
        go_wp2_with fail
        go_ret
        exact ⟨rfl, 0, rfl⟩
      · have h2 : (s.toList == [118, 97, 114]) = false := by simpa using h2
        by_cases h3 : (s.toList == [105, 110]) = true
        · have hr : r = true := by rw [HR.out, h3]; simp
          subst hr
          clear HR
          go_enter Tryd.func54, Tryd.ntmps54
          go_wp2_with fail
          go_ret
          exact ⟨rfl, 0, rfl⟩
        · have h3 : (s.toList == [105, 110]) = false := by simpa using h3
          by_cases h4 : (s.toList == [105, 110, 105, 116]) = true
          · have hr : r = true := by rw [HR.out, h4]; simp
            subst hr
            clear HR
            go_enter Tryd.func54, Tryd.ntmps54
            go_wp2_with fail
            go_ret
            exact ⟨rfl, 0, rfl⟩
          · have h4 : (s.toList == [105, 110, 105, 116]) = false := by simpa using h4
            by_cases h5 : (s.toList == [112, 114, 111, 99]) = true
            · have hr : r = true := by rw [HR.out, h5]; simp
              subst hr
              clear HR
              go_enter Tryd.func54, Tryd.ntmps54
              go_wp2_with fail
              go_ret
              exact ⟨rfl, 0, rfl⟩
            · have h5 : (s.toList == [112, 114, 111, 99]) = false := by simpa using h5
              by_cases h6 : (s.toList == [108, 111, 99]) = true
              · have hr : r = true := by rw [HR.out, h6]; simp
                subst hr
                clear HR
                go_enter Tryd.func54, Tryd.ntmps54
                go_wp2_with fail
                go_ret
                exact ⟨rfl, 0, rfl⟩
              · have h6 : (s.toList == [108, 111, 99]) = false := by simpa using h6
                by_cases h7 : (s.toList == [101, 110, 100]) = true
                · have hr : r = true := by rw [HR.out, h7]; simp
                  subst hr
                  clear HR
                  go_enter Tryd.func54, Tryd.ntmps54
                  go_wp2_with fail
                  go_ret
                  exact ⟨rfl, 0, rfl⟩
                · have h7 : (s.toList == [101, 110, 100]) = false := by simpa using h7
                  have hr : r = false := by rw [HR.out, h0, h1, h2, h3, h4, h5, h6, h7]; rfl
                  subst hr
                  clear HR
                  go_enter Tryd.func54, Tryd.ntmps54
                  go_wp2_with fail
                  go_ret
                  exact ⟨rfl, 0, rfl⟩
def clsB (c : Nat) : Nat := if letB c = true then 1 else if digB c = true then 2 else if c = 95 then 3 else if c = 88 then 4 else if c = 71 then 4 else if c = 70 then 4 else if c = 85 then 4 else if c = 82 then 4 else if c = 32 then 5 else if c = 9 then 5 else if c = 10 then 5 else if c = 35 then 5 else if c = 40 then 6 else if c = 41 then 6 else if c = 44 then 6 else if c = 59 then 6 else if c = 58 then 6 else if c = 46 then 6 else if c = 43 then 6 else if c = 42 then 6 else if c = 38 then 6 else if c = 124 then 6 else if c = 33 then 6 else if c = 64 then 6 else if c = 61 then 6 else if c = 60 then 6 else if c = 62 then 6 else if c = 47 then 6 else if c = 45 then 6 else 0
set_option maxHeartbeats 8000000 in
set_option maxRecDepth 10000 in
theorem class_any (c : Nat) (w : World) : Calls Tryd.prog 25 #[.int .u8 (c : Int)] w (Draws (.int .i64 (clsB c : Nat)) w) := by
  by_cases h1 : 97 ≤ c ∧ c ≤ 122
  · have hr : clsB c = 1 := by unfold clsB; rw [if_pos (by unfold letB; simp [h1.1, h1.2])]
    rw [hr]
    have g1 : (97 : Int) ≤ (c : Int) := by omega
    have g2 : (c : Int) ≤ 122 := by omega
    clear h1 hr
    (go_enter Tryd.func25, Tryd.ntmps25; go_wp2_with fail; go_ret; exact ⟨rfl, 0, rfl⟩)
  · by_cases h2 : 48 ≤ c ∧ c ≤ 57
    · have hr : clsB c = 2 := by unfold clsB; rw [if_neg (by unfold letB; simp; omega), if_pos (by unfold digB; simp [h2.1, h2.2])]
      rw [hr]
      have g1 : ¬ (97 : Int) ≤ (c : Int) := by omega
      have g2 : (48 : Int) ≤ (c : Int) := by omega
      have g3 : (c : Int) ≤ 57 := by omega
      clear h1 h2 hr
      (go_enter Tryd.func25, Tryd.ntmps25; go_wp2_with fail; go_ret; exact ⟨rfl, 0, rfl⟩)
    · by_cases n0 : c = 95
      · subst n0
        clear h1 h2 
        rw [show clsB 95 = 3 by decide]
        (go_enter Tryd.func25, Tryd.ntmps25; go_wp2_with fail; go_ret; exact ⟨rfl, 0, rfl⟩)
      · by_cases n1 : c = 88
        · subst n1
          clear h1 h2 n0
          rw [show clsB 88 = 4 by decide]
          (go_enter Tryd.func25, Tryd.ntmps25; go_wp2_with fail; go_ret; exact ⟨rfl, 0, rfl⟩)
        · by_cases n2 : c = 71
          · subst n2
            clear h1 h2 n0 n1
            rw [show clsB 71 = 4 by decide]
            (go_enter Tryd.func25, Tryd.ntmps25; go_wp2_with fail; go_ret; exact ⟨rfl, 0, rfl⟩)
          · by_cases n3 : c = 70
            · subst n3
              clear h1 h2 n0 n1 n2
              rw [show clsB 70 = 4 by decide]
              (go_enter Tryd.func25, Tryd.ntmps25; go_wp2_with fail; go_ret; exact ⟨rfl, 0, rfl⟩)
            · by_cases n4 : c = 85
              · subst n4
                clear h1 h2 n0 n1 n2 n3
                rw [show clsB 85 = 4 by decide]
                (go_enter Tryd.func25, Tryd.ntmps25; go_wp2_with fail; go_ret; exact ⟨rfl, 0, rfl⟩)
              · by_cases n5 : c = 82
                · subst n5
                  clear h1 h2 n0 n1 n2 n3 n4
                  rw [show clsB 82 = 4 by decide]
                  (go_enter Tryd.func25, Tryd.ntmps25; go_wp2_with fail; go_ret; exact ⟨rfl, 0, rfl⟩)
                · by_cases n6 : c = 32
                  · subst n6
                    clear h1 h2 n0 n1 n2 n3 n4 n5
                    rw [show clsB 32 = 5 by decide]
                    (go_enter Tryd.func25, Tryd.ntmps25; go_wp2_with fail; go_ret; exact ⟨rfl, 0, rfl⟩)
                  · by_cases n7 : c = 9
                    · subst n7
                      clear h1 h2 n0 n1 n2 n3 n4 n5 n6
                      rw [show clsB 9 = 5 by decide]
                      (go_enter Tryd.func25, Tryd.ntmps25; go_wp2_with fail; go_ret; exact ⟨rfl, 0, rfl⟩)
                    · by_cases n8 : c = 10
                      · subst n8
                        clear h1 h2 n0 n1 n2 n3 n4 n5 n6 n7
                        rw [show clsB 10 = 5 by decide]
                        (go_enter Tryd.func25, Tryd.ntmps25; go_wp2_with fail; go_ret; exact ⟨rfl, 0, rfl⟩)
                      · by_cases n9 : c = 35
                        · subst n9
                          clear h1 h2 n0 n1 n2 n3 n4 n5 n6 n7 n8
                          rw [show clsB 35 = 5 by decide]
                          (go_enter Tryd.func25, Tryd.ntmps25; go_wp2_with fail; go_ret; exact ⟨rfl, 0, rfl⟩)
                        · by_cases n10 : c = 40
                          · subst n10
                            clear h1 h2 n0 n1 n2 n3 n4 n5 n6 n7 n8 n9
                            rw [show clsB 40 = 6 by decide]
                            (go_enter Tryd.func25, Tryd.ntmps25; go_wp2_with fail; go_ret; exact ⟨rfl, 0, rfl⟩)
                          · by_cases n11 : c = 41
                            · subst n11
                              clear h1 h2 n0 n1 n2 n3 n4 n5 n6 n7 n8 n9 n10
                              rw [show clsB 41 = 6 by decide]
                              (go_enter Tryd.func25, Tryd.ntmps25; go_wp2_with fail; go_ret; exact ⟨rfl, 0, rfl⟩)
                            · by_cases n12 : c = 44
                              · subst n12
                                clear h1 h2 n0 n1 n2 n3 n4 n5 n6 n7 n8 n9 n10 n11
                                rw [show clsB 44 = 6 by decide]
                                (go_enter Tryd.func25, Tryd.ntmps25; go_wp2_with fail; go_ret; exact ⟨rfl, 0, rfl⟩)
                              · by_cases n13 : c = 59
                                · subst n13
                                  clear h1 h2 n0 n1 n2 n3 n4 n5 n6 n7 n8 n9 n10 n11 n12
                                  rw [show clsB 59 = 6 by decide]
                                  (go_enter Tryd.func25, Tryd.ntmps25; go_wp2_with fail; go_ret; exact ⟨rfl, 0, rfl⟩)
                                · by_cases n14 : c = 58
                                  · subst n14
                                    clear h1 h2 n0 n1 n2 n3 n4 n5 n6 n7 n8 n9 n10 n11 n12 n13
                                    rw [show clsB 58 = 6 by decide]
                                    (go_enter Tryd.func25, Tryd.ntmps25; go_wp2_with fail; go_ret; exact ⟨rfl, 0, rfl⟩)
                                  · by_cases n15 : c = 46
                                    · subst n15
                                      clear h1 h2 n0 n1 n2 n3 n4 n5 n6 n7 n8 n9 n10 n11 n12 n13 n14
                                      rw [show clsB 46 = 6 by decide]
                                      (go_enter Tryd.func25, Tryd.ntmps25; go_wp2_with fail; go_ret; exact ⟨rfl, 0, rfl⟩)
                                    · by_cases n16 : c = 43
                                      · subst n16
                                        clear h1 h2 n0 n1 n2 n3 n4 n5 n6 n7 n8 n9 n10 n11 n12 n13 n14 n15
                                        rw [show clsB 43 = 6 by decide]
                                        (go_enter Tryd.func25, Tryd.ntmps25; go_wp2_with fail; go_ret; exact ⟨rfl, 0, rfl⟩)
                                      · by_cases n17 : c = 42
                                        · subst n17
                                          clear h1 h2 n0 n1 n2 n3 n4 n5 n6 n7 n8 n9 n10 n11 n12 n13 n14 n15 n16
                                          rw [show clsB 42 = 6 by decide]
                                          (go_enter Tryd.func25, Tryd.ntmps25; go_wp2_with fail; go_ret; exact ⟨rfl, 0, rfl⟩)
                                        · by_cases n18 : c = 38
                                          · subst n18
                                            clear h1 h2 n0 n1 n2 n3 n4 n5 n6 n7 n8 n9 n10 n11 n12 n13 n14 n15 n16 n17
                                            rw [show clsB 38 = 6 by decide]
                                            (go_enter Tryd.func25, Tryd.ntmps25; go_wp2_with fail; go_ret; exact ⟨rfl, 0, rfl⟩)
                                          · by_cases n19 : c = 124
                                            · subst n19
                                              clear h1 h2 n0 n1 n2 n3 n4 n5 n6 n7 n8 n9 n10 n11 n12 n13 n14 n15 n16 n17 n18
                                              rw [show clsB 124 = 6 by decide]
                                              (go_enter Tryd.func25, Tryd.ntmps25; go_wp2_with fail; go_ret; exact ⟨rfl, 0, rfl⟩)
                                            · by_cases n20 : c = 33
                                              · subst n20
                                                clear h1 h2 n0 n1 n2 n3 n4 n5 n6 n7 n8 n9 n10 n11 n12 n13 n14 n15 n16 n17 n18 n19
                                                rw [show clsB 33 = 6 by decide]
                                                (go_enter Tryd.func25, Tryd.ntmps25; go_wp2_with fail; go_ret; exact ⟨rfl, 0, rfl⟩)
                                              · by_cases n21 : c = 64
                                                · subst n21
                                                  clear h1 h2 n0 n1 n2 n3 n4 n5 n6 n7 n8 n9 n10 n11 n12 n13 n14 n15 n16 n17 n18 n19 n20
                                                  rw [show clsB 64 = 6 by decide]
                                                  (go_enter Tryd.func25, Tryd.ntmps25; go_wp2_with fail; go_ret; exact ⟨rfl, 0, rfl⟩)
                                                · by_cases n22 : c = 61
                                                  · subst n22
                                                    clear h1 h2 n0 n1 n2 n3 n4 n5 n6 n7 n8 n9 n10 n11 n12 n13 n14 n15 n16 n17 n18 n19 n20 n21
                                                    rw [show clsB 61 = 6 by decide]
                                                    (go_enter Tryd.func25, Tryd.ntmps25; go_wp2_with fail; go_ret; exact ⟨rfl, 0, rfl⟩)
                                                  · by_cases n23 : c = 60
                                                    · subst n23
                                                      clear h1 h2 n0 n1 n2 n3 n4 n5 n6 n7 n8 n9 n10 n11 n12 n13 n14 n15 n16 n17 n18 n19 n20 n21 n22
                                                      rw [show clsB 60 = 6 by decide]
                                                      (go_enter Tryd.func25, Tryd.ntmps25; go_wp2_with fail; go_ret; exact ⟨rfl, 0, rfl⟩)
                                                    · by_cases n24 : c = 62
                                                      · subst n24
                                                        clear h1 h2 n0 n1 n2 n3 n4 n5 n6 n7 n8 n9 n10 n11 n12 n13 n14 n15 n16 n17 n18 n19 n20 n21 n22 n23
                                                        rw [show clsB 62 = 6 by decide]
                                                        (go_enter Tryd.func25, Tryd.ntmps25; go_wp2_with fail; go_ret; exact ⟨rfl, 0, rfl⟩)
                                                      · by_cases n25 : c = 47
                                                        · subst n25
                                                          clear h1 h2 n0 n1 n2 n3 n4 n5 n6 n7 n8 n9 n10 n11 n12 n13 n14 n15 n16 n17 n18 n19 n20 n21 n22 n23 n24
                                                          rw [show clsB 47 = 6 by decide]
                                                          (go_enter Tryd.func25, Tryd.ntmps25; go_wp2_with fail; go_ret; exact ⟨rfl, 0, rfl⟩)
                                                        · by_cases n26 : c = 45
                                                          · subst n26
                                                            clear h1 h2 n0 n1 n2 n3 n4 n5 n6 n7 n8 n9 n10 n11 n12 n13 n14 n15 n16 n17 n18 n19 n20 n21 n22 n23 n24 n25
                                                            rw [show clsB 45 = 6 by decide]
                                                            (go_enter Tryd.func25, Tryd.ntmps25; go_wp2_with fail; go_ret; exact ⟨rfl, 0, rfl⟩)
                                                          · have hr : clsB c = 0 := by unfold clsB; rw [if_neg (by unfold letB; simp; omega), if_neg (by unfold digB; simp; omega), if_neg n0, if_neg n1, if_neg n2, if_neg n3, if_neg n4, if_neg n5, if_neg n6, if_neg n7, if_neg n8, if_neg n9, if_neg n10, if_neg n11, if_neg n12, if_neg n13, if_neg n14, if_neg n15, if_neg n16, if_neg n17, if_neg n18, if_neg n19, if_neg n20, if_neg n21, if_neg n22, if_neg n23, if_neg n24, if_neg n25, if_neg n26]
                                                            rw [hr]
                                                            clear hr
                                                            have m0 : ¬ (c : Int) = 95 := by omega
                                                            have m1 : ¬ (c : Int) = 88 := by omega
                                                            have m2 : ¬ (c : Int) = 71 := by omega
                                                            have m3 : ¬ (c : Int) = 70 := by omega
                                                            have m4 : ¬ (c : Int) = 85 := by omega
                                                            have m5 : ¬ (c : Int) = 82 := by omega
                                                            have m6 : ¬ (c : Int) = 32 := by omega
                                                            have m7 : ¬ (c : Int) = 9 := by omega
                                                            have m8 : ¬ (c : Int) = 10 := by omega
                                                            have m9 : ¬ (c : Int) = 35 := by omega
                                                            have m10 : ¬ (c : Int) = 40 := by omega
                                                            have m11 : ¬ (c : Int) = 41 := by omega
                                                            have m12 : ¬ (c : Int) = 44 := by omega
                                                            have m13 : ¬ (c : Int) = 59 := by omega
                                                            have m14 : ¬ (c : Int) = 58 := by omega
                                                            have m15 : ¬ (c : Int) = 46 := by omega
                                                            have m16 : ¬ (c : Int) = 43 := by omega
                                                            have m17 : ¬ (c : Int) = 42 := by omega
                                                            have m18 : ¬ (c : Int) = 38 := by omega
                                                            have m19 : ¬ (c : Int) = 124 := by omega
                                                            have m20 : ¬ (c : Int) = 33 := by omega
                                                            have m21 : ¬ (c : Int) = 64 := by omega
                                                            have m22 : ¬ (c : Int) = 61 := by omega
                                                            have m23 : ¬ (c : Int) = 60 := by omega
                                                            have m24 : ¬ (c : Int) = 62 := by omega
                                                            have m25 : ¬ (c : Int) = 47 := by omega
                                                            have m26 : ¬ (c : Int) = 45 := by omega
                                                            clear n0 n1 n2 n3 n4 n5 n6 n7 n8 n9 n10 n11 n12 n13 n14 n15 n16 n17 n18 n19 n20 n21 n22 n23 n24 n25 n26
                                                            by_cases q1 : c < 48
                                                            · have g1 : ¬ (97 : Int) ≤ (c : Int) := by omega
                                                              have g2 : ¬ (48 : Int) ≤ (c : Int) := by omega
                                                              clear h1 h2 q1
                                                              (go_enter Tryd.func25, Tryd.ntmps25; go_wp2_with fail; go_ret; exact ⟨rfl, 0, rfl⟩)
                                                            · have g2 : (48 : Int) ≤ (c : Int) := by omega
                                                              have g3 : ¬ (c : Int) ≤ 57 := by omega
                                                              by_cases q2 : c < 97
                                                              · have g1 : ¬ (97 : Int) ≤ (c : Int) := by omega
                                                                clear h1 h2 q1 q2
                                                                (go_enter Tryd.func25, Tryd.ntmps25; go_wp2_with fail; go_ret; exact ⟨rfl, 0, rfl⟩)
                                                              · have g1 : (97 : Int) ≤ (c : Int) := by omega
                                                                have g4 : ¬ (c : Int) ≤ 122 := by omega
                                                                clear h1 h2 q1 q2
                                                                (go_enter Tryd.func25, Tryd.ntmps25; go_wp2_with fail; go_ret; exact ⟨rfl, 0, rfl⟩)
def BoolB (b : Bool) (w : World) (e : Ending) (w' : World) : Prop := e = .returned (.bool b) ∧ Below w.heap.size w w'
def isB (k : Nat) (s : ByteArray) : Bool := decide (s.size ≠ 0) && decide (tokKind (byteAt s 0) = k) && decide (firstSize s = s.size) && decide (chk k s = 0)
theorem tokKind_lt (c : Nat) : tokKind c < 10 := by
  unfold tokKind
  split
  · omega
  · split
    · omega
    · split <;> omega
set_option maxHeartbeats 4000000 in
theorem is_any (k : Nat) (s : ByteArray) (w : World) (_hk : k < 10) (hs : s.size ≤ 4611686018427387904) : Calls Tryd.prog 51 #[.int .i64 (k : Int), .string s] w (BoolB (isB k s) w) := by
  have HB := hide (show isB k s = (decide (s.size ≠ 0) && decide (tokKind (byteAt s 0) = k) && decide (firstSize s = s.size) && decide (chk k s = 0)) from rfl)
  generalize isB k s = r at *
  have he := isEmpty_size s
  have hne : (s.toList == []) = decide (s.size = 0) := by rw [← he]; cases s.toList <;> rfl
  by_cases h0 : s.size = 0
  · have hr : r = false := by rw [HB.out]; simp [h0]
    subst hr
    rw [decide_eq_true h0] at he hne
    clear HB h0
    go_enter Tryd.func51, Tryd.ntmps51
    go_wp2_with fail
    go_ret
    exact ⟨rfl, Below.refl _ _⟩
  · rw [decide_eq_false h0] at he hne
    have hf := first_any s w (by omega) hs
    have hc := fun W => check_any (tokKind (byteAt s 0)) s W (tokKind_lt _) hs
    have HB := hide (show r = (decide (tokKind (byteAt s 0) = k) && decide (firstSize s = s.size) && decide (chk k s = 0)) by rw [HB.out]; simp [h0])
    by_cases h1 : tokKind (byteAt s 0) = k
    · rw [h1] at hf hc
      by_cases h2 : firstSize s = s.size
      · rw [h2] at hf
        by_cases h3 : chk k s = 0
        · have hr : r = true := by rw [HB.out]; simp [h1, h2, h3]
          subst hr
          simp only [h3] at hc
          clear HB h1 h2 h3 h0
          go_enter Tryd.func51, Tryd.ntmps51
          go_wp2_with fail
          refine hf.mono ?_
          rintro e w1 ⟨rfl, b1⟩
          go_wp2_with fail
          refine (hc _).mono ?_
          rintro e w1 ⟨rfl, k1, rfl⟩
          go_wp2_with fail
          go_ret
          exact ⟨rfl, b1.next (bl_drewN _ _)⟩
        · have hr : r = false := by rw [HB.out]; simp [h3]
          subst hr
          have g3 : ¬ (chk k s : Int) = 0 := by omega
          generalize chk k s = z at *
          have b3 : ((z : Int) == 0) = false := by simpa using g3
          clear HB h1 h2 h3 h0
          go_enter Tryd.func51, Tryd.ntmps51
          go_wp2_with fail
          refine hf.mono ?_
          rintro e w1 ⟨rfl, b1⟩
          go_wp2_with fail
          refine (hc _).mono ?_
          rintro e w1 ⟨rfl, k1, rfl⟩
          go_wp2_with fail
          go_ret
          exact ⟨rfl, b1.next (bl_drewN _ _)⟩
      · have hr : r = false := by rw [HB.out]; simp [h2]
        subst hr
        generalize firstSize s = z at *
        have b3 : ((z : Int) == (s.size : Int)) = false := by rw [beq_eq_false_iff_ne]; omega
        clear HB h1 h2 h0 hc
        go_enter Tryd.func51, Tryd.ntmps51
        go_wp2_with fail
        refine hf.mono ?_
        rintro e w1 ⟨rfl, b1⟩
        go_wp2_with fail
        go_ret
        exact ⟨rfl, b1⟩
    · have hr : r = false := by rw [HB.out]; simp [h1]
      subst hr
      generalize tokKind (byteAt s 0) = z at *
      have b3 : ((z : Int) == (k : Int)) = false := by rw [beq_eq_false_iff_ne]; omega
      clear HB h1 h0 hc
      go_enter Tryd.func51, Tryd.ntmps51
      go_wp2_with fail
      refine hf.mono ?_
      rintro e w1 ⟨rfl, b1⟩
      go_wp2_with fail
      go_ret
      exact ⟨rfl, b1⟩
set_option maxHeartbeats 1000000 in
theorem name_any (s : ByteArray) (w : World) (hs : s.size ≤ 4611686018427387904) : Calls Tryd.prog 52 #[.string s] w (BoolB (isB 1 s && !resB s) w) := by
  have hi := is_any 1 s w (by decide) hs
  have hr := fun W => reserved_any s W
  generalize isB 1 s = a at *
  generalize resB s = b at *
  go_enter Tryd.func52, Tryd.ntmps52
  go_wp2_with fail
  refine hi.mono ?_
  rintro e w1 ⟨rfl, b1⟩
  cases a with
  | false =>
    go_wp2_with fail
    go_ret
    exact ⟨rfl, b1⟩
  | true =>
    go_wp2_with fail
    refine (hr _).mono ?_
    rintro e w2 ⟨rfl, k, rfl⟩
    go_wp2_with fail
    go_ret
    exact ⟨by cases b <;> rfl, b1.next (bl_drewN _ _)⟩
set_option maxHeartbeats 1000000 in
theorem number_any (s : ByteArray) (w : World) (hs : s.size ≤ 4611686018427387904) : Calls Tryd.prog 42 #[.string s] w (BoolB (isB 3 s) w) := by
  have hi := is_any 3 s w (by decide) hs
  go_enter Tryd.func42, Tryd.ntmps42
  go_wp2_with fail
  refine hi.mono ?_
  rintro e w1 ⟨rfl, b1⟩
  go_wp2_with fail
  go_ret
  exact ⟨rfl, b1⟩
end Go.Proofs.YtneiajkcikcnnaaDoor
/- plumblineref10: Name, Number; that lex's answer the same. -/
namespace Go.Proofs.YtneiajkcikcnnaaDoor
open Go.RowKit
open Lx

def wordC (c : Nat) : Bool := decide (1 ≤ clsB c) && decide (clsB c ≤ 3)
def digC (c : Nat) : Bool := decide (clsB c = 2)
theorem wordC_eq {c : Nat} (hc : c < 256) : wordC c = wrdB c := by
  have h : allC (fun c => wordC c == wrdB c) 256 = true := by kernel_rfl
  simpa using allC_spec h hc
theorem digC_eq {c : Nat} (hc : c < 256) : digC c = digB c := by
  have h : allC (fun c => digC c == digB c) 256 = true := by kernel_rfl
  simpa using allC_spec h hc
theorem cls1_eq {c : Nat} (hc : c < 256) : decide (clsB c = 1) = letB c := by
  have h : allC (fun c => decide (clsB c = 1) == letB c) 256 = true := by kernel_rfl
  simpa using allC_spec h hc
/-- p holds of every byte from k on. -/
def allFrom (p : Nat → Bool) (s : ByteArray) (k : Nat) : Bool := decide (stop p (byteAt s) s.size k = s.size)
theorem allFrom_step {p : Nat → Bool} {s : ByteArray} {k : Nat} (h : k < s.size) : allFrom p s k = (p (byteAt s k) && allFrom p s (k + 1)) := by
  unfold allFrom
  rw [stop_step _ _ h]
  cases hp : p (byteAt s k) with
  | true => simp
  | false => simp; omega
theorem allFrom_end (p : Nat → Bool) (s : ByteArray) : allFrom p s s.size = true := by unfold allFrom; rw [stop_end]; simp
theorem allFrom_congr {p q : Nat → Bool} (s : ByteArray) (h : ∀ c, c < 256 → p c = q c) : allFrom p s 0 = allFrom q s 0 := by
  have : ∀ m k, k + m = s.size → allFrom p s k = allFrom q s k := by
    intro m
    induction m with
    | zero => intro k hk; obtain rfl : k = s.size := by omega
              rw [allFrom_end, allFrom_end]
    | succ m ih => intro k hk; rw [allFrom_step (p := p) (k := k) (by omega), allFrom_step (p := q) (k := k) (by omega), h _ (byteAt_lt s k), ih (k + 1) (by omega)]
  exact this s.size 0 (by omega)
def rnumB (s : ByteArray) : Bool := !(decide (s.size = 0) || decide (60 < s.size) || (decide (1 < s.size) && decide (byteAt s 0 = 48))) && allFrom digC s 0
def rnameB (s : ByteArray) : Bool := !(decide (s.size = 0) || decide (20 < s.size) || !decide (clsB (byteAt s 0) = 1) || resB s) && allFrom wordC s 0
theorem digit_first {s : ByteArray} (h : 0 < s.size) (ha : allFrom digB s 0 = true) : digB (byteAt s 0) = true := by
  rw [allFrom_step h] at ha
  simp at ha
  exact ha.1
theorem dig_not_let {c : Nat} (h : digB c = true) : letB c = false := by unfold digB at h; unfold letB; simp at h ⊢; omega
theorem number_eq (s : ByteArray) : isB 3 s = rnumB s := by
  unfold isB rnumB
  by_cases h0 : s.size = 0
  · simp [h0]
  · rw [show allFrom digC s 0 = allFrom digB s 0 from allFrom_congr s (fun c hc => digC_eq hc)]
    unfold tokKind firstSize chk
    by_cases hd : digB (byteAt s 0) = true
    · have hl := dig_not_let hd
      simp only [hl, hd, Bool.false_eq_true, if_false, if_true, h0]
      rw [show decide (stop digB (byteAt s) s.size 0 = s.size) = allFrom digB s 0 from rfl]
      cases allFrom digB s 0 with
      | false => simp
      | true =>
        generalize s.size = n at *
        generalize byteAt s 0 = b at *
        by_cases h1 : 60 < n
        · simp [h0, h1]
        · by_cases h2 : 1 < n ∧ b = 48
          · simp [h0, h1, h2.1, h2.2]
          · by_cases h3 : 1 < n
            · have h4 : ¬ b = 48 := fun h => h2 ⟨h3, h⟩
              simp [h0, h1, h3, h4]
            · simp [h0, h1, h3]
    · have hn : allFrom digB s 0 = false := by
        cases h : allFrom digB s 0 with
        | false => rfl
        | true => exact absurd (digit_first (by omega) h) hd
      rw [hn, Bool.and_false]
      have hk : ¬ (if letB (byteAt s 0) = true then 1 else if digB (byteAt s 0) = true then 3 else if bigB (byteAt s 0) = true then 4 else 2) = 3 := by
        rw [if_neg hd]
        split
        · omega
        · split <;> omega
      rw [decide_eq_false hk]
      simp
theorem name_eq (s : ByteArray) : (isB 1 s && !resB s) = rnameB s := by
  unfold isB rnameB
  by_cases h0 : s.size = 0
  · simp [h0]
  · rw [show allFrom wordC s 0 = allFrom wrdB s 0 from allFrom_congr s (fun c hc => wordC_eq hc), cls1_eq (byteAt_lt s 0)]
    unfold tokKind firstSize chk
    by_cases hl : letB (byteAt s 0) = true
    · simp only [hl, if_true, h0, if_false]
      rw [show decide (stop wrdB (byteAt s) s.size 0 = s.size) = allFrom wrdB s 0 from rfl]
      cases allFrom wrdB s 0 with
      | false => simp
      | true =>
        generalize resB s = r at *
        generalize s.size = n at *
        by_cases h1 : 20 < n
        · simp [h0, h1]
        · simp [h0, h1]
    · have hk : ¬ (if letB (byteAt s 0) = true then 1 else if digB (byteAt s 0) = true then 3 else if bigB (byteAt s 0) = true then 4 else 2) = 1 := by
        rw [if_neg hl]
        split
        · omega
        · split <;> omega
      rw [decide_eq_false hk, show letB (byteAt s 0) = false by simpa using hl]
      simp
end Go.Proofs.YtneiajkcikcnnaaDoor
