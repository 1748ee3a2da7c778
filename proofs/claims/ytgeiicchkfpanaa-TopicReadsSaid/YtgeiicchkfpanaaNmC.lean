/- Layer 2: the contract of allParts, and of Topic and Glob. -/
import Derived.Test.YtgeiicchkfpanaaNmB
namespace Go.Proofs.Ytgeiicchkfpanaa
open Go.RowKit Go.Shelf
/-- The iterator at another place. -/
def setIter (w : World) (G : Nat) (s : ByteArray) (p : Nat) : World := { w with heap := w.heap.setIfInBounds G (.stringIter s p) }
theorem setIter_below (w : World) (G : Nat) (s : ByteArray) (p : Nat) : Below G w (setIter w G s p) :=
  ⟨rfl, rfl, rfl, by simp [setIter], fun k hk => by simp [setIter, show G ≠ k by omega]⟩
theorem setIter_heap (w : World) (G : Nat) (s : ByteArray) (p : Nat) (h : G < w.heap.size) : (setIter w G s p).heap[G]? = some (.stringIter s p) := by
  simp [setIter, h]
theorem setIter_size (w : World) (G : Nat) (s : ByteArray) (p : Nat) : (setIter w G s p).heap.size = w.heap.size := by simp [setIter]
theorem next_at (w : World) (G : Nat) (s : ByteArray) (pos : Nat) (ty : TypeId) (hG : w.heap[G]? = some (.stringIter s pos)) (h : pos < s.size) :
    (Instr.next (.pointer (some ⟨G, 0, none⟩)) true ty).run Try.prog w = .ok (.tuple #[.bool true, .int .i64 pos, .int .i32 (Utf8.decode s pos).1]) (setIter w G s (pos + (Utf8.decode s pos).2)) := by
  simp only [Instr.next, getObj, setObj, Sem.run_bind, Sem.run, hG, Result.andThen, h, if_true]
  simp [goInt, setIter]
theorem next_end (w : World) (G : Nat) (s : ByteArray) (pos : Nat) (ty : TypeId) (hG : w.heap[G]? = some (.stringIter s pos)) (h : ¬ pos < s.size) :
    (Instr.next (.pointer (some ⟨G, 0, none⟩)) true ty).run Try.prog w = .ok (.tuple #[.bool false]) w := by
  simp [Instr.next, getObj, Sem.run, hG, h]
theorem ext_add (s : ByteArray) (b p d : Nat) (hb : b ≤ p) (hp : p ≤ s.size) : (s.extract b (p + d)).data.toList = (s.extract b p).data.toList ++ (s.extract p (p + d)).data.toList := by
  rw [ext_list, ext_list, ext_list]
  have e : s.data.toList.take p = (s.data.toList.take (p + d)).take p := by rw [List.take_take]; congr 1; omega
  rw [e]
  have e2 := List.take_append_drop p (s.data.toList.take (p + d))
  have e3 : ((s.data.toList.take (p + d)).take p).length = p := by simp; omega
  conv => lhs; rw [← e2]
  rw [List.drop_append_of_le_length (by omega)]
theorem allParts_any (mf : Nat) (may : List UInt8 → Bool) (hm : May mf may) (s : ByteArray) (w : World) :
    Calls Try.prog 76 #[.string s, .func (.func mf) #[] #[]] w fun e w' => e = .returned (.bool (isL may s.data.toList)) ∧ Below w.heap.size w w' := by
  unfold isL
  rw [← goL_is]
  by_cases hs : s.size ≤ 40
  · have hs' : (s.size : Int) ≤ 40 := by omega
    rw [show decide (s.data.toList.length ≤ 40) = true by simpa using hs, Bool.true_and]
    obtain ⟨V, hV⟩ : ∃ V, V = goL may [] s.data.toList 0 := ⟨_, rfl⟩
    rw [← hV]
    have HV := Lib.hid hV
    have D := Lib.hid (fun w0 w B b at' n T hb ha hn => endsPart_any mf may hm s B w0 w b at' n T hb ha hs hn)
    clear hV hm
    go_enter Try.func76, Try.ntmps76
    go_wp2_with fail
    have T0 : Ends w.heap.size w (((((w.alloc (Obj.cells #[Value.string s] 9)).alloc (Obj.cells #[Value.func (Fn.func mf) #[] #[]] 83)).alloc (Obj.cells #[Value.int IntKind.i64 0] 3)).alloc (Obj.cells #[Value.int IntKind.i64 0] 3)).iter s 0) s mf (0 : Nat) (0 : Nat) := by
      refine ⟨?_, ?_, ?_, ?_, ?_, ?_, by simp [World.iter], (((((Below.refl _ _).alloc (Nat.le_refl _) _).alloc (by simp) _).alloc (by simp; omega) _).alloc (by simp; omega) _).alloc (by simp; omega) _⟩
      all_goals simp [go_sem, World.iter]
    have I0 : (((((w.alloc (Obj.cells #[Value.string s] 9)).alloc (Obj.cells #[Value.func (Fn.func mf) #[] #[]] 83)).alloc (Obj.cells #[Value.int IntKind.i64 0] 3)).alloc (Obj.cells #[Value.int IntKind.i64 0] 3)).iter s 0).heap[w.heap.size + 1 + 1 + 1 + 1]? = some (.stringIter s 0) := by
      have := World.iter_heap ((((w.alloc (Obj.cells #[Value.string s] 9)).alloc (Obj.cells #[Value.func (Fn.func mf) #[] #[]] 83)).alloc (Obj.cells #[Value.int IntKind.i64 0] 3)).alloc (Obj.cells #[Value.int IntKind.i64 0] 3)) s 0
      simpa using this
    generalize ((((w.alloc (Obj.cells #[Value.string s] 9)).alloc (Obj.cells #[Value.func (Fn.func mf) #[] #[]] 83)).alloc (Obj.cells #[Value.int IntKind.i64 0] 3)).alloc (Obj.cells #[Value.int IntKind.i64 0] 3)).iter s 0 = W at *
    go_loopw [] (fun wx => ∃ (pos b n : Nat), Ends w.heap.size w wx s mf b n ∧ wx.heap[w.heap.size + 1 + 1 + 1 + 1]? = some (.stringIter s pos) ∧ b ≤ pos ∧ pos ≤ s.size ∧ n ≤ b ∧ goL may (s.extract b pos).data.toList (s.data.toList.drop pos) n = V) (fun wx => s.size - wx.iterPos (w.heap.size + 1 + 1 + 1 + 1))
    case atStart => exact ⟨0, 0, 0, T0, I0, Nat.le_refl _, Nat.zero_le _, Nat.le_refl _, by rw [ext_list]; exact HV.out.symm⟩
    case round =>
      clear T0 I0
      obtain ⟨pos, b, n, T, hI, hbp, hps, hnb, hv⟩ := hrel
      have hGz : w.heap.size + 1 + 1 + 1 + 1 < wr.heap.size := (Array.getElem?_eq_some_iff.1 hI).1
      have hip : wr.iterPos (w.heap.size + 1 + 1 + 1 + 1) = pos := by simp [World.iterPos, hI]
      by_cases hp : pos < s.size
      · have hnx := fun ty => next_at wr _ s pos ty hI hp
        have T1 := T.keep (by omega) (setIter_below wr (w.heap.size + 1 + 1 + 1 + 1) s (pos + (Utf8.decode s pos).2))
        have I1 := setIter_heap wr (w.heap.size + 1 + 1 + 1 + 1) s (pos + (Utf8.decode s pos).2) hGz
        have Z1 := setIter_size wr (w.heap.size + 1 + 1 + 1 + 1) s (pos + (Utf8.decode s pos).2)
        obtain ⟨d1, d2, d3⟩ := decode_span s pos hp
        have hdr : s.data.toList.drop pos = s[pos]'hp :: s.data.toList.drop (pos + 1) := by
          rw [List.drop_eq_getElem_cons (by simpa using hp)]; rfl
        by_cases hdot : (s[pos]'hp) = 46
        · have hd := decode_ascii s pos hp (by rw [hdot]; decide)
          rw [hd] at hnx T1 I1 Z1
          rw [hdr, hdot, goL_dot] at hv
          have C := D.out w (setIter wr (w.heap.size + 1 + 1 + 1 + 1) s (pos + 1)) _ b pos n T1 hbp hps (by omega)
          generalize (may (s.extract b pos).data.toList && decide (n + 1 ≤ 8)) = q at *
          have C' := Lib.hid C
          have h46 : ((s[pos]'hp).toNat : Int) = 46 := by rw [hdot]; rfl
          rw [show (((s[pos]'hp).toNat, 1) : Nat × Nat).1 = 46 by rw [hdot]; rfl, show (((s[pos]'hp).toNat, 1) : Nat × Nat).2 = 1 from rfl] at hnx
          have Hv := Lib.hid hv
          have HI1 := Lib.hid I1
          have HT := Lib.hid T1
          clear C hv hdr hdot hd h46 T hI T1 I1 d1 d2 d3
          generalize hWs : setIter wr (w.heap.size + 1 + 1 + 1 + 1) s (pos + 1) = W1 at *
          go_wp2_with fail
          refine C'.out.mono ?_
          rintro e w2 ⟨rfl, T2, hz2, hk2⟩
          have Z := Lib.hid (And.intro T2 (And.intro hz2 hk2))
          clear T2 hz2 hk2 C'
          cases q
          · have e : V = false := Hv.out.symm
            subst e
            go_wp2
            go_ret
            exact ⟨rfl, Z.out.1.below⟩
          · have hv' : goL may [] (s.data.toList.drop (pos + 1)) (n + 1) = V := by have := Hv.out; simpa using this
            have Hv' := Lib.hid hv'
            clear hv' Hv
            have hI2 : w2.heap[w.heap.size + 1 + 1 + 1 + 1]? = some (.stringIter s (pos + 1)) := by
              rw [Z.out.2.2 _ (by omega) (by omega)]; exact HI1.out
            have HI2 := Lib.hid hI2
            clear hI2
            go_wp2
            go_roundw
            case rel => exact ⟨pos + 1, pos + 1, n + 1, Z.out.1, HI2.out, Nat.le_refl _, by omega, by omega, by rw [show (s.extract (pos + 1) (pos + 1)).data.toList = [] by rw [ext_list]; exact List.drop_eq_nil_of_le (by simp; omega)]; exact Hv'.out⟩
            case measure =>
              rw [hip, show w2.iterPos (w.heap.size + 1 + 1 + 1 + 1) = pos + 1 by simp [World.iterPos, HI2.out]]
              omega
        · have hne : (Utf8.decode s pos).1 ≠ 46 ∧ ∀ c ∈ (s.extract pos (pos + (Utf8.decode s pos).2)).data.toList, c ≠ 46 := by
            have hmem : ∀ c ∈ (s.extract pos (pos + (Utf8.decode s pos).2)).data.toList, ∃ j, j < (Utf8.decode s pos).2 ∧ ∃ hj : pos + j < s.size, c = s[pos + j]'hj := by
              intro c hc
              rw [ext_list, List.mem_iff_getElem] at hc
              obtain ⟨j, hj, e⟩ := hc
              simp at hj
              refine ⟨j, by omega, by omega, ?_⟩
              rw [← e]
              simp
              rfl
            by_cases hlow : (s[pos]'hp).toNat < 128
            · have hd := decode_ascii s pos hp hlow
              rw [hd] at hmem ⊢
              refine ⟨fun e => hdot (UInt8.toNat_inj.1 e), fun c hc => ?_⟩
              obtain ⟨j, h1, h2, e⟩ := hmem c hc
              have : j = 0 := by simp at h1; exact h1
              subst this
              rw [e]; exact hdot
            · have hh := decode_high s pos hp (by omega)
              refine ⟨by omega, fun c hc => ?_⟩
              obtain ⟨j, h1, h2, e⟩ := hmem c hc
              rw [e]
              by_cases hj0 : j = 0
              · subst hj0; exact hdot
              · have := d3 j (by omega) h1 h2
                intro e2
                rw [e2] at this
                exact absurd this (by decide)
          have hv' : goL may (s.extract b (pos + (Utf8.decode s pos).2)).data.toList (s.data.toList.drop (pos + (Utf8.decode s pos).2)) n = V := by
            rw [← hv]
            have e1 : s.data.toList.drop pos = (s.extract pos (pos + (Utf8.decode s pos).2)).data.toList ++ s.data.toList.drop (pos + (Utf8.decode s pos).2) := by
              rw [ext_list, List.drop_take, show pos + (Utf8.decode s pos).2 - pos = (Utf8.decode s pos).2 by omega, ← List.drop_drop, List.take_append_drop]
            rw [e1, goL_skip may _ n _ _ hne.2]
            congr 1
            exact ext_add s b pos _ hbp hps
          have h46 : ¬ ((Utf8.decode s pos).1 : Int) = 46 := by omega
          have Hv := Lib.hid hv'
          have HI1 := Lib.hid I1
          have HT := Lib.hid T1
          clear hv hv' hdr hdot hne T hI T1 I1 d3
          generalize hWs : setIter wr (w.heap.size + 1 + 1 + 1 + 1) s (pos + (Utf8.decode s pos).2) = W1 at *
          generalize (Utf8.decode s pos).1 = r at *
          generalize (Utf8.decode s pos).2 = d at *
          go_wp2
          go_roundw
          case rel => exact ⟨pos + d, b, n, HT.out, HI1.out, by omega, by omega, by omega, Hv.out⟩
          case measure =>
            rw [hip, show W1.iterPos (w.heap.size + 1 + 1 + 1 + 1) = pos + d by simp [World.iterPos, HI1.out]]
            omega
      · have hpe : pos = s.size := by omega
        subst hpe
        have hnx := fun ty => next_end wr _ s s.size ty hI hp
        have C := D.out w wr _ b s.size n T hbp hps (by omega)
        rw [List.drop_eq_nil_of_le (by simp)] at hv
        unfold goL at hv
        rw [hv] at C
        have C' := Lib.hid C
        have c0 := T.c0
        clear C hv T hI
        go_wp2_with fail
        refine C'.out.mono ?_
        rintro e w2 ⟨rfl, T2, hz2, hk2⟩
        have hb2 := T2.below
        clear T2 hz2 hk2 C'
        go_wp2
        go_ret
        exact ⟨rfl, hb2⟩
  · have hs' : (40 : Int) < s.size := by omega
    rw [show decide (s.data.toList.length ≤ 40) = false by simpa using hs]
    go_enter Try.func76, Try.ntmps76
    go_wp2
    go_ret
    exact ⟨rfl, ((Below.refl _ _).alloc (Nat.le_refl _) _).alloc (by simp) _⟩
theorem topic_any (s : ByteArray) (w : World) :
    Calls Try.prog 60 #[.string s] w fun e w' => e = .returned (.bool (topicL s.data.toList)) ∧ Below w.heap.size w w' := by
  have C := Lib.hid (fun w => allParts_any _ _ may_part s w)
  go_enter Try.func60, Try.ntmps60
  go_wp2_with fail
  refine (C.out _).mono ?_
  rintro e w1 ⟨rfl, hb⟩
  go_wp2
  go_ret
  exact ⟨rfl, hb⟩
end Go.Proofs.Ytgeiicchkfpanaa
