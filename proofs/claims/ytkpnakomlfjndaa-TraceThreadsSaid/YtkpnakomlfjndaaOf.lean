/- The records of a thread; comparing lists of records. -/
import Derived.Test.YtkpnakomlfjndaaItems
import Derived.Test.YtkpnakomlfjndaaIe
import Derived.Deep.DeepCutAuto
namespace Go.Proofs.Ytkpnakomlfjndaa
open Go.ChangeShapes Go.WideShapes Go.ChangeAt Go.RowKit
set_option maxRecDepth 100000

def ofE (l : List ItemM) (t : Int) : List ItemM := l.filter (fun x => x.thr == t)
theorem of_next {l : List ItemM} {k : Nat} {t : Int} {x : ItemM} (hk : k < l.length) (hx : l.getD k noItem = x) : ofE (l.take (k + 1)) t = ofE (l.take k) t ++ (if x.thr == t then [x] else []) := by
  have e : l[k] = x := by rw [← hx, List.getD_eq_getElem?_getD, List.getElem?_eq_getElem hk]; rfl
  unfold ofE
  rw [List.take_succ_eq_append_getElem hk, List.filter_append, e]
  by_cases h : (x.thr == t) = true
  · simp [h]
  · simp [h]
theorem of_len (l : List ItemM) (k : Nat) (t : Int) : (ofE (l.take k) t).length ≤ l.length := Nat.le_trans (List.length_filter_le _ _) (by simp; omega)
def OfR (l : List ItemM) (t : Int) (w : World) (e : Ending) (w' : World) : Prop := ∃ v', e = .returned v' ∧ OwnT w' w.heap.size v' (ofE l t) ∧ Below w.heap.size w w'
theorem OfR.start {w : World} {l : List ItemM} {t : Int} : OwnT w w.heap.size (.slice none 0 0) (ofE (l.take 0) t) := OwnT.nil _ _
set_option maxHeartbeats 8000000 in
theorem of_any (v : Value) (l : List ItemM) (t : Int) (w : World) (h : SlT w v l) (hl : l.length ≤ 1000) : Calls Try.prog 43 #[v, .int .i64 t] w (OfR l t w) := by
  have H := Lib.hid h
  obtain ⟨a, cap, rfl, hcap⟩ := h.len
  clear h
  go_enter Try.func43, Try.ntmps43
  go_wp2_with fail
  go_loopw [5, 10] (fun u5 u6 wr => ∃ (k : Nat) (A : Option Addr) (c : Nat), k ≤ l.length ∧ u6 = .int .i64 k ∧ u5 = .slice A (ofE (l.take k) t).length c ∧ Hid (OwnT wr w.heap.size (.slice A (ofE (l.take k) t).length c) (ofE (l.take k) t)) ∧ Hid (Below w.heap.size w wr)) (fun u5 u6 _ => 1001 - (intOf u6).toNat)
  case atStart => exact ⟨0, none, 0, by omega, rfl, rfl, OfR.start, Below.refl _ _⟩
  case round =>
    obtain ⟨k, A, c, hk, rfl, rfl, HO, HB⟩ := hrel
    obtain ⟨wo, rfl⟩ : ∃ wo : World, wo = wr := ⟨_, rfl⟩
    have hfl := of_len l k t
    by_cases hlt : k < l.length
    · obtain ⟨b, off, cap', e, hcap2, hb, hcell⟩ := H.out.open (by rintro rfl; simp at hlt)
      simp only [Value.slice.injEq] at e
      obtain ⟨rfl, -, rfl⟩ := e
      obtain ⟨x, hx⟩ : ∃ x, l.getD k noItem = x := ⟨_, rfl⟩
      have hck := hcell k hlt
      rw [hx] at hck
      have HN := Lib.hid (of_next (t := t) hlt hx)
      have hbo : b < wo.heap.size := Nat.lt_of_lt_of_le hb HB.out.size
      have hcc : ∀ j, wo.cell? ⟨b, j, none⟩ = w.cell? ⟨b, j, none⟩ := fun j => HB.out.cell (p := ⟨b, j, none⟩) hb
      obtain ⟨c0, c1, c2, c3, c4, c5, c6, c7⟩ := hck
      rw [← hcc] at c0 c1 c2 c3 c4 c5 c6 c7
      rw [Nat.add_zero] at c0
      clear hcell hx hcc
      generalize hL : ofE (l.take k) t = L at *
      clear hL
      have N4 : Hid ((wo.alloc (.cells zeroItem 57)).heap[wo.heap.size]? = some (.cells zeroItem 57 (0, 0))) := heap_alloc_new _ _
      obtain ⟨W4, hW4⟩ : ∃ W4, (wo.alloc (.cells zeroItem 57)).setRow wo.heap.size #[.int .i64 x.thr, .int .i64 x.acc.kind, .int .i64 x.acc.addr, .int .u64 x.acc.old, .int .u64 x.acc.new, .int .i64 x.acc.til, .int .u64 x.val, .bool x.ok] = W4 := ⟨_, rfl⟩
      have hB4 : Hid (Below wo.heap.size wo W4) := hW4 ▸ row_below (below_new (Below.refl _ _) _) (Nat.le_refl _) _
      have R4 : Hid (W4.heap[wo.heap.size]? = some (.cells #[.int .i64 x.thr, .int .i64 x.acc.kind, .int .i64 x.acc.addr, .int .u64 x.acc.old, .int .u64 x.acc.new, .int .i64 x.acc.til, .int .u64 x.val, .bool x.ok] 57 (0, 0))) := hW4 ▸ setRow_heap _ _ _ _ _ (0, 0) N4.out
      have HW4 := Lib.hid hW4
      clear hW4
      go_upto_region 5 with (refine wpList_store_row rfl 57 _ _ rfl (wo.heap.size) _ rfl rfl 57 zeroItem N4.out (by kernel_rfl) rfl (by simp [Value.oneCell']) ?_)
      rw [show (#[.int .i64 0, .int .i64 0, .int .i64 0, .int .u64 0, .int .u64 0, .int .i64 0, .int .u64 0, .bool false] : Array Value) = zeroItem from rfl, HW4.out]
      clear HW4 N4 c0 c1 c2 c3 c4 c5 c6 c7
      try simp only [Act.put]
      obtain ⟨c0, c1, c2, c3, c4, c5, c6, c7⟩ := rowc8 R4.out
      have HO4 := Lib.hid (HO.out.below hB4.out)
      have HB5 := Lib.hid (below_then HB.out hB4.out)
      clear HO HB hB4 R4
      cases hth : (x.thr == t) with
      | true =>
        rw [hth] at HN
        have HN2 : Hid (ofE (l.take (k + 1)) t = L ++ [x]) := HN.out
        have hsz := HB5.out.size
        go_wp2_with (at_builtin; refine wp_append_item _ rfl _ _ rfl w.heap.size (.slice A L.length c) L rfl (HO4.out.alloc _) x _ rfl ?_ ?_ ?_ ?_; exact ⟨World.cell?_alloc_at _ _ _ _ (by simp), World.cell?_alloc_at _ _ _ _ (by simp), World.cell?_alloc_at _ _ _ _ (by simp), World.cell?_alloc_at _ _ _ _ (by simp), World.cell?_alloc_at _ _ _ _ (by simp), World.cell?_alloc_at _ _ _ _ (by simp), World.cell?_alloc_at _ _ _ _ (by simp), World.cell?_alloc_at _ _ _ _ (by simp)⟩; omega; simp; omega; intro v9 w9 ho9 hg9; obtain ⟨A9, c9, e9⟩ := ho9.len; subst e9)
        have HB9 : Hid (Below w.heap.size w w9) := (below_new HB5.out _).grown hg9 (by simp; omega) (fun j hj => HO4.out.own_ge j hj)
        have HO9 : Hid (OwnT w9 w.heap.size (.slice A9 (ofE (l.take (k + 1)) t).length c9) (ofE (l.take (k + 1)) t)) := by rw [HN2.out]; exact ho9
        have hel : (ofE (l.take (k + 1)) t).length = (L ++ [x]).length := by rw [HN2.out]
        have HEL := Lib.hid hel
        clear ho9 hg9 hel
        go_roundw
        case rel => exact ⟨k + 1, A9, c9, by omega, by go_num, by rw [HEL.out, List.length_append]; rfl, HO9, HB9⟩
        case measure => simp [intOf]; omega
      | false =>
        rw [hth] at HN
        have HN2 : Hid (ofE (l.take (k + 1)) t = L) := HN.out.trans (List.append_nil _)
        have HO9 : Hid (OwnT W4 w.heap.size (.slice A (ofE (l.take (k + 1)) t).length c) (ofE (l.take (k + 1)) t)) := by rw [HN2.out]; exact HO4.out
        have HEL : Hid (L.length = (ofE (l.take (k + 1)) t).length) := by show L.length = _; rw [HN2.out]
        go_wp2
        go_roundw
        case rel => exact ⟨k + 1, A, c, by omega, by go_num, by rw [HEL.out], HO9, HB5⟩
        case measure => simp [intOf]; omega
    · obtain rfl : k = l.length := by omega
      rw [List.take_length] at HO ⊢
      go_wp2
      go_ret
      exact ⟨_, rfl, HO.out, HB.out⟩
set_option maxHeartbeats 8000000 in
theorem rof_any (v : Value) (l : List ItemM) (t : Int) (w : World) (h : SlT w v l) (hl : l.length ≤ 1000) : Calls Try.prog 45 #[v, .int .i64 t] w (OfR l t w) := by
  have H := Lib.hid h
  obtain ⟨a, cap, rfl, hcap⟩ := h.len
  clear h
  go_enter Try.func45, Try.ntmps45
  go_wp2_with fail
  go_loopw [5, 6] (fun u5 u6 wr => ∃ (k : Nat) (A : Option Addr) (c : Nat), k ≤ l.length ∧ u6 = .int .i64 k ∧ u5 = .slice A (ofE (l.take k) t).length c ∧ Hid (OwnT wr w.heap.size (.slice A (ofE (l.take k) t).length c) (ofE (l.take k) t)) ∧ Hid (Below w.heap.size w wr)) (fun u5 u6 _ => 1001 - (intOf u6).toNat)
  case atStart => exact ⟨0, none, 0, by omega, rfl, rfl, OfR.start, Below.refl _ _⟩
  case round =>
    obtain ⟨k, A, c, hk, rfl, rfl, HO, HB⟩ := hrel
    obtain ⟨wo, rfl⟩ : ∃ wo : World, wo = wr := ⟨_, rfl⟩
    have hfl := of_len l k t
    by_cases hlt : k < l.length
    · obtain ⟨b, off, cap', e, hcap2, hb, hcell⟩ := H.out.open (by rintro rfl; simp at hlt)
      simp only [Value.slice.injEq] at e
      obtain ⟨rfl, -, rfl⟩ := e
      obtain ⟨x, hx⟩ : ∃ x, l.getD k noItem = x := ⟨_, rfl⟩
      have hck := hcell k hlt
      rw [hx] at hck
      have HN := Lib.hid (of_next (t := t) hlt hx)
      have hbo : b < wo.heap.size := Nat.lt_of_lt_of_le hb HB.out.size
      have hcc : ∀ j, wo.cell? ⟨b, j, none⟩ = w.cell? ⟨b, j, none⟩ := fun j => HB.out.cell (p := ⟨b, j, none⟩) hb
      obtain ⟨c0, c1, c2, c3, c4, c5, c6, c7⟩ := hck
      rw [← hcc] at c0 c1 c2 c3 c4 c5 c6 c7
      rw [Nat.add_zero] at c0
      clear hcell hx hcc
      generalize hL : ofE (l.take k) t = L at *
      clear hL
      cases hth : (x.thr == t) with
      | true =>
        rw [hth] at HN
        have HN2 : Hid (ofE (l.take (k + 1)) t = L ++ [x]) := HN.out
        have hsz := HB.out.size
        go_wp2_with (at_builtin; refine wp_append_item _ rfl _ _ rfl w.heap.size (.slice A L.length c) L rfl (HO.out.alloc _) x _ rfl ?_ ?_ ?_ ?_; exact ⟨World.cell?_alloc_at _ _ _ _ (by simp), World.cell?_alloc_at _ _ _ _ (by simp), World.cell?_alloc_at _ _ _ _ (by simp), World.cell?_alloc_at _ _ _ _ (by simp), World.cell?_alloc_at _ _ _ _ (by simp), World.cell?_alloc_at _ _ _ _ (by simp), World.cell?_alloc_at _ _ _ _ (by simp), World.cell?_alloc_at _ _ _ _ (by simp)⟩; omega; simp; omega; intro v9 w9 ho9 hg9; obtain ⟨A9, c9, e9⟩ := ho9.len; subst e9)
        have HB9 : Hid (Below w.heap.size w w9) := (below_new HB.out _).grown hg9 (by simp; omega) (fun j hj => HO.out.own_ge j hj)
        have HO9 : Hid (OwnT w9 w.heap.size (.slice A9 (ofE (l.take (k + 1)) t).length c9) (ofE (l.take (k + 1)) t)) := by rw [HN2.out]; exact ho9
        have hel : (ofE (l.take (k + 1)) t).length = (L ++ [x]).length := by rw [HN2.out]
        have HEL := Lib.hid hel
        clear ho9 hg9 hel
        go_roundw
        case rel => exact ⟨k + 1, A9, c9, by omega, by go_num, by rw [HEL.out, List.length_append]; rfl, HO9, HB9⟩
        case measure => simp [intOf]; omega
      | false =>
        rw [hth] at HN
        have HN2 : Hid (ofE (l.take (k + 1)) t = L) := HN.out.trans (List.append_nil _)
        have HO9 : Hid (OwnT wo w.heap.size (.slice A (ofE (l.take (k + 1)) t).length c) (ofE (l.take (k + 1)) t)) := by rw [HN2.out]; exact HO.out
        have HEL : Hid (L.length = (ofE (l.take (k + 1)) t).length) := by show L.length = _; rw [HN2.out]
        go_wp2
        go_roundw
        case rel => exact ⟨k + 1, A, c, by omega, by go_num, by rw [HEL.out], HO9, HB⟩
        case measure => simp [intOf]; omega
    · obtain rfl : k = l.length := by omega
      rw [List.take_length] at HO ⊢
      go_wp2
      go_ret
      exact ⟨_, rfl, HO.out, HB.out⟩
set_option maxHeartbeats 8000000 in
theorem sameItems_true (v u : Value) (l : List ItemM) (w : World) (h : SlT w v l) (h' : SlT w u l) (hl : l.length ≤ 1000) :
    Calls Try.prog 44 #[v, u] w fun e w' => e = .returned (.bool true) ∧ Below w.heap.size w w' := by
  have H := Lib.hid h
  have H' := Lib.hid h'
  obtain ⟨a, cap, rfl, hcap⟩ := h.len
  obtain ⟨a', cap', rfl, hcap'⟩ := h'.len
  clear h h'
  go_enter Try.func44, Try.ntmps44
  go_wp2_with fail
  go_loopw [5] (fun u5 wr => ∃ k : Nat, k ≤ l.length ∧ u5 = .int .i64 k ∧ Hid (∃ n, w.drewN n = wr)) (fun u5 _ => 1001 - (intOf u5).toNat)
  case atStart => exact ⟨0, by omega, rfl, 0, rfl⟩
  case round =>
    obtain ⟨k, hk, rfl, hw⟩ := hrel
    obtain ⟨W, rfl⟩ : ∃ W : World, W = wr := ⟨_, rfl⟩
    by_cases hlt : k < l.length
    · obtain ⟨b, off, cap1, e, hcap2, hb, hcell⟩ := H.out.open (by rintro rfl; simp at hlt)
      obtain ⟨b', off', cap2, e', hcap3, hb', hcell'⟩ := H'.out.open (by rintro rfl; simp at hlt)
      simp only [Value.slice.injEq] at e e'
      obtain ⟨rfl, -, rfl⟩ := e
      obtain ⟨rfl, -, rfl⟩ := e'
      obtain ⟨x, hx⟩ : ∃ x, l.getD k noItem = x := ⟨_, rfl⟩
      have hck := hcell k hlt
      have hck' := hcell' k hlt
      rw [hx] at hck hck'
      obtain ⟨c0, c1, c2, c3, c4, c5, c6, c7⟩ := hck
      obtain ⟨d0, d1, d2, d3, d4, d5, d6, d7⟩ := hck'
      have hcc : ∀ b j, W.cell? ⟨b, j, none⟩ = w.cell? ⟨b, j, none⟩ := fun b j => by
        obtain ⟨n, rfl⟩ := hw.out
        rfl
      rw [← hcc] at c0 c1 c2 c3 c4 c5 c6 c7 d0 d1 d2 d3 d4 d5 d6 d7
      rw [Nat.add_zero] at c0 d0
      clear hcell hcell' hx hcc
      have hnext : Hid (∀ m, ∃ n, w.drewN n = W.drewN m) := fun m => by
        obtain ⟨n, rfl⟩ := hw.out
        exact ⟨n + m, by simp⟩
      go_wp2_with fail
      go_quiet (fail)
      go_wp2
      go_roundw
      case rel => exact ⟨k + 1, by omega, by go_num, hnext.out _⟩
      case measure => simp [intOf]; omega
    · obtain rfl : k = l.length := by omega
      have hfin : Hid (Below w.heap.size w W) := by
        obtain ⟨n, rfl⟩ := hw.out
        exact below_drewN (Below.refl _ _) n
      go_wp2
      go_ret
      exact ⟨rfl, hfin.out⟩
end Go.Proofs.Ytkpnakomlfjndaa
