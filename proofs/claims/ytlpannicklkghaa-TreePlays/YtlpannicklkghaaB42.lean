/- Walks of layer 7: Delete of a key that is there. -/
import Derived.Test.YtlpannicklkghaaB41
import Derived.Test.YtlpannicklkghaaB27
import Derived.Test.YtlpannicklkghaaM94
namespace Go.Proofs.Ytlpannicklkghaa
open Go.RowKit

/-- A leaf's row has lost a key, and the tree one: what shrink is handed. -/
theorem del_mem {w5 w6 : World} {Z : Nat → Prop} {t m cnt rb g cap B : Nat} {key : ByteArray} {ls : List (List Nd)} {rs : List Fr} {A C : List Nd} {n : Nd} {v : Value} (hd0 : DPure key ls rb rs A n C) (hp : Hp w5 Z (allX ls)) (hZ : ∀ k, w5.heap.size ≤ k → Z k) (ht : TrAt w5 t m (cnt + 1) rb) (hw : WLv m true ls) (hf : foundL key n.its = true)
    (hrow : w5.ownsRow B 101 2 v rs.length (wc rs.reverse)) (h6 : w6.ownsRow 0 86 3 (.slice (some ⟨g, 0, none⟩) (cutL key n.its).length cap) (cutL key n.its).length (ic (cutL key n.its))) (hor : n.v.ownBlock = some g ∨ w5.heap.size ≤ g) (ho : Only (fun k => n.v.ownBlock = some k) w5 w6) :
    SM ((w6.setCell ⟨n.b, 0, none⟩ (.slice (some ⟨g, 0, none⟩) (cutL key n.its).length cap)).setCell ⟨t, 1, none⟩ (.int .i64 (cnt : Int))) Z t m cnt rb key rs (items [A ++ ⟨n.b, .slice (some ⟨g, 0, none⟩) (cutL key n.its).length cap, cutL key n.its⟩ :: C]) ((w6.setCell ⟨n.b, 0, none⟩ (.slice (some ⟨g, 0, none⟩) (cutL key n.its).length cap)).setCell ⟨t, 1, none⟩ (.int .i64 (cnt : Int))) [] rs A ⟨n.b, .slice (some ⟨g, 0, none⟩) (cutL key n.its).length cap, cutL key n.its⟩ C [] ∧
    ((w6.setCell ⟨n.b, 0, none⟩ (.slice (some ⟨g, 0, none⟩) (cutL key n.its).length cap)).setCell ⟨t, 1, none⟩ (.int .i64 (cnt : Int))).ownsRow B 101 2 v rs.length (wc rs.reverse) ∧
    Only (fun k => Z k ∨ k = t) w5 ((w6.setCell ⟨n.b, 0, none⟩ (.slice (some ⟨g, 0, none⟩) (cutL key n.its).length cap)).setCell ⟨t, 1, none⟩ (.int .i64 (cnt : Int))) ∧ t ≠ n.b ∧ w6.cell? ⟨t, 1, none⟩ = some (.int .i64 ((cnt + 1 : Nat) : Int)) ∧ (∀ o, w6.frozen? ⟨t, o, none⟩ = false) ∧ (∃ u, w6.cell? ⟨n.b, 0, none⟩ = some u) ∧ ∀ o, w6.frozen? ⟨n.b, o, none⟩ = false := by
  have hls := hd0.all
  subst hls
  have hp1 : Hp w5 Z ((n, hd C none) :: (allX (lvls rs) ++ (linkN (some n.b) A ++ (linkN none C ++ allX [])))) := hp.perm (perm_one (lvls rs) [] A C n)
  have hnd : NdAt w5 n (hd C none) := hp1.head
  have hout := ht.out hp
  have htn : t ≠ n.b := fun e => hout (Or.inl ⟨(n, hd C none), hd0.at_, Or.inl e⟩)
  have htr : n.v.ownBlock ≠ some t := fun e => hout (Or.inl ⟨(n, hd C none), hd0.at_, Or.inr e⟩)
  have ht6 : TrAt w6 t m (cnt + 1) rb := ht.kept (ho.block t ht.lt htr)
  have hn6 : w6.heap[n.b]? = w5.heap[n.b]? := ho.block _ hnd.lt (ndat_ne hnd hnd)
  obtain ⟨hp7, ho7⟩ := hp1.setRow hZ ho h6 (fun k e => by
    obtain rfl : g = k := by simpa [Value.ownBlock] using e
    exact hor)
  obtain ⟨w7, hw7⟩ : ∃ w7, w6.setCell ⟨n.b, 0, none⟩ (.slice (some ⟨g, 0, none⟩) (cutL key n.its).length cap) = w7 := ⟨_, rfl⟩
  simp only at hp7 ho7
  rw [hw7] at hp7 ho7 ⊢
  have ht7 : TrAt w7 t m (cnt + 1) rb := ht6.kept (by rw [← hw7]; exact Below.heap_setCell _ _ _ _ (fun e => htn (by simpa using e)))
  have hp7' : Hp w7 Z (allX (lvls rs ++ [A ++ ⟨n.b, .slice (some ⟨g, 0, none⟩) (cutL key n.its).length cap, cutL key n.its⟩ :: C])) := hp7.perm (perm_one (lvls rs) [] A C ⟨n.b, .slice (some ⟨g, 0, none⟩) (cutL key n.its).length cap, cutL key n.its⟩).symm
  have hZ7 : ∀ k, w7.heap.size ≤ k → Z k := fun k hk => hZ k (Nat.le_trans ho7.size hk)
  have hoth : ∀ k, k ≠ t → (w7.setCell ⟨t, 1, none⟩ (.int .i64 (cnt : Int))).heap[k]? = w7.heap[k]? := fun k hk => Below.heap_setCell _ _ _ _ (fun e => hk (by simpa using e))
  have hp8 := hp7'.other hZ7 (ht7.out hp7') hoth
  have ht8 : TrAt (w7.setCell ⟨t, 1, none⟩ (.int .i64 (cnt : Int))) t m cnt rb := ⟨by rw [heap_setCell_at ht7.cells]; simp⟩
  have ho8 : Only (fun k => Z k ∨ k = t) w5 (w7.setCell ⟨t, 1, none⟩ (.int .i64 (cnt : Int))) := Only.setCell (Z := fun k => Z k ∨ k = t) (ho7.mono fun _ hk => Or.inl hk) (p := ⟨t, 1, none⟩) (Or.inr rfl) _
  obtain ⟨hwf, hwL, _⟩ := wlv_part hw
  have hgi : SI m (ctxR (rb, ⟨none, none⟩) rs) rs.isEmpty A ⟨n.b, .slice (some ⟨g, 0, none⟩) (cutL key n.its).length cap, cutL key n.its⟩ C [] := SI.start hd0.good hd0.pos hwL hf rfl rfl
  refine ⟨⟨rfl, hd0.frs, hwf, hgi, hp8, rfl, Only.refl _ _, ht8⟩, own_kept hrow fun k e => ?_, ho8, htn, ht6.c1, ht6.fz, ?_, fun o => ?_⟩
  · obtain ⟨_, ⟨e1, _⟩ | ⟨g', cap', cur, e1, _, hg, _⟩⟩ := hrow
    · rw [e1] at e; cases e
    · rw [e1] at e
      obtain rfl : g' = k := by simpa [Value.ownBlock] using e
      have k1 : g' ≠ t := fun e => by
        rw [e, ht.cells] at hg
        cases hg
      have k2 : g' ≠ n.b := fun e => by
        rw [e, hnd.cells] at hg
        cases hg
      rw [hoth g' k1, ← hw7, Below.heap_setCell _ _ _ _ (fun e => k2 (by simpa using e))]
      exact ho.block g' (Array.getElem?_eq_some_iff.1 hg).1 (own_ne hnd.row hg (by decide))
  · exact ⟨_, cell_at hn6 hnd.nc.c0⟩
  · have := hnd.cells
    rw [← hn6] at this
    simp [World.frozen?, this]


set_option maxHeartbeats 8000000 in
set_option maxRecDepth 100000 in
theorem del_old (w : World) (Z : Nat → Prop) (t m cnt rb : Nat) (key : ByteArray) (ls : List (List Nd)) (ht : TrAt w t m (cnt + 1) rb) (hp : Hp w Z (allX ls)) (hZ : ∀ k, w.heap.size ≤ k → Z k) (hg : Good [(rb, ⟨none, none⟩)] ls) (hw : WLv m true ls) (hlen : ls.length ≤ 1000000) (hm : 4 ≤ m) (hm2 : m ≤ 64) (hcnt : cnt ≤ 4000000000) (hnf : ∀ rs A n C, DPure key ls rb rs A n C → foundL key n.its = true) :
    Calls Try.prog 17 #[.pointer (some ⟨t, 0, none⟩), .string key] w fun e w' => ∃ rs A n C v', DPure key ls rb rs A n C ∧ e = .returned (.tuple #[.string (valL key n.its), .bool true]) ∧ GrowP w Z t m cnt (items [A ++ ⟨n.b, v', cutL key n.its⟩ :: C]) (.returned (.tuple #[])) w' := by
  have HW : Hid (TrAt w t m (cnt + 1) rb ∧ Hp w Z (allX ls) ∧ (∀ k, w.heap.size ≤ k → Z k) ∧ Good [(rb, ⟨none, none⟩)] ls ∧ WLv m true ls ∧ ∀ rs A n C, DPure key ls rb rs A n C → foundL key n.its = true) := ⟨ht, hp, hZ, hg, hw, hnf⟩
  have HD : Hid (Calls Try.prog 32 #[.pointer (some ⟨t, 0, none⟩), .string key] w (DescP w t key ls rb)) := descend_any w Z t rb key ls hp ht.c2 hg hlen (fun x hx => by have := wlv_le hw x hx; omega)
  clear ht hp hZ hg hw hnf
  go_enter Try.func17, Try.ntmps17
  go_wp2_with fail
  refine HD.out.mono ?_
  rintro e w2 ⟨v, rs, A, n, C, rfl, hinv⟩
  have hpu := hinv.pure
  have hmem := hpu.at_
  have hnl : n.its.length ≤ 64 := Nat.le_trans (wlv_le HW.out.2.2.2.2.1 _ hmem) hm2
  have hb2 : Below w.heap.size w w2 := hinv.below
  have hnd : NdAt w2 n (hd C none) := (HW.out.2.1.at_ _ hmem).later hb2
  have hff := HW.out.2.2.2.2.2 _ _ _ _ hpu
  have hcl := found_lt hff
  have HF : Hid (Calls Try.prog 33 #[.pointer (some ⟨n.b, 0, none⟩), .string key] w2 fun e w' => e = .returned (.tuple #[.int .i64 (cntL key n.its : Int), .bool true]) ∧ Below w2.heap.size w2 w') := by
    have := find_any w2 n (hd C none) key hnd hinv.srt (by omega)
    rw [hff] at this
    exact this
  have HP : Hid (DPure key ls rb rs A n C ∧ Below w.heap.size w w2 ∧ NdAt w2 n (hd C none) ∧ w2.ownsRow w.heap.size 101 2 v rs.length (wc rs.reverse) ∧ foundL key n.its = true ∧ rs.length ≤ 1000000) := ⟨hpu, hb2, hnd, hinv.row, hff, by have := hinv.len; omega⟩
  clear hinv hpu hmem hnd hff hb2 HD
  obtain ⟨pv, cv, ev, _⟩ := wrow_form HP.out.2.2.2.1
  subst ev
  obtain ⟨c, hc⟩ : ∃ c, cntL key n.its = c := ⟨_, rfl⟩
  obtain ⟨nb, hnb⟩ : ∃ nb, n.b = nb := ⟨_, rfl⟩
  have HC : Hid (cntL key n.its = c ∧ n.b = nb) := ⟨hc, hnb⟩
  rw [hc] at hcl
  rw [hc, hnb] at HF
  rw [hnb]
  clear hc hnb
  go_wp2_with fail
  refine HF.out.mono ?_
  rintro e w3 ⟨rfl, hb3⟩
  have HB3 : Hid (Below w.heap.size w w3) := below_two HP.out.2.1 hb3
  have HR3 : Hid (w3.ownsRow w.heap.size 101 2 (.slice pv rs.length cv) rs.length (wc rs.reverse)) := own_kept HP.out.2.2.2.1 fun k e => hb3.block _ (HP.out.2.2.2.1.lt k e).2
  have hnd : NdAt w3 n (hd C none) := (HW.out.2.1.at_ _ HP.out.1.at_).later HB3.out
  have c0 := hnd.nc.c0
  obtain ⟨gn, capn, en, _, _, _, hcc, _⟩ := irow_at hnd.row (by omega)
  rw [en, HC.out.2] at c0
  have cv1 := (hcc c hcl).2.1
  have hvx : valL key n.its = (n.its[c]).val := by
    unfold valL
    rw [HP.out.2.2.2.2.1, HC.out.1, List.getElem?_eq_getElem hcl]
    rfl
  have HDE : Hid (Calls Try.prog 34 #[.slice (some ⟨gn, 0, none⟩) n.its.length capn, .int .i64 (c : Int), .int .i64 ((c : Int) + 1)] w3 fun e w' => e = .returned (.slice (some ⟨gn, 0, none⟩) (cutL key n.its).length capn) ∧ w'.ownsRow 0 86 3 (.slice (some ⟨gn, 0, none⟩) (cutL key n.its).length capn) (cutL key n.its).length (ic (cutL key n.its)) ∧ Only (fun k => n.v.ownBlock = some k) w3 w') := by
    have h5 := hnd.row
    rw [en] at h5
    have h6 := delete_any w3 gn capn n.its c (c + 1) h5 (by omega) (by omega) (by omega)
    have hl : c + (n.its.length - (c + 1)) = (cutL key n.its).length := by
      have := cutL_length HP.out.2.2.2.2.1
      omega
    have hcu : n.its.take c ++ n.its.drop (c + 1) = cutL key n.its := by unfold cutL; rw [HC.out.1]
    rw [hl, hcu] at h6
    refine h6.mono ?_
    rintro e w' ⟨q1, q2, q3⟩
    refine ⟨q1, q2, q3.mono fun k hk => ?_⟩
    rw [en, hk]
    rfl
  obtain ⟨xv, hxv⟩ : ∃ xv, valL key n.its = xv := ⟨_, rfl⟩
  rw [← hvx, hxv] at cv1
  have HXV : Hid (valL key n.its = xv) := hxv
  have HND : Hid (NdAt w3 n (hd C none) ∧ n.v = .slice (some ⟨gn, 0, none⟩) n.its.length capn) := ⟨hnd, en⟩
  obtain ⟨nl, hnl2⟩ : ∃ nl, n.its.length = nl := ⟨_, rfl⟩
  rw [hnl2] at c0 HDE hcl
  have hcli : (c : Int) < (nl : Int) := by omega
  have hc64 : c ≤ 64 := by omega
  clear hnd en hcc hnl2 hnl hvx hxv hb3 HF
  go_wp2_with fail
  refine HDE.out.mono ?_
  rintro e w6 ⟨rfl, hrow6, ho6⟩
  obtain ⟨hgm, hrw, ho8, htn, ct, cf, ⟨u, cn⟩, cnf⟩ := del_mem HP.out.1 (HW.out.2.1.later HB3.out) (fun k hk => HW.out.2.2.1 k (Nat.le_trans HB3.out.size hk)) (HW.out.1.kept (HB3.out.block _ HW.out.1.lt)) HW.out.2.2.2.2.1 HP.out.2.2.2.2.1 HR3.out hrow6 (Or.inl (by rw [HND.out.2]; rfl)) ho6
  have hZ8 := fun k hk => HW.out.2.2.1 k (Nat.le_trans (Nat.le_trans HB3.out.size ho8.size) hk)
  have HGR := shrink_any _ Z t m cnt rb key rs _ _ _ A _ C hZ8 hm hm2 hrw HP.out.2.2.2.2.2 hgm
  have HO : Hid (Only (fun k => Z k ∨ k = t) w ((w6.setCell ⟨n.b, 0, none⟩ (.slice (some ⟨gn, 0, none⟩) (cutL key n.its).length capn)).setCell ⟨t, 1, none⟩ (.int .i64 (cnt : Int)))) := (Only.of HB3.out).trans ho8
  rw [HC.out.2] at HGR HO cn cnf htn
  have cf1 := cf 1
  have cnf0 := cnf 0
  have htn2 : ¬ nb = t := fun e => htn e.symm
  rw [Int.natCast_add] at ct
  obtain ⟨ln, hln⟩ : ∃ ln, (cutL key n.its).length = ln := ⟨_, rfl⟩
  rw [hln] at HGR HO ⊢
  clear hgm hrw ho8 hZ8 hrow6 ho6 cf cnf c0 hln
  go_wp2_with fail

  refine HGR.mono ?_
  rintro e w9 hgp
  have he := hgp.1
  subst he
  have HGP : Hid (GrowP w Z t m cnt (items [A ++ ⟨nb, .slice (some ⟨gn, 0, none⟩) ln capn, cutL key n.its⟩ :: C]) (.returned (.tuple #[])) w9) := hgp.base HO.out
  clear hgp HGR
  go_wp2
  refine bodyPost_ret (v := .tuple #[.string xv, .bool true]) (by simp [results, Try.results17, go_sem]) rfl ?_
  exact ⟨rs, A, n, C, .slice (some ⟨gn, 0, none⟩) ln capn, HP.out.1, by rw [HXV.out], by rw [HC.out.2]; exact HGP.out⟩
end Go.Proofs.Ytlpannicklkghaa
