/- Walks of layer 7: Put of a key that is not there. -/
import Derived.Test.YtlpannicklkghaaB14
import Derived.Test.YtlpannicklkghaaB15
import Derived.Test.YtlpannicklkghaaM86
namespace Go.Proofs.Ytlpannicklkghaa
open Go.RowKit

theorem wlv_le {m : Nat} : ∀ {top : Bool} {ls : List (List Nd)}, WLv m top ls → ∀ x ∈ allX ls, x.1.its.length ≤ m
  | _, [], _, x, hx => by simp [allX] at hx
  | _, L :: r, h, x, hx => by
    rw [allX_cons] at hx
    rcases List.mem_append.1 hx with hx | hx
    · have key : ∀ (nx : Option Nat) (L : List Nd) (x : NX), x ∈ linkN nx L → x.1 ∈ L := fun nx L => by
        induction L with
        | nil => intro x hx; simp [linkN] at hx
        | cons n L ih =>
          intro x hx
          rcases List.mem_cons.1 hx with rfl | hx
          · simp
          · exact List.mem_cons_of_mem _ (ih x hx)
      exact (h.1 x.1 (key _ _ _ hx)).2
    · exact wlv_le h.2 x hx
/-- A block that is no node's turns. -/
theorem Hp.other {w w' : World} {Z : Nat → Prop} {D : List NX} {t : Nat} (h : Hp w Z D) (hZ : ∀ k, w.heap.size ≤ k → Z k) (ht : ¬ zd w D t) (hk : ∀ k, k ≠ t → w'.heap[k]? = w.heap[k]?) : Hp w' Z D :=
  (h.tight.kept fun k _ hz => hk k fun e => ht (e ▸ hz)).mono fun k _ hz => (h.zone hz).elim id (hZ k)
theorem GrowP.base {w w1 W : World} {Z : Nat → Prop} {t m cnt : Nat} {its0 : List It} {e : Ending} (h : GrowP w1 Z t m cnt its0 e W) (ho : Only (fun k => Z k ∨ k = t) w w1) : GrowP w Z t m cnt its0 e W := ⟨h.1, ho.trans h.2.1, h.2.2⟩
/-- A leaf's row has got a key, and the tree one more: what grow is handed. -/
theorem put_mem {w5 w6 : World} {Z : Nat → Prop} {t m cnt rb g cap B : Nat} {key val : ByteArray} {ls : List (List Nd)} {rs : List Fr} {A C : List Nd} {n : Nd} {v : Value} (hd0 : DPure key ls rb rs A n C) (hp : Hp w5 Z (allX ls)) (hZ : ∀ k, w5.heap.size ≤ k → Z k) (ht : TrAt w5 t m cnt rb) (hw : WLv m true ls) (hf : foundL key n.its = false)
    (hrow : w5.ownsRow B 101 2 v rs.length (wc rs.reverse)) (h6 : w6.ownsRow 0 86 3 (.slice (some ⟨g, 0, none⟩) (insL key val n.its).length cap) (insL key val n.its).length (ic (insL key val n.its))) (hor : n.v.ownBlock = some g ∨ w5.heap.size ≤ g) (ho : Only (fun k => n.v.ownBlock = some k) w5 w6) :
    GM ((w6.setCell ⟨n.b, 0, none⟩ (.slice (some ⟨g, 0, none⟩) (insL key val n.its).length cap)).setCell ⟨t, 1, none⟩ (.int .i64 ((cnt + 1 : Nat) : Int))) Z t m (cnt + 1) rb key rs (items [A ++ ⟨n.b, .slice (some ⟨g, 0, none⟩) (insL key val n.its).length cap, insL key val n.its⟩ :: C]) ((w6.setCell ⟨n.b, 0, none⟩ (.slice (some ⟨g, 0, none⟩) (insL key val n.its).length cap)).setCell ⟨t, 1, none⟩ (.int .i64 ((cnt + 1 : Nat) : Int))) [] rs A ⟨n.b, .slice (some ⟨g, 0, none⟩) (insL key val n.its).length cap, insL key val n.its⟩ C [] ∧
    ((w6.setCell ⟨n.b, 0, none⟩ (.slice (some ⟨g, 0, none⟩) (insL key val n.its).length cap)).setCell ⟨t, 1, none⟩ (.int .i64 ((cnt + 1 : Nat) : Int))).ownsRow B 101 2 v rs.length (wc rs.reverse) ∧
    Only (fun k => Z k ∨ k = t) w5 ((w6.setCell ⟨n.b, 0, none⟩ (.slice (some ⟨g, 0, none⟩) (insL key val n.its).length cap)).setCell ⟨t, 1, none⟩ (.int .i64 ((cnt + 1 : Nat) : Int))) ∧ t ≠ n.b ∧ w6.cell? ⟨t, 1, none⟩ = some (.int .i64 (cnt : Int)) ∧ (∀ o, w6.frozen? ⟨t, o, none⟩ = false) ∧ (∃ u, w6.cell? ⟨n.b, 0, none⟩ = some u) ∧ ∀ o, w6.frozen? ⟨n.b, o, none⟩ = false := by
  have hls := hd0.all
  subst hls
  have hp1 : Hp w5 Z ((n, hd C none) :: (allX (lvls rs) ++ (linkN (some n.b) A ++ (linkN none C ++ allX [])))) := hp.perm (perm_one (lvls rs) [] A C n)
  have hnd : NdAt w5 n (hd C none) := hp1.head
  have hout := ht.out hp
  have htn : t ≠ n.b := fun e => hout (Or.inl ⟨(n, hd C none), hd0.at_, Or.inl e⟩)
  have htr : n.v.ownBlock ≠ some t := fun e => hout (Or.inl ⟨(n, hd C none), hd0.at_, Or.inr e⟩)
  have ht6 : TrAt w6 t m cnt rb := ht.kept (ho.block t ht.lt htr)
  have hn6 : w6.heap[n.b]? = w5.heap[n.b]? := ho.block _ hnd.lt (ndat_ne hnd hnd)
  obtain ⟨hp7, ho7⟩ := hp1.setRow hZ ho h6 (fun k e => by
    obtain rfl : g = k := by simpa [Value.ownBlock] using e
    exact hor)
  obtain ⟨w7, hw7⟩ : ∃ w7, w6.setCell ⟨n.b, 0, none⟩ (.slice (some ⟨g, 0, none⟩) (insL key val n.its).length cap) = w7 := ⟨_, rfl⟩
  simp only at hp7 ho7
  rw [hw7] at hp7 ho7 ⊢
  have ht7 : TrAt w7 t m cnt rb := ht6.kept (by rw [← hw7]; exact Below.heap_setCell _ _ _ _ (fun e => htn (by simpa using e)))
  have hp7' : Hp w7 Z (allX (lvls rs ++ [A ++ ⟨n.b, .slice (some ⟨g, 0, none⟩) (insL key val n.its).length cap, insL key val n.its⟩ :: C])) := hp7.perm (perm_one (lvls rs) [] A C ⟨n.b, .slice (some ⟨g, 0, none⟩) (insL key val n.its).length cap, insL key val n.its⟩).symm
  have hZ7 : ∀ k, w7.heap.size ≤ k → Z k := fun k hk => hZ k (Nat.le_trans ho7.size hk)
  have hoth : ∀ k, k ≠ t → (w7.setCell ⟨t, 1, none⟩ (.int .i64 ((cnt + 1 : Nat) : Int))).heap[k]? = w7.heap[k]? := fun k hk => Below.heap_setCell _ _ _ _ (fun e => hk (by simpa using e))
  have hp8 := hp7'.other hZ7 (ht7.out hp7') hoth
  have ht8 : TrAt (w7.setCell ⟨t, 1, none⟩ (.int .i64 ((cnt + 1 : Nat) : Int))) t m (cnt + 1) rb := ⟨by rw [heap_setCell_at ht7.cells]; simp⟩
  have ho8 : Only (fun k => Z k ∨ k = t) w5 (w7.setCell ⟨t, 1, none⟩ (.int .i64 ((cnt + 1 : Nat) : Int))) := Only.setCell (Z := fun k => Z k ∨ k = t) (ho7.mono fun _ hk => Or.inl hk) (p := ⟨t, 1, none⟩) (Or.inr rfl) _
  obtain ⟨hwf, hwL, _⟩ := wlv_part hw
  have hgi : GI key m (ctxR (rb, ⟨none, none⟩) rs) rs.isEmpty A ⟨n.b, .slice (some ⟨g, 0, none⟩) (insL key val n.its).length cap, insL key val n.its⟩ C [] := GI.start hd0.good (Frs.loc rfl hd0.frs) hd0.pos hwL hf rfl rfl
  refine ⟨⟨rfl, hd0.frs, hwf, hgi, hp8, rfl, Only.refl _ _, ht8⟩, own_kept hrow fun k e => ?_, ho8, htn, ht6.c1, ht6.fz, ?_, fun o => ?_⟩
  · obtain ⟨_, ⟨e1, _⟩ | ⟨g', cap', cur, e1, _, hg, _⟩⟩ := hrow
    · rw [e1] at e; cases e
    · rw [e1] at e
      obtain rfl : g' = k := by simpa [Value.ownBlock] using e
      have k1 : g' ≠ t := fun e => by
        rw [e, ht.cells] at hg
        cases hg
      have k2 : g' ≠ n.b := fun e => by
        rw [e, hnd.cells] at hg
        cases hg
      rw [hoth g' k1, ← hw7, Below.heap_setCell _ _ _ _ (fun e => k2 (by simpa using e))]
      exact ho.block g' (Array.getElem?_eq_some_iff.1 hg).1 (own_ne hnd.row hg (by decide))
  · exact ⟨_, cell_at hn6 hnd.nc.c0⟩
  · have := hnd.cells
    rw [← hn6] at this
    simp [World.frozen?, this]

set_option maxHeartbeats 8000000 in
set_option maxRecDepth 100000 in
theorem put_new (w : World) (Z : Nat → Prop) (t m cnt rb : Nat) (key val : ByteArray) (ls : List (List Nd)) (ht : TrAt w t m cnt rb) (hp : Hp w Z (allX ls)) (hZ : ∀ k, w.heap.size ≤ k → Z k) (hg : Good [(rb, ⟨none, none⟩)] ls) (hw : WLv m true ls) (hlen : ls.length ≤ 1000000) (hm : 4 ≤ m) (hm2 : m ≤ 64) (hcnt : cnt ≤ 4000000000) (hks : key.size ≤ 281474976710656) (hvs : val.size ≤ 281474976710656) (hnf : ∀ rs A n C, DPure key ls rb rs A n C → foundL key n.its = false) :
    Calls Try.prog 18 #[.pointer (some ⟨t, 0, none⟩), .string key, .string val] w fun e w' => e = .returned (.tuple #[.string ⟨#[]⟩, .bool false]) ∧ ∃ rs A n C v', DPure key ls rb rs A n C ∧ GrowP w Z t m (cnt + 1) (items [A ++ ⟨n.b, v', insL key val n.its⟩ :: C]) (.returned (.tuple #[])) w' := by
  have HW : Hid (TrAt w t m cnt rb ∧ Hp w Z (allX ls) ∧ (∀ k, w.heap.size ≤ k → Z k) ∧ Good [(rb, ⟨none, none⟩)] ls ∧ WLv m true ls ∧ ∀ rs A n C, DPure key ls rb rs A n C → foundL key n.its = false) := ⟨ht, hp, hZ, hg, hw, hnf⟩
  have HC1 := clone_any val w hvs
  clear ht hp hZ hg hw hnf
  go_enter Try.func18, Try.ntmps18
  go_wp2_with fail
  refine HC1.mono ?_
  rintro e w1 ⟨rfl, hb1⟩
  have HD : Hid (Calls Try.prog 32 #[.pointer (some ⟨t, 0, none⟩), .string key] w1 (DescP w1 t key ls rb)) := descend_any w1 Z t rb key ls (HW.out.2.1.later hb1) (HW.out.1.kept (hb1.block _ HW.out.1.lt)).c2 HW.out.2.2.2.1 hlen (fun x hx => by have := wlv_le HW.out.2.2.2.2.1 x hx; omega)
  have HB1 : Hid (Below w.heap.size w w1) := hb1
  clear hb1 HC1
  go_wp2_with fail
  refine HD.out.mono ?_
  rintro e w2 ⟨v, rs, A, n, C, rfl, hinv⟩
  have hpu := hinv.pure
  have hmem := hpu.at_
  have hnl : n.its.length ≤ 64 := Nat.le_trans (wlv_le HW.out.2.2.2.2.1 _ hmem) hm2
  have hb2 : Below w.heap.size w w2 := below_two HB1.out hinv.below
  have hnd : NdAt w2 n (hd C none) := (HW.out.2.1.at_ _ hmem).later hb2
  have hff := HW.out.2.2.2.2.2 _ _ _ _ hpu
  have HF : Hid (Calls Try.prog 33 #[.pointer (some ⟨n.b, 0, none⟩), .string key] w2 fun e w' => e = .returned (.tuple #[.int .i64 (cntL key n.its : Int), .bool false]) ∧ Below w2.heap.size w2 w') := by
    have := find_any w2 n (hd C none) key hnd hinv.srt (by omega)
    rw [hff] at this
    exact this
  have HP : Hid (DPure key ls rb rs A n C ∧ Below w.heap.size w w2 ∧ NdAt w2 n (hd C none) ∧ w2.ownsRow w1.heap.size 101 2 v rs.length (wc rs.reverse) ∧ foundL key n.its = false ∧ rs.length ≤ 1000000) := ⟨hpu, hb2, hnd, hinv.row, hff, by have := hinv.len; omega⟩
  clear hinv hpu hmem hnd hff hb2 HD
  obtain ⟨pv, cv, ev, _⟩ := wrow_form HP.out.2.2.2.1
  subst ev
  obtain ⟨c, hc⟩ : ∃ c, cntL key n.its = c := ⟨_, rfl⟩
  obtain ⟨nb, hnb⟩ : ∃ nb, n.b = nb := ⟨_, rfl⟩
  have HC : Hid (cntL key n.its = c ∧ n.b = nb) := ⟨hc, hnb⟩
  rw [hc, hnb] at HF
  rw [hnb]
  clear hc hnb
  go_wp2_with fail
  refine HF.out.mono ?_
  rintro e w3 ⟨rfl, hb3⟩
  have HB3 : Hid (Below w.heap.size w w3) := below_two HP.out.2.1 hb3
  have HR3 : Hid (w3.ownsRow w1.heap.size 101 2 (.slice pv rs.length cv) rs.length (wc rs.reverse)) := own_kept HP.out.2.2.2.1 fun k e => hb3.block _ (HP.out.2.2.2.1.lt k e).2
  have HC2 := clone_any key w3 hks
  clear hb3 HF
  go_wp2_with fail
  refine HC2.mono ?_
  rintro e w4 ⟨rfl, hb4⟩
  have HB4 : Hid (Below w.heap.size w w4) := below_two HB3.out hb4
  have HR4 : Hid (w4.ownsRow w1.heap.size 101 2 (.slice pv rs.length cv) rs.length (wc rs.reverse)) := own_kept HR3.out fun k e => hb4.block _ (HR3.out.lt k e).2
  have hnd : NdAt w4 n (hd C none) := (HW.out.2.1.at_ _ HP.out.1.at_).later HB4.out
  have c0 := hnd.nc.c0
  obtain ⟨pn, capn, en, _⟩ := irow_form hnd.row
  rw [en, HC.out.2] at c0
  have HIN : Hid (Calls Try.prog 37 #[.slice pn n.its.length capn, .int .i64 (c : Int), .slice (some ⟨w4.heap.size, 0, none⟩) 1 1] (w4.alloc (Obj.cells #[.string key, .string val, .pointer none] 86)) (InsP (w4.alloc (Obj.cells #[.string key, .string val, .pointer none] 86)) n.v (insL key val n.its))) := by
    have h5 := hnd.later ((Below.refl _ w4).alloc (Nat.le_refl _) (Obj.cells #[.string key, .string val, .pointer none] 86))
    have := insert_any _ n.v n.its ⟨key, val, none⟩ (cntL key n.its) w4.heap.size h5.row (by omega) (cntL_le key n.its) (heap_alloc_new w4 _) (fun e => by have := (hnd.row.lt _ e).2; omega)
    rw [HC.out.1, en] at this
    unfold insL
    rw [HC.out.1, en]
    exact this
  have HND : Hid (NdAt w4 n (hd C none) ∧ n.v = .slice pn n.its.length capn) := ⟨hnd, en⟩
  obtain ⟨nl, hnl2⟩ : ∃ nl, n.its.length = nl := ⟨_, rfl⟩
  rw [hnl2] at c0 HIN
  clear hnd en hb4 HC2 hnl2 hnl
  go_wp2_with fail
  refine HIN.out.mono ?_
  rintro e w6 ⟨g, cap, rfl, hrow6, hor, ho6⟩
  have hb5 : Below w.heap.size w (w4.alloc (Obj.cells #[.string key, .string val, .pointer none] 86)) := HB4.out.alloc HB4.out.size _
  have hr5 : (w4.alloc (Obj.cells #[.string key, .string val, .pointer none] 86)).ownsRow w1.heap.size 101 2 (.slice pv rs.length cv) rs.length (wc rs.reverse) := HR4.out.alloc _
  obtain ⟨hgm, hrw, ho8, htn, ct, cf, ⟨u, cn⟩, cnf⟩ := put_mem HP.out.1 (HW.out.2.1.later hb5) (fun k hk => HW.out.2.2.1 k (Nat.le_trans hb5.size hk)) (HW.out.1.kept (hb5.block _ HW.out.1.lt)) HW.out.2.2.2.2.1 HP.out.2.2.2.2.1 hr5 hrow6 hor ho6
  have hZ8 := fun k hk => HW.out.2.2.1 k (Nat.le_trans (Nat.le_trans hb5.size ho8.size) hk)
  have HGR := grow_any _ Z t m (cnt + 1) rb key rs _ _ _ A _ C hZ8 hm hm2 hrw HP.out.2.2.2.2.2 hgm
  have HO : Hid (Only (fun k => Z k ∨ k = t) w ((w6.setCell ⟨n.b, 0, none⟩ (.slice (some ⟨g, 0, none⟩) (insL key val n.its).length cap)).setCell ⟨t, 1, none⟩ (.int .i64 ((cnt + 1 : Nat) : Int)))) := (Only.of hb5).trans ho8
  rw [HC.out.2] at HGR HO cn cnf htn
  have cf1 := cf 1
  have cnf0 := cnf 0
  have htn2 : ¬ nb = t := fun e => htn e.symm
  have hcc : ((cnt + 1 : Nat) : Int) = (cnt : Int) + 1 := by omega
  rw [hcc] at HGR HO
  clear hcc
  obtain ⟨ln, hln⟩ : ∃ ln, (insL key val n.its).length = ln := ⟨_, rfl⟩
  rw [hln] at HGR HO ⊢
  clear hgm hrw ho8 hZ8 hb5 hr5 hrow6 hor ho6 cf cnf c0 hln
  go_wp2_with fail
  refine HGR.mono ?_
  rintro e w9 hgp
  have he := hgp.1
  subst he
  have HGP : Hid (GrowP w Z t m (cnt + 1) (items [A ++ ⟨nb, .slice (some ⟨g, 0, none⟩) ln cap, insL key val n.its⟩ :: C]) (.returned (.tuple #[])) w9) := hgp.base HO.out
  clear hgp HGR
  go_wp2
  refine bodyPost_ret (v := .tuple #[.string ⟨#[]⟩, .bool false]) (by simp [results, Try.results18, go_sem]) rfl ?_
  exact ⟨rfl, rs, A, n, C, .slice (some ⟨g, 0, none⟩) ln cap, HP.out.1, by rw [HC.out.2]; exact HGP.out⟩
end Go.Proofs.Ytlpannicklkghaa
