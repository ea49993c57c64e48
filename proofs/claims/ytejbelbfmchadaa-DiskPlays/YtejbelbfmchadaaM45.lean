/- Layer 4, without the program: a file that is written beside, synced and renamed. -/
import Derived.Test.YtejbelbfmchadaaM44
namespace Go.Proofs.Ytejbelbfmchadaa
open Go

def sw0 (o : List UInt8) (F : Int) : St := ⟨1048576, [([97], (o, o.length))], 0, F, false⟩
def sw1 (o f : List UInt8) (F : Int) : St := ⟨1048576, [([97], (o, o.length)), ([98], (f, 0))], 1, F, false⟩
def sw2 (o f : List UInt8) (F : Int) : St := ⟨1048576, [([97], (o, o.length)), ([98], (f, f.length))], 2, F, false⟩
def sw3 (f : List UInt8) (F : Int) : St := ⟨1048576, [([97], (f, f.length))], 3, F, false⟩
def fallen (st : St) : St := { st with down := true }
def downBy (x : Int) : Int := if 0 < x then x - 1 else x

theorem sw_room {o f : List UInt8} (h : o.length + f.length ≤ 1048576) (F : Int) : roomE (sw0 o F) [98] f.length = 0 := by
  have h1 : nmOk [98] = true := by decide
  have h2 : tot szF (sw0 o F).fs = o.length := by simp [sw0, tot, szF]
  have h3 : ¬ (sw0 o F).size < tot szF (sw0 o F).fs + f.length := by rw [h2]; simp only [sw0]; omega
  have h4 : ¬ 64 ≤ (sw0 o F).fs.length := by simp [sw0]
  simp only [roomE, h1, if_true, h3, h4, and_false, or_self, if_false]
theorem sw_app {o f : List UInt8} (h : o.length + f.length ≤ 1048576) {F : Int} (hF : F ≠ 0) : appR (sw0 o F) [98] f = (0, sw1 o f (downBy F)) := by
  unfold appR
  rw [sw_room h F]
  have hF' : (sw0 o F).armed ≠ 0 := hF
  unfold stepR
  rw [if_neg (by simp [sw0]), if_neg (by simp), if_neg hF']
  rfl
theorem sw_app0 {o f : List UInt8} (h : o.length + f.length ≤ 1048576) : appR (sw0 o 0) [98] f = (3, fallen (sw0 o 0)) := by
  unfold appR
  rw [sw_room h 0]
  rfl
theorem sw_syn {o f : List UInt8} {F : Int} (hF : F ≠ 0) : synR (sw1 o f F) [98] = (0, sw2 o f (downBy F)) := by
  have hF' : (sw1 o f F).armed ≠ 0 := hF
  unfold synR
  rw [show findE (sw1 o f F).fs [98] = 0 from rfl]
  unfold stepR
  rw [if_neg (by simp [sw1]), if_neg (by simp), if_neg hF']
  rfl
theorem sw_syn0 (o f : List UInt8) : synR (sw1 o f 0) [98] = (3, fallen (sw1 o f 0)) := rfl
theorem sw_ren {o f : List UInt8} {F : Int} (hF : F ≠ 0) : renR (sw2 o f F) [98] [97] = (0, sw3 f (downBy F)) := by
  have hF' : (sw2 o f F).armed ≠ 0 := hF
  unfold renR
  rw [show renE (sw2 o f F).fs [98] [97] = 0 from rfl]
  unfold stepR
  rw [if_neg (by simp [sw2]), if_neg (by simp), if_neg hF']
  rfl
theorem sw_ren0 (o f : List UInt8) : renR (sw2 o f 0) [98] [97] = (3, fallen (sw2 o f 0)) := rfl
/-- What is safe stays: the file a behind a crash. -/
theorem sw_read {st : St} {x : List UInt8} {r : Fs} (ks : List Int) (h : st.fs = ([97], (x, x.length)) :: r) : readR (crashR st ks) [97] = (x, 0) := by
  have e : (crashR st ks).fs = ([97], (x, x.length)) :: crashL ks r := by
    show crashL ks st.fs = _
    rw [h, crashL_cons]
    have := crashOne_none (ks := ks) (p := ([97], (x, x.length))) (by simp)
    rw [this.1, this.2]
  have hg : getL (crashR st ks).fs [97] = some (x, x.length) := by rw [e]; rfl
  have hf : findE (crashR st ks).fs [97] = 0 := by
    have h1 : nmOk [97] = true := by decide
    simp [findE, h1, hg]
  unfold readR
  rw [if_neg (by simp [crashR]), if_neg (by rw [hf]; simp)]
  simp [fileOf, hg]
theorem sw_new {o : ByteArray} (h : o.size ≤ 1048576) : newE 1048576 [(⟨#[97]⟩, o, (o.size : Int))] = 0 ∧ newSt 1048576 [(⟨#[97]⟩, o, (o.size : Int))] = sw0 o.data.toList (-1) := by
  constructor
  · have h1 : rNum 1048576 [(⟨#[97]⟩, o, (o.size : Int))] = true := by simp [rNum, okNum]
    have h2 : rNam [(⟨#[97]⟩, o, (o.size : Int))] = true := by simp [rNam, FV.nm]; decide
    have h3 : rRoom 1048576 [(⟨#[97]⟩, o, (o.size : Int))] = true := by simp [rRoom, sumF]; omega
    simp [newE, h1, h2, h3]
  · simp [newSt, newFs, sw0, putL, FV.nm, FV.fl]
theorem sw_arm {o : List UInt8} {F : Int} (h : 0 ≤ F) : armR (sw0 o (-1)) F = (0, sw0 o F) := by
  unfold armR
  rw [if_neg (by omega), if_neg (by simp [sw0])]
  rfl
end Go.Proofs.Ytejbelbfmchadaa
