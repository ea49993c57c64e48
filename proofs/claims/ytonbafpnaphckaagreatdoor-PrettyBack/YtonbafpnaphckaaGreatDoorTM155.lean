/- M155 M156 -/
import Derived.Test.YtonbafpnaphckaaGreatDoorTM146
namespace Go.Proofs.YtonbafpnaphckaaGreatDoor
open Go Go.RowKit
theorem toks_upd : Toks [85,80,68,65,84,69,32,116,32,83,69,84,32,97,32,61,32,97,45,40,98,45,49,41,44,32,98,32,61,32,45,40,45,49,41,42,50] 0 [((4,0,⟨#[85,80,68,65,84,69]⟩),0),((3,0,⟨#[116]⟩),7),((4,0,⟨#[83,69,84]⟩),9),((3,0,⟨#[97]⟩),13),((7,0,⟨#[61]⟩),15),((3,0,⟨#[97]⟩),17),((7,0,⟨#[45]⟩),18),((7,0,⟨#[40]⟩),19),((3,0,⟨#[98]⟩),20),((7,0,⟨#[45]⟩),21),((2,1,⟨#[]⟩),22),((7,0,⟨#[41]⟩),23),((7,0,⟨#[44]⟩),24),((3,0,⟨#[98]⟩),26),((7,0,⟨#[61]⟩),28),((7,0,⟨#[45]⟩),30),((7,0,⟨#[40]⟩),31),((7,0,⟨#[45]⟩),32),((2,1,⟨#[]⟩),33),((7,0,⟨#[41]⟩),34),((7,0,⟨#[42]⟩),35),((2,2,⟨#[]⟩),36),((1,0,⟨#[]⟩),37)]:=by
 have h0 : tokR (pce [85,80,68,65,84,69,32,116,32,83,69,84,32,97,32,61,32,97,45,40,98,45,49,41,44,32,98,32,61,32,45,40,45,49,41,42,50]) = ((4,0,⟨#[85,80,68,65,84,69]⟩),0):=by
  rw [show pce [85,80,68,65,84,69,32,116,32,83,69,84,32,97,32,61,32,97,45,40,98,45,49,41,44,32,98,32,61,32,45,40,45,49,41,42,50] = [85,80,68,65,84,69] from by decide +kernel,tokR_run (by decide +kernel),if_pos (by decide +kernel)]
  rfl
 have h1 : tokR (pce [32,116,32,83,69,84,32,97,32,61,32,97,45,40,98,45,49,41,44,32,98,32,61,32,45,40,45,49,41,42,50]) = ((3,0,⟨#[116]⟩),0):=by
  rw [show pce [32,116,32,83,69,84,32,97,32,61,32,97,45,40,98,45,49,41,44,32,98,32,61,32,45,40,45,49,41,42,50] = [116] from by decide +kernel,tokR_run (by decide +kernel),if_neg (by decide +kernel),if_pos (by decide +kernel)]
  rfl
 have h2 : tokR (pce [32,83,69,84,32,97,32,61,32,97,45,40,98,45,49,41,44,32,98,32,61,32,45,40,45,49,41,42,50]) = ((4,0,⟨#[83,69,84]⟩),0):=by
  rw [show pce [32,83,69,84,32,97,32,61,32,97,45,40,98,45,49,41,44,32,98,32,61,32,45,40,45,49,41,42,50] = [83,69,84] from by decide +kernel,tokR_run (by decide +kernel),if_pos (by decide +kernel)]
  rfl
 have h3 : tokR (pce [32,97,32,61,32,97,45,40,98,45,49,41,44,32,98,32,61,32,45,40,45,49,41,42,50]) = ((3,0,⟨#[97]⟩),0):=by
  rw [show pce [32,97,32,61,32,97,45,40,98,45,49,41,44,32,98,32,61,32,45,40,45,49,41,42,50] = [97] from by decide +kernel,tokR_run (by decide +kernel),if_neg (by decide +kernel),if_pos (by decide +kernel)]
  rfl
 have h4 : tokR (pce [32,61,32,97,45,40,98,45,49,41,44,32,98,32,61,32,45,40,45,49,41,42,50]) = ((7,0,⟨#[61]⟩),0):=by
  rw [show pce [32,61,32,97,45,40,98,45,49,41,44,32,98,32,61,32,45,40,45,49,41,42,50] = [61] from by decide +kernel,tokR_sign (by decide +kernel)]
  rfl
 have h5 : tokR (pce [32,97,45,40,98,45,49,41,44,32,98,32,61,32,45,40,45,49,41,42,50]) = ((3,0,⟨#[97]⟩),0):=by
  rw [show pce [32,97,45,40,98,45,49,41,44,32,98,32,61,32,45,40,45,49,41,42,50] = [97] from by decide +kernel,tokR_run (by decide +kernel),if_neg (by decide +kernel),if_pos (by decide +kernel)]
  rfl
 have h6 : tokR (pce [45,40,98,45,49,41,44,32,98,32,61,32,45,40,45,49,41,42,50]) = ((7,0,⟨#[45]⟩),0):=by
  rw [show pce [45,40,98,45,49,41,44,32,98,32,61,32,45,40,45,49,41,42,50] = [45] from by decide +kernel,tokR_sign (by decide +kernel)]
  rfl
 have h7 : tokR (pce [40,98,45,49,41,44,32,98,32,61,32,45,40,45,49,41,42,50]) = ((7,0,⟨#[40]⟩),0):=by
  rw [show pce [40,98,45,49,41,44,32,98,32,61,32,45,40,45,49,41,42,50] = [40] from by decide +kernel,tokR_sign (by decide +kernel)]
  rfl
 have h8 : tokR (pce [98,45,49,41,44,32,98,32,61,32,45,40,45,49,41,42,50]) = ((3,0,⟨#[98]⟩),0):=by
  rw [show pce [98,45,49,41,44,32,98,32,61,32,45,40,45,49,41,42,50] = [98] from by decide +kernel,tokR_run (by decide +kernel),if_neg (by decide +kernel),if_pos (by decide +kernel)]
  rfl
 have h9 : tokR (pce [45,49,41,44,32,98,32,61,32,45,40,45,49,41,42,50]) = ((7,0,⟨#[45]⟩),0):=by
  rw [show pce [45,49,41,44,32,98,32,61,32,45,40,45,49,41,42,50] = [45] from by decide +kernel,tokR_sign (by decide +kernel)]
  rfl
 have h10 : tokR (pce [49,41,44,32,98,32,61,32,45,40,45,49,41,42,50]) = ((2,1,⟨#[]⟩),0):=by
  rw [show pce [49,41,44,32,98,32,61,32,45,40,45,49,41,42,50] = [49] from by decide +kernel,tokR_digit (by decide +kernel),parR_ok (v:=(1,1,⟨#[]⟩)) ⟨by decide +kernel,by decide +kernel⟩,if_pos rfl]
 have h11 : tokR (pce [41,44,32,98,32,61,32,45,40,45,49,41,42,50]) = ((7,0,⟨#[41]⟩),0):=by
  rw [show pce [41,44,32,98,32,61,32,45,40,45,49,41,42,50] = [41] from by decide +kernel,tokR_sign (by decide +kernel)]
  rfl
 have h12 : tokR (pce [44,32,98,32,61,32,45,40,45,49,41,42,50]) = ((7,0,⟨#[44]⟩),0):=by
  rw [show pce [44,32,98,32,61,32,45,40,45,49,41,42,50] = [44] from by decide +kernel,tokR_sign (by decide +kernel)]
  rfl
 have h13 : tokR (pce [32,98,32,61,32,45,40,45,49,41,42,50]) = ((3,0,⟨#[98]⟩),0):=by
  rw [show pce [32,98,32,61,32,45,40,45,49,41,42,50] = [98] from by decide +kernel,tokR_run (by decide +kernel),if_neg (by decide +kernel),if_pos (by decide +kernel)]
  rfl
 have h14 : tokR (pce [32,61,32,45,40,45,49,41,42,50]) = ((7,0,⟨#[61]⟩),0):=by
  rw [show pce [32,61,32,45,40,45,49,41,42,50] = [61] from by decide +kernel,tokR_sign (by decide +kernel)]
  rfl
 have h15 : tokR (pce [32,45,40,45,49,41,42,50]) = ((7,0,⟨#[45]⟩),0):=by
  rw [show pce [32,45,40,45,49,41,42,50] = [45] from by decide +kernel,tokR_sign (by decide +kernel)]
  rfl
 have h16 : tokR (pce [40,45,49,41,42,50]) = ((7,0,⟨#[40]⟩),0):=by
  rw [show pce [40,45,49,41,42,50] = [40] from by decide +kernel,tokR_sign (by decide +kernel)]
  rfl
 have h17 : tokR (pce [45,49,41,42,50]) = ((7,0,⟨#[45]⟩),0):=by
  rw [show pce [45,49,41,42,50] = [45] from by decide +kernel,tokR_sign (by decide +kernel)]
  rfl
 have h18 : tokR (pce [49,41,42,50]) = ((2,1,⟨#[]⟩),0):=by
  rw [show pce [49,41,42,50] = [49] from by decide +kernel,tokR_digit (by decide +kernel),parR_ok (v:=(1,1,⟨#[]⟩)) ⟨by decide +kernel,by decide +kernel⟩,if_pos rfl]
 have h19 : tokR (pce [41,42,50]) = ((7,0,⟨#[41]⟩),0):=by
  rw [show pce [41,42,50] = [41] from by decide +kernel,tokR_sign (by decide +kernel)]
  rfl
 have h20 : tokR (pce [42,50]) = ((7,0,⟨#[42]⟩),0):=by
  rw [show pce [42,50] = [42] from by decide +kernel,tokR_sign (by decide +kernel)]
  rfl
 have h21 : tokR (pce [50]) = ((2,2,⟨#[]⟩),0):=by
  rw [show pce [50] = [50] from by decide +kernel,tokR_digit (by decide +kernel),parR_ok (v:=(1,2,⟨#[]⟩)) ⟨by decide +kernel,by decide +kernel⟩,if_pos rfl]
 have t22:=Toks.fin (l:=[]) (a:=37) (by decide +kernel)
 have t21:=Toks.more (l:=[50]) (a:=36) (by decide +kernel) h21 t22
 have t20:=Toks.more (l:=[42,50]) (a:=35) (by decide +kernel) h20 t21
 have t19:=Toks.more (l:=[41,42,50]) (a:=34) (by decide +kernel) h19 t20
 have t18:=Toks.more (l:=[49,41,42,50]) (a:=33) (by decide +kernel) h18 t19
 have t17:=Toks.more (l:=[45,49,41,42,50]) (a:=32) (by decide +kernel) h17 t18
 have t16:=Toks.more (l:=[40,45,49,41,42,50]) (a:=31) (by decide +kernel) h16 t17
 have t15:=Toks.more (l:=[32,45,40,45,49,41,42,50]) (a:=29) (by decide +kernel) h15 t16
 have t14:=Toks.more (l:=[32,61,32,45,40,45,49,41,42,50]) (a:=27) (by decide +kernel) h14 t15
 have t13:=Toks.more (l:=[32,98,32,61,32,45,40,45,49,41,42,50]) (a:=25) (by decide +kernel) h13 t14
 have t12:=Toks.more (l:=[44,32,98,32,61,32,45,40,45,49,41,42,50]) (a:=24) (by decide +kernel) h12 t13
 have t11:=Toks.more (l:=[41,44,32,98,32,61,32,45,40,45,49,41,42,50]) (a:=23) (by decide +kernel) h11 t12
 have t10:=Toks.more (l:=[49,41,44,32,98,32,61,32,45,40,45,49,41,42,50]) (a:=22) (by decide +kernel) h10 t11
 have t9:=Toks.more (l:=[45,49,41,44,32,98,32,61,32,45,40,45,49,41,42,50]) (a:=21) (by decide +kernel) h9 t10
 have t8:=Toks.more (l:=[98,45,49,41,44,32,98,32,61,32,45,40,45,49,41,42,50]) (a:=20) (by decide +kernel) h8 t9
 have t7:=Toks.more (l:=[40,98,45,49,41,44,32,98,32,61,32,45,40,45,49,41,42,50]) (a:=19) (by decide +kernel) h7 t8
 have t6:=Toks.more (l:=[45,40,98,45,49,41,44,32,98,32,61,32,45,40,45,49,41,42,50]) (a:=18) (by decide +kernel) h6 t7
 have t5:=Toks.more (l:=[32,97,45,40,98,45,49,41,44,32,98,32,61,32,45,40,45,49,41,42,50]) (a:=16) (by decide +kernel) h5 t6
 have t4:=Toks.more (l:=[32,61,32,97,45,40,98,45,49,41,44,32,98,32,61,32,45,40,45,49,41,42,50]) (a:=14) (by decide +kernel) h4 t5
 have t3:=Toks.more (l:=[32,97,32,61,32,97,45,40,98,45,49,41,44,32,98,32,61,32,45,40,45,49,41,42,50]) (a:=12) (by decide +kernel) h3 t4
 have t2:=Toks.more (l:=[32,83,69,84,32,97,32,61,32,97,45,40,98,45,49,41,44,32,98,32,61,32,45,40,45,49,41,42,50]) (a:=8) (by decide +kernel) h2 t3
 have t1:=Toks.more (l:=[32,116,32,83,69,84,32,97,32,61,32,97,45,40,98,45,49,41,44,32,98,32,61,32,45,40,45,49,41,42,50]) (a:=6) (by decide +kernel) h1 t2
 have t0:=Toks.more (l:=[85,80,68,65,84,69,32,116,32,83,69,84,32,97,32,61,32,97,45,40,98,45,49,41,44,32,98,32,61,32,45,40,45,49,41,42,50]) (a:=0) (by decide +kernel) h0 t1
 exact t0

def exA1 : Ex:=over 5 2 18 [.mk 3 0 v0 ⟨#[]⟩ ⟨#[97]⟩ [] 17,over 5 2 21 [.mk 3 0 v0 ⟨#[]⟩ ⟨#[98]⟩ [] 20,.mk 1 0 (1,1,⟨#[]⟩) ⟨#[]⟩ ⟨#[]⟩ [] 22]]

def exA2 : Ex:=over 5 3 35 [over 4 0 30 [over 4 0 32 [.mk 1 0 (1,1,⟨#[]⟩) ⟨#[]⟩ ⟨#[]⟩ [] 33]],.mk 1 0 (1,2,⟨#[]⟩) ⟨#[]⟩ ⟨#[]⟩ [] 36]

def stA : St:=⟨2,⟨#[116]⟩,⟨#[]⟩,[],[],[],false,[(⟨#[97]⟩,exA1,13),(⟨#[98]⟩,exA2,26)],[],[],[],0,0⟩

theorem ex_A1 : exprR (⟨[((3,0,⟨#[97]⟩),17),((7,0,⟨#[45]⟩),18),((7,0,⟨#[40]⟩),19),((3,0,⟨#[98]⟩),20),((7,0,⟨#[45]⟩),21),((2,1,⟨#[]⟩),22),((7,0,⟨#[41]⟩),23),((7,0,⟨#[44]⟩),24),((3,0,⟨#[98]⟩),26),((7,0,⟨#[61]⟩),28),((7,0,⟨#[45]⟩),30),((7,0,⟨#[40]⟩),31),((7,0,⟨#[45]⟩),32),((2,1,⟨#[]⟩),33),((7,0,⟨#[41]⟩),34),((7,0,⟨#[42]⟩),35),((2,2,⟨#[]⟩),36),((1,0,⟨#[]⟩),37)],0,0⟩ : PS) (.ok exA1 (⟨[((7,0,⟨#[44]⟩),24),((3,0,⟨#[98]⟩),26),((7,0,⟨#[61]⟩),28),((7,0,⟨#[45]⟩),30),((7,0,⟨#[40]⟩),31),((7,0,⟨#[45]⟩),32),((2,1,⟨#[]⟩),33),((7,0,⟨#[41]⟩),34),((7,0,⟨#[42]⟩),35),((2,2,⟨#[]⟩),36),((1,0,⟨#[]⟩),37)],0,0⟩ : PS)):=⟨16,by rfl⟩

theorem ex_A2 : exprR (⟨[((7,0,⟨#[45]⟩),30),((7,0,⟨#[40]⟩),31),((7,0,⟨#[45]⟩),32),((2,1,⟨#[]⟩),33),((7,0,⟨#[41]⟩),34),((7,0,⟨#[42]⟩),35),((2,2,⟨#[]⟩),36),((1,0,⟨#[]⟩),37)],0,0⟩ : PS) (.ok exA2 (⟨[((1,0,⟨#[]⟩),37)],0,0⟩ : PS)):=⟨16,by rfl⟩

theorem set_A1 : setR (⟨[((3,0,⟨#[97]⟩),13),((7,0,⟨#[61]⟩),15),((3,0,⟨#[97]⟩),17),((7,0,⟨#[45]⟩),18),((7,0,⟨#[40]⟩),19),((3,0,⟨#[98]⟩),20),((7,0,⟨#[45]⟩),21),((2,1,⟨#[]⟩),22),((7,0,⟨#[41]⟩),23),((7,0,⟨#[44]⟩),24),((3,0,⟨#[98]⟩),26),((7,0,⟨#[61]⟩),28),((7,0,⟨#[45]⟩),30),((7,0,⟨#[40]⟩),31),((7,0,⟨#[45]⟩),32),((2,1,⟨#[]⟩),33),((7,0,⟨#[41]⟩),34),((7,0,⟨#[42]⟩),35),((2,2,⟨#[]⟩),36),((1,0,⟨#[]⟩),37)],0,0⟩ : PS) (.ok (⟨#[97]⟩,exA1,13) (⟨[((7,0,⟨#[44]⟩),24),((3,0,⟨#[98]⟩),26),((7,0,⟨#[61]⟩),28),((7,0,⟨#[45]⟩),30),((7,0,⟨#[40]⟩),31),((7,0,⟨#[45]⟩),32),((2,1,⟨#[]⟩),33),((7,0,⟨#[41]⟩),34),((7,0,⟨#[42]⟩),35),((2,2,⟨#[]⟩),36),((1,0,⟨#[]⟩),37)],0,0⟩ : PS)):=thenR_ok (rfl) (thenR_ok (rfl) (thenR_ok (ex_A1) (rfl)))

theorem set_A2 : setR (⟨[((3,0,⟨#[98]⟩),26),((7,0,⟨#[61]⟩),28),((7,0,⟨#[45]⟩),30),((7,0,⟨#[40]⟩),31),((7,0,⟨#[45]⟩),32),((2,1,⟨#[]⟩),33),((7,0,⟨#[41]⟩),34),((7,0,⟨#[42]⟩),35),((2,2,⟨#[]⟩),36),((1,0,⟨#[]⟩),37)],0,0⟩ : PS) (.ok (⟨#[98]⟩,exA2,26) (⟨[((1,0,⟨#[]⟩),37)],0,0⟩ : PS)):=thenR_ok (rfl) (thenR_ok (rfl) (thenR_ok (ex_A2) (rfl)))

theorem ls_A : listR setR 16 (⟨[((3,0,⟨#[97]⟩),13),((7,0,⟨#[61]⟩),15),((3,0,⟨#[97]⟩),17),((7,0,⟨#[45]⟩),18),((7,0,⟨#[40]⟩),19),((3,0,⟨#[98]⟩),20),((7,0,⟨#[45]⟩),21),((2,1,⟨#[]⟩),22),((7,0,⟨#[41]⟩),23),((7,0,⟨#[44]⟩),24),((3,0,⟨#[98]⟩),26),((7,0,⟨#[61]⟩),28),((7,0,⟨#[45]⟩),30),((7,0,⟨#[40]⟩),31),((7,0,⟨#[45]⟩),32),((2,1,⟨#[]⟩),33),((7,0,⟨#[41]⟩),34),((7,0,⟨#[42]⟩),35),((2,2,⟨#[]⟩),36),((1,0,⟨#[]⟩),37)],0,0⟩ : PS) (.ok [(⟨#[97]⟩,exA1,(13 : Int)),(⟨#[98]⟩,exA2,(26 : Int))] (⟨[((1,0,⟨#[]⟩),37)],0,0⟩ : PS)):=by
 refine LsR.more (f:=setR) (acc:=([] : List Se)) (s:=(⟨[((3,0,⟨#[97]⟩),13),((7,0,⟨#[61]⟩),15),((3,0,⟨#[97]⟩),17),((7,0,⟨#[45]⟩),18),((7,0,⟨#[40]⟩),19),((3,0,⟨#[98]⟩),20),((7,0,⟨#[45]⟩),21),((2,1,⟨#[]⟩),22),((7,0,⟨#[41]⟩),23),((7,0,⟨#[44]⟩),24),((3,0,⟨#[98]⟩),26),((7,0,⟨#[61]⟩),28),((7,0,⟨#[45]⟩),30),((7,0,⟨#[40]⟩),31),((7,0,⟨#[45]⟩),32),((2,1,⟨#[]⟩),33),((7,0,⟨#[41]⟩),34),((7,0,⟨#[42]⟩),35),((2,2,⟨#[]⟩),36),((1,0,⟨#[]⟩),37)],0,0⟩ : PS)) (s1:=(⟨[((7,0,⟨#[44]⟩),24),((3,0,⟨#[98]⟩),26),((7,0,⟨#[61]⟩),28),((7,0,⟨#[45]⟩),30),((7,0,⟨#[40]⟩),31),((7,0,⟨#[45]⟩),32),((2,1,⟨#[]⟩),33),((7,0,⟨#[41]⟩),34),((7,0,⟨#[42]⟩),35),((2,2,⟨#[]⟩),36),((1,0,⟨#[]⟩),37)],0,0⟩ : PS)) (a:=((⟨#[97]⟩,exA1,(13 : Int)) : Se)) ?_ rfl ?_
 ·exact set_A1
 ·exact LsR.last (f:=setR) (acc:=[((⟨#[97]⟩,exA1,(13 : Int)) : Se)]) (s:=(⟨[((3,0,⟨#[98]⟩),26),((7,0,⟨#[61]⟩),28),((7,0,⟨#[45]⟩),30),((7,0,⟨#[40]⟩),31),((7,0,⟨#[45]⟩),32),((2,1,⟨#[]⟩),33),((7,0,⟨#[41]⟩),34),((7,0,⟨#[42]⟩),35),((2,2,⟨#[]⟩),36),((1,0,⟨#[]⟩),37)],0,0⟩ : PS)) (s1:=(⟨[((1,0,⟨#[]⟩),37)],0,0⟩ : PS)) (a:=((⟨#[98]⟩,exA2,(26 : Int)) : Se)) (show setR (PS.cnt (⟨[((3,0,⟨#[98]⟩),26),((7,0,⟨#[61]⟩),28),((7,0,⟨#[45]⟩),30),((7,0,⟨#[40]⟩),31),((7,0,⟨#[45]⟩),32),((2,1,⟨#[]⟩),33),((7,0,⟨#[41]⟩),34),((7,0,⟨#[42]⟩),35),((2,2,⟨#[]⟩),36),((1,0,⟨#[]⟩),37)],0,0⟩ : PS) 1 16) _ from set_A2) rfl

theorem wh_A : whereR (⟨[((1,0,⟨#[]⟩),37)],0,0⟩ : PS) (.ok [] (⟨[((1,0,⟨#[]⟩),37)],0,0⟩ : PS)):=ifR_not rfl rfl

theorem st_A : stR (⟨[((4,0,⟨#[85,80,68,65,84,69]⟩),0),((3,0,⟨#[116]⟩),7),((4,0,⟨#[83,69,84]⟩),9),((3,0,⟨#[97]⟩),13),((7,0,⟨#[61]⟩),15),((3,0,⟨#[97]⟩),17),((7,0,⟨#[45]⟩),18),((7,0,⟨#[40]⟩),19),((3,0,⟨#[98]⟩),20),((7,0,⟨#[45]⟩),21),((2,1,⟨#[]⟩),22),((7,0,⟨#[41]⟩),23),((7,0,⟨#[44]⟩),24),((3,0,⟨#[98]⟩),26),((7,0,⟨#[61]⟩),28),((7,0,⟨#[45]⟩),30),((7,0,⟨#[40]⟩),31),((7,0,⟨#[45]⟩),32),((2,1,⟨#[]⟩),33),((7,0,⟨#[41]⟩),34),((7,0,⟨#[42]⟩),35),((2,2,⟨#[]⟩),36),((1,0,⟨#[]⟩),37)],0,0⟩ : PS) (.ok stA (⟨[((1,0,⟨#[]⟩),37)],0,0⟩ : PS)):=thenR_ok (ifR_not rfl (ifR_yes rfl (thenR_ok (rfl) (thenR_ok (rfl) (thenR_ok (ls_A) (thenR_ok (wh_A) (rfl))))))) (rfl)

theorem out_A : outOf (.ok stA (⟨[((1,0,⟨#[]⟩),37)],0,0⟩ : PS)) = .st stA:=by rfl

theorem parse_A {x : Out} (h : ParseIs ⟨#[85,80,68,65,84,69,32,116,32,83,69,84,32,97,32,61,32,97,45,40,98,45,49,41,44,32,98,32,61,32,45,40,45,49,41,42,50]⟩ x) : x = .st stA:=h.one ⟨_,0,0,Or.inr ⟨by decide,Or.inl ⟨rfl,rfl,toks_upd⟩⟩,Or.inr ⟨rfl,_,st_A,out_A.symm⟩⟩

theorem xS_A : xS stA = [85,80,68,65,84,69,32,116,32,83,69,84,32,97,32,61,32,97,32,45,32,40,98,32,45,32,49,41,44,32,98,32,61,32,45,32,45,49,32,42,32,50]:=by decide +kernel

theorem rank_z (e : Ex) : rankX e.z = rankX e:=by
 obtain ⟨k,o,v,t,n,ks,p⟩:=e
 rw [z_mk]
 rfl

theorem kind_z (e : Ex) : kindOf e.z = kindOf e:=by
 obtain ⟨k,o,v,t,n,ks,p⟩:=e
 rw [z_mk]
 rfl

theorem xwr_z (need : Nat) (e : Ex) (b : List UInt8) : xwr need e.z b = xwr need e b:=by
 unfold xwr
 rw [rank_z]

theorem xrow_z (w : List UInt8) (need : Nat) : ∀ (l : List Ex) (bs : List (List UInt8)),xrowM w need (l.map Ex.z) bs = xrowM w need l bs
 | [],_ => rfl
 | _ :: _,[] => rfl
 | e :: l,b :: bs => by
  rw [List.map_cons,xrowM,xrowM,xwr_z,xrow_z w need l bs]

theorem xF_z (k o : Int) (v : V3) (t n : ByteArray) (ks : List Ex) (bs : List (List UInt8)) : xF k o v t n (ks.map Ex.z) bs = xF k o v t n ks bs:=by
 match ks,bs with
 | [],_ => rfl
 | _ :: _,[] => unfold xF; rfl
 | a :: [],x :: xs =>
  unfold xF
  simp only [List.map_cons,List.map_nil,xwr_z,kind_z]
 | a :: b :: l,x :: [] =>
  unfold xF
  simp only [List.map_cons,xwr_z,kind_z]
  rw [show xrowM wAnd 3 (b.z :: List.map Ex.z l) [] = xrowM wAnd 3 (b :: l) [] from rfl,show xrowM wOr 2 (b.z :: List.map Ex.z l) [] = xrowM wOr 2 (b :: l) [] from rfl]
 | a :: b :: l,x :: y :: ys =>
  have h1:=xrow_z wAnd 3 (b :: l) (y :: ys)
  have h2:=xrow_z wOr 2 (b :: l) (y :: ys)
  rw [List.map_cons] at h1 h2
  unfold xF
  simp only [List.map_cons,xwr_z,kind_z]
  rw [h1,h2]

theorem xB_z (e : Ex) : xB e.z = xB e:=by
 induction e using Ex.rec (motive_2:=fun l => ∀ x ∈ l,xB x.z = xB x) with
 | mk k o v t n ks p ih =>
  rw [z_mk,xB_mk,xB_mk,xF_z,List.map_map]
  congr 1
  exact List.map_congr_left fun x hx => ih x hx
 | nil => rename_i x hx; exact absurd hx List.not_mem_nil
 | cons e l h1 h2 =>
  rename_i x hx
  rcases List.mem_cons.1 hx with rfl | hx
  ·exact h1
  ·exact h2 x hx

theorem xE_z (need : Nat) (e : Ex) : xE need e.z = xE need e:=by
 unfold xE
 rw [xwr_z,xB_z]

theorem xsep_map {α β : Type} (f : β → List UInt8) (g : α → β) : ∀ l : List α,xsep f (l.map g) = xsep (fun x => f (g x)) l
 | [] => rfl
 | [a] => rfl
 | a :: b :: l => by
  have:=xsep_map f g (b :: l)
  rw [List.map_cons] at this
  rw [List.map_cons,List.map_cons,xsep,xsep,this]

theorem xkid_z (l : List Ex) : xkid (l.map Ex.z) = xkid l:=by
 cases l with
 | nil => rfl
 | cons a l => exact xE_z 1 a

theorem xIt_z (e : Ex) : xIt e.z = xIt e:=by
 have h:=xE_z 1 e
 obtain ⟨k,o,v,t,n,ks,p⟩:=e
 rw [z_mk] at h ⊢
 rw [xIt,xIt,xkid_z,h]

theorem xWh_z (l : List Ex) : xWh (l.map Ex.z) = xWh l:=by
 cases l with
 | nil => rfl
 | cons a l => rw [List.map_cons,xWh,xWh,xE_z]

theorem xS_z (t : St) : xS t.z = xS t:=by
 have s1 : ∀ l : List Ex,xsep (xE 1) (l.map Ex.z) = xsep (xE 1) l:=fun l => by rw [xsep_map]; congr 1; funext x; exact xE_z 1 x
 have s2 : ∀ l : List Ex,xsep xIt (l.map Ex.z) = xsep xIt l:=fun l => by rw [xsep_map]; congr 1; funext x; exact xIt_z x
 have s3 : ∀ l : List Se,xsep xSe (l.map Se.z) = xsep xSe l:=fun l => by
  rw [xsep_map]
  congr 1
  funext x
  show x.1.data.toList ++ 32 :: 61 :: 32 :: xE 1 x.2.1.z = x.1.data.toList ++ 32 :: 61 :: 32 :: xE 1 x.2.1
  rw [xE_z]
 have s4 : ∀ l : List So,xsep xSo (l.map So.z) = xsep xSo l:=fun l => by rw [xsep_map]; rfl
 have j : xJo t.z = xJo t:=by
  obtain ⟨kd,tb,jn,lo,lw,li,st,ls,lg,lq,ll,pl,ja⟩:=t
  unfold xJo St.z
  cases lo with
  | nil => rfl
  | cons a l => simp only [List.map_cons,xE_z]
 have g : xGr (t.groups.map Ex.z) = xGr t.groups:=by
  unfold xGr
  rw [s1]
  simp
 have q : xOr (t.sorts.map So.z) = xOr t.sorts:=by
  unfold xOr
  rw [s4]
  simp
 unfold xS
 rw [j]
 show (if t.kind = 1 then wINSERT ++ 32 :: (wINTO ++ 32 :: (t.table.data.toList ++ 32 :: (wVALUES ++ 32 :: 40 :: (xsep (xE 1) (t.items.map Ex.z) ++ [41])))) else if t.kind = 2 then wUPDATE ++ 32 :: (t.table.data.toList ++ 32 :: (wSET ++ 32 :: (xsep xSe (t.sets.map Se.z) ++ xWh (t.whr.map Ex.z)))) else if t.kind = 3 then wDELETE ++ 32 :: (wFROM ++ 32 :: (t.table.data.toList ++ xWh (t.whr.map Ex.z))) else wSELECT ++ 32 :: ((if t.star then [42] else xsep xIt (t.items.map Ex.z)) ++ 32 :: (wFROM ++ 32 :: (t.table.data.toList ++ (xJo t ++ (xWh (t.whr.map Ex.z) ++ (xGr (t.groups.map Ex.z) ++ (xOr (t.sorts.map So.z) ++ xLi t.limit)))))))) = _
 rw [s1,s2,s3,xWh_z,g,q]
end Go.Proofs.YtonbafpnaphckaaGreatDoor
