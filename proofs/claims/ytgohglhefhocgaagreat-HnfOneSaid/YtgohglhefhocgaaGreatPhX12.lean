/- PhX12 -/
import Derived.Test.YtgohglhefhocgaaGreatPhX05
import Derived.Test.YtgohglhefhocgaaGreatPhX07
import Derived.Test.YtgohglhefhocgaaGreatPhX09
import Derived.Laws.AppendOwn
set_option linter.unusedVariables false
set_option linter.unusedSimpArgs false
set_option linter.unusedSectionVars false
set_option maxRecDepth 100000
set_option maxHeartbeats 8000000
namespace Go.Proofs.YtgohglhefhocgaaGreat
section
open Go.RowKit
section
variable {q:Bool}{w w':World}{s:Bool}{A:Option Addr}{n c g:Nat}{z:Int}
end
section
variable {q:Bool}{w w':World}{A:Option Addr}{n c k g:Nat}{zs:List Int}
theorem ZAt.mono {p:Addr}{z:Int}{k':Nat}(h:ZAt q w p k z)(hk:k≤k'):ZAt q w p k' z:=by
 obtain⟨s,A,n,c,h1,h2,h3,h4⟩:=h;exact⟨s,A,n,c,h1,h2,h3,Nat.le_trans h4 hk⟩
theorem ZL.mono {k':Nat}(h:ZL q w A n c k zs)(hk:k≤k'):ZL q w A n c k' zs:=⟨h.len,h.le,h.cap,fun h0=>by
 obtain⟨ad,rfl,h1,h2⟩:=h.at' h0;exact⟨ad,rfl,h1,fun j hj=>(h2 j hj).mono hk⟩⟩
theorem ZL.weak (h:ZL q w A n c k zs):ZL false w A n c k zs:=⟨h.len,h.le,h.cap,fun h0=>by
 obtain⟨ad,rfl,h1,h2⟩:=h.at' h0;refine⟨ad,rfl,h1,fun j hj=>?_⟩;obtain⟨s,A,n,c,h1,h2,h3,h4⟩:=h2 j hj;exact⟨s,A,n,c,h1,h2,⟨h3.1,fun e=>by cases e⟩,h4⟩⟩
end
section
variable {w w':World}{g k b:Nat}{zs:List Int}
end
end
section
open Go.RowKit
section
variable {q:Bool}{w w':World}{r c n d k k':Nat}{A:Option Addr}{F G:Nat→Nat→Int}
theorem Mt.mono (h:Mt q w r c A n d k F)(hk:k≤k'):Mt q w r c A n d k' F:=⟨h.zl.mono hk,h.hr,h.hc⟩
theorem Mt.weak (h:Mt q w r c A n d k F):Mt false w r c A n d k F:=⟨h.zl.weak,h.hr,h.hc⟩
end
section
variable {u v:Value}{x y:Int}{n m k:Nat}{w:World}
end
end
section
open Go.RowKit
theorem l_t {q:Bool}{r c n d k i j:Nat}{A:Option Addr}{F:Nat→Nat→Int}{g g' a:Nat}{w:World}(b2:Bx w g 3 [.int .i64 (a:Int)])(b3:Bx w g' 24 [.int .i64 (r:Int),.int .i64 (c:Int),.slice A n d])(ha:Mt q w r c A n d k F)(hi:i<r)(hj:j<c)(hk:k≤1099511627776):Calls Tryz.prog 86 #[.int .i64 (i:Int),.int .i64 (j:Int),.pointer (some ⟨g,0,none⟩),.pointer (some ⟨g',0,none⟩)] w (RetK (kC (if i=a then -F i j else F i j) k) w):=by
 obtain⟨z,hz1⟩:∃z:Int,(if i=a then -F i j else F i j)=z:=⟨_,rfl⟩;have Hz:=Lib.hid hz1;rw[hz1];clear hz1;obtain⟨w1,hw1,b6,z1,s1⟩:=boxes1 w 37 [.bool false,.slice none 0 0];have HW:=Lib.hid hw1;have HZ:=Lib.hid z1;replace b2:=b2.below z1;replace b3:=b3.below z1;replace ha:=ha.below z1;clear hw1 z1 s1;go_enter Tryz.func86,Tryz.ntmps86
 go_upto_region 1 with fail
 rw[HW.out];by_cases ht:i=a
 ·have u1:(i:Int)=(a:Int):=by omega
  have ez:=Hz.out;rw[if_pos ht]at ez;clear Hz;refine Run.start 3 ?_;refine .mv .o ?_;refine .ld .o (ldInt b2 0) ?_;refine .two (.i 0) (.i 1) (opNe (decide_eq_false (by omega:¬((i:Int)≠(a:Int))))) ?_;refine .donep [some 7,some 8,some 9] ?_;intro w2 B2;change Shut (wpList _ _ _ [] _ _);refine⟨?_⟩;simp only[Act.put,lS,lZ,lC];replace ha:=ha.below B2;replace b2:=b2.below B2;replace b3:=b3.below B2;replace b6:=b6.below B2;have HZ2:=Lib.hid (zup HZ.out B2);clear B2 HZ;subst ht;go_upto_region 3 with fail
  refine Run.start 5 ?_;refine .ld .o (ldM b3 0) ?_;refine .ld .o (ldInt b2 0) ?_;refine .mv .o ?_;refine .c3 (.i 0) (.i 1) (.i 2) (x:=kV (F i j) k) (by rintro u v x w2 hB rfl rfl rfl;exact d_q (ha.below hB) hi hj) ?_;refine .c1 (.i 3) (x:=kC z k) (by intro u w3 hB h2;rw[←ez];exact k_r h2 hk) ?_;refine .donep [some 14,some 15,some 16,some 17,some 18] ?_;intro w3 B3;rintro v0 -;rintro v ⟨s_,A_,n_,c_,rfl,hz,hk_⟩;change Shut (wpList _ _ _ [_] _ _);refine⟨?_⟩;simp only[Act.put,lS,lZ,lC];have I:=Ib.entry (b6.below B3);have P:=Lib.hid (retC hz I (k:=k) (by omega) (by omega) (zup HZ2.out B3));obtain⟨i1,i2,i3,i4,i5⟩:=I;clear hz
  go_wp2_with fail
  exact bodyPost_ret (v:=.agg #[.bool s_,.slice A_ n_ c_]) (by simp[results,Tryz.results86,go_sem,i1,i2]) rfl P.out
 ·have u1:¬(i:Int)=(a:Int):=by omega
  have ez:=Hz.out;rw[if_neg ht]at ez;clear Hz;refine Run.start 3 ?_;refine .mv .o ?_;refine .ld .o (ldInt b2 0) ?_;refine .two (.i 0) (.i 1) (opNe (decide_eq_true (by omega:(i:Int)≠(a:Int)))) ?_;refine .donep [some 7,some 8,some 9] ?_;intro w2 B2;change Shut (wpList _ _ _ [] _ _);refine⟨?_⟩;simp only[Act.put,lS,lZ,lC];replace ha:=ha.below B2;replace b2:=b2.below B2;replace b3:=b3.below B2;replace b6:=b6.below B2;have HZ2:=Lib.hid (zup HZ.out B2);clear B2 HZ;go_upto_region 2 with fail
  refine Run.start 4 ?_;refine .ld .o (ldM b3 0) ?_;refine .mv .o ?_;refine .mv .o ?_;refine .c3 (.i 0) (.i 1) (.i 2) (x:=kC z k) (by rintro u v x w3 hB rfl rfl rfl;rw[←ez];exact b_o (ha.below hB) hi hj hk) ?_;refine .donep [some 10,some 11,some 12,some 13] ?_;intro w3 B3;rintro v ⟨s_,A_,n_,c_,rfl,hz,hk_⟩;change Shut (wpList _ _ _ [_] _ _);refine⟨?_⟩;simp only[Act.put,lS,lZ,lC];have I:=Ib.entry (b6.below B3);have P:=Lib.hid (retC hz I (k:=k) (by omega) (by omega) (zup HZ2.out B3));obtain⟨i1,i2,i3,i4,i5⟩:=I;clear hz
  go_wp2_with fail
  exact bodyPost_ret (v:=.agg #[.bool s_,.slice A_ n_ c_]) (by simp[results,Tryz.results86,go_sem,i1,i2]) rfl P.out
end
section
open Go.RowKit
theorem exK {vs:Array Value}{u:Value}{j:Nat}(h:vs[j]? =some u):∀v w,(FK.k (.tuple vs)).F v w→∃vs:Array Value,∃u',v= .tuple vs∧vs[j]? =some u'∧(FK.k u).F u' w:=fun v w e=>⟨vs,u,e,h,rfl⟩
theorem argsC4 (i j a b c d:Value):#[]++ #[i,j]++ #[a,b,c,d]= #[i,j,a,b,c,d]:=rfl
end
section
open Go.RowKit
theorem boxes5 (w:World)(T U V X Y:TypeId)(cs ds es fs gs:List Value):∃w1,((((w.alloc (.cells cs.toArray T)).alloc (.cells ds.toArray U)).alloc (.cells es.toArray V)).alloc (.cells fs.toArray X)).alloc (.cells gs.toArray Y)=w1∧Bx w1 w.heap.size T cs∧Bx w1 (w.heap.size+1) U ds∧Bx w1 (w.heap.size+1+1) V es∧Bx w1 (w.heap.size+1+1+1) X fs∧Bx w1 (w.heap.size+1+1+1+1) Y gs∧Below w.heap.size w w1∧w1.heap.size=w.heap.size+1+1+1+1+1:=by
 obtain⟨w1,h1,a,b,c,d,hb,hs⟩:=boxes4 w T U V X cs ds es fs;rw[h1];obtain⟨w2,h2,e,hb2,hs2⟩:=boxes1 w1 Y gs;rw[hs]at e;exact⟨w2,h2,a.below hb2,b.below hb2,c.below hb2,d.below hb2,e,zup hb hb2,by omega⟩
section
variable {ops:Array Oper}{Q:Exit→Act→World→Prop}{m i:Nat}{a0:Act}{w0:World}{l:List FK}{b:Bool}{id:Nat}
end
theorem r_0 {r x:Nat}(hx:x<r):crw true (r:Int) [(x:Int)]=0:=by unfold crw;rw[if_neg (by simp),if_pos];simp;omega
theorem i_8 {r c x y e:Int}{A:Option Addr}{n d:Nat}{b:Bool}{w:World}(hb:fmd r c n=b)(he:crw b r [x,y]=e)(h0:e≠0):Calls Tryz.prog 46 #[.agg #[.int .i64 r,.int .i64 c,.slice A n d],.int .i64 x,.int .i64 y] w (RetK (noM e) w):=by
 obtain⟨w1,hw1,b3,b4,b5,b6,z1,s1⟩:=boxes4 w 24 3 3 24 [.int .i64 r,.int .i64 c,.slice A n d] [.int .i64 x] [.int .i64 y] [.int .i64 0,.int .i64 0,.slice none 0 0];have HW:=Lib.hid hw1;have HZ:=Lib.hid z1;have hb_:=Lib.hid hb;have he_:=Lib.hid he;clear hw1 z1 hb he s1;go_enter Tryz.func46,Tryz.ntmps46
 go_upto_region 1 with fail
 rw[HW.out];refine Run.start 6 ?_;refine .ld .o (ldM b3 0) ?_;refine .ld .o (ldInt b4 0) ?_;refine .ld .o (ldInt b5 0) ?_;refine .bsI2 (.i 1) (.i 2) (Nat.le_refl _) ?_;refine .c2 (.i 0) (.i 3) (x:=.k (.int .i64 e)) (by rintro u v w2 hB rfl ⟨g,rfl,hx,_⟩;exact c_3 hb_.out hx he_.out (by simp)) ?_;refine .mv (.i 4) ?_;refine .donep [some 9,some 10,some 11,some 12,some 13,some 8] ?_;intro w2 B2;rintro v0 -;change Shut (wpList _ _ _ [] _ _);refine⟨?_⟩;simp only[Act.put,lS,lZ,lC];have u0:¬(e=0):=h0;clear h0;have P:=Lib.hid (retNo (e:=e) (b6.below B2) (by omega) (zup HZ.out B2));unfold mput at P;obtain⟨i0,i1,i2,i3,i4,i5,i6⟩:=(b6.below B2).m3
 go_wp2_with fail
 exact bodyPost_ret (v:=.tuple #[.agg #[.int .i64 0,.int .i64 0,.slice none 0 0],.int .i64 e]) (by simp[results,Tryz.results46,go_sem,i0,i1,i2]) rfl P.out
theorem i_b {q:Bool}{r c n d k i p m e0:Nat}{A:Option Addr}{D:Option Addr}{s:Bool}{y:Int}{F:Nat→Nat→Int}{w:World}(ha:Mt q w r c A n d k F)(hz:Zv w s D m e0 y)(hi:i<r)(hp:p<r)(hne:i≠p)(hk:m+k≤549755813888):Calls Tryz.prog 47 #[.agg #[.int .i64 (r:Int),.int .i64 (c:Int),.slice A n d],.int .i64 (i:Int),.int .i64 (p:Int),.agg #[.bool s,.slice D m e0]] w (RetK (kT (kM true r c (m+k+1) (fun a j=>if a=i then F a j+y*F p j else F a j)) (.k (.int .i64 0))) w):=by
 have h1:=ha.fmd;have h3:=ha.hr;have h4:=ha.hc;obtain⟨w1,hw1,b4,b5,b6,b7,b8,z1,s1⟩:=boxes5 w 24 3 3 37 24 [.int .i64 (r:Int),.int .i64 (c:Int),.slice A n d] [.int .i64 (i:Int)] [.int .i64 (p:Int)] [.bool s,.slice D m e0] [.int .i64 0,.int .i64 0,.slice none 0 0];have HW:=Lib.hid hw1;have HZ:=Lib.hid z1;have h1_:=Lib.hid h1;clear hw1 z1 h1 s1;go_enter Tryz.func47,Tryz.ntmps47
 go_upto_region 1 with fail
 rw[HW.out];refine Run.start 6 ?_;refine .ld .o (ldM b4 0) ?_;refine .ld .o (ldInt b5 0) ?_;refine .ld .o (ldInt b6 0) ?_;refine .bsI2 (.i 1) (.i 2) (Nat.le_refl _) ?_;refine .c2 (.i 0) (.i 3) (x:=.k (.int .i64 0)) (by rintro u v w2 hB rfl ⟨g,rfl,hx,_⟩;exact c_3 h1_.out hx (p_n hi hp) (by simp)) ?_;refine .mv (.i 4) ?_;refine .donep [some 11,some 12,some 13,some 14,some 15,some 10] ?_;intro w2 B2;rintro v0 -;change Shut (wpList _ _ _ [] _ _);refine⟨?_⟩;simp only[Act.put,lS,lZ,lC];replace b4:=b4.below B2;replace b5:=b5.below B2;replace b6:=b6.below B2;replace b7:=b7.below B2;replace b8:=b8.below B2;have HZ2:=Lib.hid (zup HZ.out B2);clear B2 HZ;have c5:=b5.cell 0;have c6:=b6.cell 0;simp only[List.getElem?_cons_zero]at c5 c6;have une:¬((i:Int)=(p:Int)):=by omega
 go_upto_region 6 with fail
 clear c5 c6;refine Run.start 6 ?_;refine .fa .o (fM0 0) ?_;refine .ld (.i 0) (ldInt b4 0) ?_;refine .fa .o (fM1 1) ?_;refine .ld (.i 2) (ldInt b4 1) ?_;refine .fn [] [.o,.o,.o,.o] [] [_,_,_,_] (trivial) (⟨rfl,rfl,rfl,rfl,trivial⟩) ?_;refine .c3 (.i 1) (.i 3) (.i 4) (x:=kM true r c (m+k+1) (fun a j=>if a=i then F a j+y*F p j else F a j)) (by rintro u v x w4 hB rfl rfl rfl;exact e_z h3 h4 (by kernel_rfl) (fun a j W ha' hj hW=>by rw[argsC4];exact m_1 ((b5.below hB).below hW) ((b4.below hB).below hW) ((b7.below hB).below hW) ((b6.below hB).below hW) (ha.below (zup (zup HZ2.out hB) hW)) (hz.below (zup (zup HZ2.out hB) hW)) ha' hp hj hk)) ?_;refine .donep [some 24,some 25,some 26,some 27,some 28,some 29] ?_;intro w3 B3;rintro v ⟨A_,n_,d_,rfl,hM⟩;change Shut (wpList _ _ _ [_,_] _ _);refine⟨?_⟩;simp only[Act.put,lS,lZ,lC];have P:=Lib.hid (retME hM (b8.below B3) (by omega) (zup HZ2.out B3));unfold mput at P;obtain⟨i0,i1,i2,i3,i4,i5,i6⟩:=(b8.below B3).m3;clear hM
 go_wp2_with fail
 exact bodyPost_ret (v:=.tuple #[.agg #[.int .i64 (r:Int),.int .i64 (c:Int),.slice A_ n_ d_],.int .i64 0]) (by simp[results,Tryz.results47,go_sem,i0,i1,i2]) rfl P.out
theorem f_n {r c x y e:Int}{A:Option Addr}{n d:Nat}{b:Bool}{D:Option Addr}{m e0:Nat}{s:Bool}{w:World}(hb:fmd r c n=b)(he:crw b r [x,y]=e)(h0:e≠0):Calls Tryz.prog 47 #[.agg #[.int .i64 r,.int .i64 c,.slice A n d],.int .i64 x,.int .i64 y,.agg #[.bool s,.slice D m e0]] w (RetK (noM e) w):=by
 obtain⟨w1,hw1,b4,b5,b6,b7,b8,z1,s1⟩:=boxes5 w 24 3 3 37 24 [.int .i64 r,.int .i64 c,.slice A n d] [.int .i64 x] [.int .i64 y] [.bool s,.slice D m e0] [.int .i64 0,.int .i64 0,.slice none 0 0];have HW:=Lib.hid hw1;have HZ:=Lib.hid z1;have hb_:=Lib.hid hb;have he_:=Lib.hid he;clear hw1 z1 hb he s1;go_enter Tryz.func47,Tryz.ntmps47
 go_upto_region 1 with fail
 rw[HW.out];refine Run.start 6 ?_;refine .ld .o (ldM b4 0) ?_;refine .ld .o (ldInt b5 0) ?_;refine .ld .o (ldInt b6 0) ?_;refine .bsI2 (.i 1) (.i 2) (Nat.le_refl _) ?_;refine .c2 (.i 0) (.i 3) (x:=.k (.int .i64 e)) (by rintro u v w2 hB rfl ⟨g,rfl,hx,_⟩;exact c_3 hb_.out hx he_.out (by simp)) ?_;refine .mv (.i 4) ?_;refine .donep [some 11,some 12,some 13,some 14,some 15,some 10] ?_;intro w2 B2;rintro v0 -;change Shut (wpList _ _ _ [] _ _);refine⟨?_⟩;simp only[Act.put,lS,lZ,lC];have u0:¬(e=0):=h0;clear h0;have P:=Lib.hid (retNo (e:=e) (b8.below B2) (by omega) (zup HZ.out B2));unfold mput at P;obtain⟨i0,i1,i2,i3,i4,i5,i6⟩:=(b8.below B2).m3
 go_wp2_with fail
 exact bodyPost_ret (v:=.tuple #[.agg #[.int .i64 0,.int .i64 0,.slice none 0 0],.int .i64 e]) (by simp[results,Tryz.results47,go_sem,i0,i1,i2]) rfl P.out
theorem i_a {q:Bool}{r c n d k i:Nat}{A:Option Addr}{F:Nat→Nat→Int}{w:World}(ha:Mt q w r c A n d k F)(hi:i<r)(hk:k≤1099511627776):Calls Tryz.prog 48 #[.agg #[.int .i64 (r:Int),.int .i64 (c:Int),.slice A n d],.int .i64 (i:Int)] w (RetK (kT (kM true r c (k) (fun a j=>if a=i then -F a j else F a j)) (.k (.int .i64 0))) w):=by
 have h1:=ha.fmd;have h3:=ha.hr;have h4:=ha.hc;obtain⟨w1,hw1,b2,b3,b4,z1,s1⟩:=boxes3 w 24 3 24 [.int .i64 (r:Int),.int .i64 (c:Int),.slice A n d] [.int .i64 (i:Int)] [.int .i64 0,.int .i64 0,.slice none 0 0];have HW:=Lib.hid hw1;have HZ:=Lib.hid z1;have h1_:=Lib.hid h1;clear hw1 z1 h1 s1;go_enter Tryz.func48,Tryz.ntmps48
 go_upto_region 1 with fail
 rw[HW.out];refine Run.start 5 ?_;refine .ld .o (ldM b2 0) ?_;refine .ld .o (ldInt b3 0) ?_;refine .bsI1 (.i 1) (Nat.le_refl _) ?_;refine .c2 (.i 0) (.i 2) (x:=.k (.int .i64 0)) (by rintro u v w2 hB rfl ⟨g,rfl,hx,_⟩;exact c_3 h1_.out hx (r_0 hi) (by simp)) ?_;refine .mv (.i 3) ?_;refine .donep [some 7,some 8,some 9,some 10,some 6] ?_;intro w2 B2;rintro v0 -;change Shut (wpList _ _ _ [] _ _);refine⟨?_⟩;simp only[Act.put,lS,lZ,lC];replace b2:=b2.below B2;replace b3:=b3.below B2;replace b4:=b4.below B2;have HZ2:=Lib.hid (zup HZ.out B2);clear B2 HZ;go_upto_region 4 with fail
 refine Run.start 6 ?_;refine .fa .o (fM0 0) ?_;refine .ld (.i 0) (ldInt b2 0) ?_;refine .fa .o (fM1 1) ?_;refine .ld (.i 2) (ldInt b2 1) ?_;refine .fn [] [.o,.o] [] [_,_] (trivial) (⟨rfl,rfl,trivial⟩) ?_;refine .c3 (.i 1) (.i 3) (.i 4) (x:=kM true r c k (fun a j=>if a=i then -F a j else F a j)) (by rintro u v x w4 hB rfl rfl rfl;exact e_z h3 h4 (by kernel_rfl) (fun a j W ha' hj hW=>by rw[argsC2];exact l_t ((b3.below hB).below hW) ((b2.below hB).below hW) (ha.below (zup (zup HZ2.out hB) hW)) ha' hj hk)) ?_;refine .donep [some 15,some 16,some 17,some 18,some 19,some 20] ?_;intro w3 B3;rintro v ⟨A_,n_,d_,rfl,hM⟩;change Shut (wpList _ _ _ [_,_] _ _);refine⟨?_⟩;simp only[Act.put,lS,lZ,lC];have P:=Lib.hid (retME hM (b4.below B3) (by omega) (zup HZ2.out B3));unfold mput at P;obtain⟨i0,i1,i2,i3,i4,i5,i6⟩:=(b4.below B3).m3;clear hM
 go_wp2_with fail
 exact bodyPost_ret (v:=.tuple #[.agg #[.int .i64 (r:Int),.int .i64 (c:Int),.slice A_ n_ d_],.int .i64 0]) (by simp[results,Tryz.results48,go_sem,i0,i1,i2]) rfl P.out
theorem f_m {r c x e:Int}{A:Option Addr}{n d:Nat}{b:Bool}{w:World}(hb:fmd r c n=b)(he:crw b r [x]=e)(h0:e≠0):Calls Tryz.prog 48 #[.agg #[.int .i64 r,.int .i64 c,.slice A n d],.int .i64 x] w (RetK (noM e) w):=by
 obtain⟨w1,hw1,b2,b3,b4,z1,s1⟩:=boxes3 w 24 3 24 [.int .i64 r,.int .i64 c,.slice A n d] [.int .i64 x] [.int .i64 0,.int .i64 0,.slice none 0 0];have HW:=Lib.hid hw1;have HZ:=Lib.hid z1;have hb_:=Lib.hid hb;have he_:=Lib.hid he;clear hw1 z1 hb he s1;go_enter Tryz.func48,Tryz.ntmps48
 go_upto_region 1 with fail
 rw[HW.out];refine Run.start 5 ?_;refine .ld .o (ldM b2 0) ?_;refine .ld .o (ldInt b3 0) ?_;refine .bsI1 (.i 1) (Nat.le_refl _) ?_;refine .c2 (.i 0) (.i 2) (x:=.k (.int .i64 e)) (by rintro u v w2 hB rfl ⟨g,rfl,hx,_⟩;exact c_3 hb_.out hx he_.out (by simp)) ?_;refine .mv (.i 3) ?_;refine .donep [some 7,some 8,some 9,some 10,some 6] ?_;intro w2 B2;rintro v0 -;change Shut (wpList _ _ _ [] _ _);refine⟨?_⟩;simp only[Act.put,lS,lZ,lC];have u0:¬(e=0):=h0;clear h0;have P:=Lib.hid (retNo (e:=e) (b4.below B2) (by omega) (zup HZ.out B2));unfold mput at P;obtain⟨i0,i1,i2,i3,i4,i5,i6⟩:=(b4.below B2).m3
 go_wp2_with fail
 exact bodyPost_ret (v:=.tuple #[.agg #[.int .i64 0,.int .i64 0,.slice none 0 0],.int .i64 e]) (by simp[results,Tryz.results48,go_sem,i0,i1,i2]) rfl P.out
theorem i_c {r c x:Int}{A D:Option Addr}{n d m e0:Nat}{s:Bool}{w:World}(hb:fmd r c n=true)(he:crw true r [x,x]=0):Calls Tryz.prog 47 #[.agg #[.int .i64 r,.int .i64 c,.slice A n d],.int .i64 x,.int .i64 x,.agg #[.bool s,.slice D m e0]] w (RetK (noM 1) w):=by
 obtain⟨w1,hw1,b4,b5,b6,b7,b8,z1,s1⟩:=boxes5 w 24 3 3 37 24 [.int .i64 r,.int .i64 c,.slice A n d] [.int .i64 x] [.int .i64 x] [.bool s,.slice D m e0] [.int .i64 0,.int .i64 0,.slice none 0 0];have HW:=Lib.hid hw1;have HZ:=Lib.hid z1;have hb_:=Lib.hid hb;have he_:=Lib.hid he;clear hw1 z1 hb he s1;go_enter Tryz.func47,Tryz.ntmps47
 go_upto_region 1 with fail
 rw[HW.out];refine Run.start 6 ?_;refine .ld .o (ldM b4 0) ?_;refine .ld .o (ldInt b5 0) ?_;refine .ld .o (ldInt b6 0) ?_;refine .bsI2 (.i 1) (.i 2) (Nat.le_refl _) ?_;refine .c2 (.i 0) (.i 3) (x:=.k (.int .i64 0)) (by rintro u v w2 hB rfl ⟨g,rfl,hx,_⟩;exact c_3 hb_.out hx he_.out (by simp)) ?_;refine .mv (.i 4) ?_;refine .donep [some 11,some 12,some 13,some 14,some 15,some 10] ?_;intro w2 B2;rintro v0 -;change Shut (wpList _ _ _ [] _ _);refine⟨?_⟩;simp only[Act.put,lS,lZ,lC];have c5:=(b5.below B2).cell 0;have c6:=(b6.below B2).cell 0;simp only[List.getElem?_cons_zero]at c5 c6;have P:=Lib.hid (retNo (e:=1) (b8.below B2) (by omega) (zup HZ.out B2));unfold mput at P;obtain⟨i0,i1,i2,i3,i4,i5,i6⟩:=(b8.below B2).m3
 go_wp2_with fail
 exact bodyPost_ret (v:=.tuple #[.agg #[.int .i64 0,.int .i64 0,.slice none 0 0],.int .i64 1]) (by simp[results,Tryz.results47,go_sem,i0,i1,i2]) rfl P.out
end
section
open Go.RowKit
section
variable {P:Program}{ops:Array Oper}{Q:Exit→Act→World→Prop}{m i:Nat}{a0 a:Act}{w0 w:World}{l:List FK}{b:Bool}{id:Nat}
theorem j_i {Fs:List FVal}{k j:Nat}{F F':FVal}{v:Value}(hok:okFl ops m i k j=true)(hk:nthF Fs k=F)(hi:nthF Fs i=F')(hF:∀u w,F u w→∃vs:Array Value,u= .tuple vs∧vs[j]? =some v)(hF':∀w,F' v w):FloatAt Tryz.prog ops m a0 w0 Fs i (opAt ops i):=fun a w hB ho hp=>by
 unfold okFl at hok;rw[Bool.and_eq_true]at hok;obtain⟨h1,h2⟩:=hok;split at h1
 ·rename_i t j' e;simp only[Bool.and_eq_true,beq_iff_eq]at h1;obtain⟨⟨⟨⟨rfl,h3⟩,h4⟩,h5⟩,h6⟩:=h1;have hv:=hp k t (by simp only[Bool.and_eq_true,beq_iff_eq];exact⟨⟨⟨h3,h4⟩,h5⟩,h6⟩);rw[hk]at hv;obtain⟨vs,eu,ev⟩:=hF _ _ hv;refine⟨v,by rw[hi];exact hF' _, ?_⟩;refine .inl ⟨b_8 (Option.isNone_iff_eq_none.1 h2),fun w'=>?_⟩;unfold execOp;rw[e];simp only[eu];simp[go_sem,ev]
 ·cases h1
end
section
variable {a:Act}{w:World}{o:Oper}
end
end
section
open Go.RowKit
section
variable {w:World}{g:Nat}{T:TypeId}{cs:List Value}
theorem ldU8 (b:Bx w g T cs)(o:Nat){x:Int}(hc:cs[o]? =some (.int .u8 x):=by rfl):∀w',Below w.heap.size w w'→(Instr.loadAt 5 (.pointer (some ⟨g,o,none⟩))).run Tryz.prog w'= .ok (.int .u8 x) w':=fun w' hb=>by
 have h:=(b.below hb).cell o;rw[hc]at h;simp[go_sem,a_p,h]
end
theorem fS0 {g o:Nat}(o':Nat)(h:o+0=o':=by rfl)(w:World):(Instr.fieldAt 39 (.pointer (some ⟨g,o,none⟩)) 0).run Tryz.prog w= .ok (.pointer (some ⟨g,o',none⟩)) w:=by subst h;simp[go_sem]
theorem fS1 {g o:Nat}(o':Nat)(h:o+1=o':=by rfl)(w:World):(Instr.fieldAt 39 (.pointer (some ⟨g,o,none⟩)) 1).run Tryz.prog w= .ok (.pointer (some ⟨g,o',none⟩)) w:=by subst h;simp[go_sem]
theorem fS2 {g o:Nat}(o':Nat)(h:o+2=o':=by rfl)(w:World):(Instr.fieldAt 39 (.pointer (some ⟨g,o,none⟩)) 2).run Tryz.prog w= .ok (.pointer (some ⟨g,o',none⟩)) w:=by subst h;simp[go_sem]
theorem fS3 {g o:Nat}(o':Nat)(h:o+3=o':=by rfl)(w:World):(Instr.fieldAt 39 (.pointer (some ⟨g,o,none⟩)) 3).run Tryz.prog w= .ok (.pointer (some ⟨g,o',none⟩)) w:=by subst h;simp[go_sem]
section
variable {x y r:Int}{T:TypeId}{b:Bool}{X Y:Operand}{U:TypeId}
theorem opEq8 (h:decide (x=y)=b)(w:World):RunTwo Tryz.prog (.binOp .eql T X Y U) w (.int .u8 x) (.int .u8 y) (.bool b):=by unfold RunTwo;simp[go_sem,←h];try rfl
theorem opRem8 (h:x%3=r)(h0:0≤x)(w:World):RunTwo Tryz.prog (.binOp .rem T X Y U) w (.int .u8 x) (.int .u8 3) (.int .u8 r):=by
 have h1:x.tmod 3=r:=by rw[Int.tmod_eq_emod_of_nonneg h0];exact h
 unfold RunTwo;simp[go_sem,h1];try omega
end
theorem r_y {r₀ c₀ u x y:Int}{A D:Option Addr}{n d m e:Nat}{s:Bool}{w:World}{R C K:Nat}{G:Nat→Nat→Int}(h0:0≤u)(hj:u%3=0)(hc:∀w2,Below w.heap.size w w2→Calls Tryz.prog 46 #[.agg #[.int .i64 r₀,.int .i64 c₀,.slice A n d],.int .i64 x,.int .i64 y] w2 (RetK (kT (kM true R C K G) (.k (.int .i64 0))) w2)):Calls Tryz.prog 18 #[.agg #[.int .i64 r₀,.int .i64 c₀,.slice A n d],.agg #[.int .u8 u,.int .i64 x,.int .i64 y,.bool s,.slice D m e]] w (RetK (kT (kM true R C K G) (.k (.int .i64 0))) w):=by
 obtain⟨w1,hw1,b2,b3,b4,z1,s1⟩:=boxes3 w 24 39 24 [.int .i64 r₀,.int .i64 c₀,.slice A n d] [.int .u8 u,.int .i64 x,.int .i64 y,.bool s,.slice D m e] [.int .i64 0,.int .i64 0,.slice none 0 0];have HW:=Lib.hid hw1;have HZ:=Lib.hid z1;have h0_:=Lib.hid h0;have hj_:=Lib.hid hj;clear hw1 z1 h0 hj s1;go_enter Tryz.func18,Tryz.ntmps18
 go_upto_region 1 with fail
 rw[HW.out];refine Run.start 3 ?_;refine .fa .o (fS0 0) ?_;refine .ld (.i 0) (ldU8 b3 0) ?_;refine .two (.i 1) .o (opRem8 hj_.out h0_.out) ?_;refine .donep [some 6,some 7,some 8] ?_;intro w2 B2;change Shut (wpList _ _ _ [] _ _);refine⟨?_⟩;simp only[Act.put,lS,lZ,lC];have B0:=zup HZ.out B2;replace b2:=b2.below B2;replace b3:=b3.below B2;replace b4:=b4.below B2;clear B2 HZ;go_upto_region 2 with fail
 refine Run.start 2 ?_;refine .two .o .o (opEq8 (by decide:decide ((0:Int)=0)=true)) ?_;refine .mv (.i 0) ?_;refine .donep [some 10,some 9] ?_;intro w3 B3;change Shut (wpList _ _ _ [] _ _);refine⟨?_⟩;simp only[Act.put,lS,lZ,lC];replace B0:=zup B0 B3;replace b2:=b2.below B3;replace b3:=b3.below B3;replace b4:=b4.below B3;clear B3;go_upto_region 3 with fail
 refine Run.start 8 ?_;refine .ld .o (ldM b2 0) ?_;refine .fa .o (fS1 1) ?_;refine .ld (.i 1) (ldInt b3 1) ?_;refine .fa .o (fS2 2) ?_;refine .ld (.i 3) (ldInt b3 2) ?_;refine .c3 (.i 0) (.i 2) (.i 4) (x:=kT (kM true R C K G) (.k (.int .i64 0))) (by rintro u_ v_ x_ w6 hB rfl rfl rfl;exact hc w6 (zup B0 hB)) ?_;refine .ex (.i 5) 0 kT_0 ?_;refine .ex (.i 5) 1 kT_1 ?_;refine .donep [some 11,some 12,some 13,some 14,some 15,some 16,some 17,some 18] ?_;intro w4 B4;rintro v0 -;rintro v ⟨A_,n_,d_,rfl,hM⟩;change Shut (wpList _ _ _ [_,_] _ _);refine⟨?_⟩;simp only[Act.put,lS,lZ,lC];have P:=Lib.hid (retME hM (b4.below B4) (by omega) (zup B0 B4));unfold mput at P;obtain⟨i0,i1,i2,i3,i4,i5,i6⟩:=(b4.below B4).m3;clear hM
 go_wp2_with fail
 exact bodyPost_ret (v:=.tuple #[.agg #[.int .i64 (R:Int),.int .i64 (C:Int),.slice A_ n_ d_],.int .i64 0]) (by simp[results,Tryz.results18,go_sem,i0,i1,i2]) rfl P.out
theorem p_k {r₀ c₀ u x y:Int}{A D:Option Addr}{n d m e:Nat}{s:Bool}{w:World}{e':Int}(h0:0≤u)(hj:u%3=0)(hc:∀w2,Below w.heap.size w w2→Calls Tryz.prog 46 #[.agg #[.int .i64 r₀,.int .i64 c₀,.slice A n d],.int .i64 x,.int .i64 y] w2 (RetK (noM e') w2)):Calls Tryz.prog 18 #[.agg #[.int .i64 r₀,.int .i64 c₀,.slice A n d],.agg #[.int .u8 u,.int .i64 x,.int .i64 y,.bool s,.slice D m e]] w (RetK (noM e') w):=by
 obtain⟨w1,hw1,b2,b3,b4,z1,s1⟩:=boxes3 w 24 39 24 [.int .i64 r₀,.int .i64 c₀,.slice A n d] [.int .u8 u,.int .i64 x,.int .i64 y,.bool s,.slice D m e] [.int .i64 0,.int .i64 0,.slice none 0 0];have HW:=Lib.hid hw1;have HZ:=Lib.hid z1;have h0_:=Lib.hid h0;have hj_:=Lib.hid hj;clear hw1 z1 h0 hj s1;go_enter Tryz.func18,Tryz.ntmps18
 go_upto_region 1 with fail
 rw[HW.out];refine Run.start 3 ?_;refine .fa .o (fS0 0) ?_;refine .ld (.i 0) (ldU8 b3 0) ?_;refine .two (.i 1) .o (opRem8 hj_.out h0_.out) ?_;refine .donep [some 6,some 7,some 8] ?_;intro w2 B2;change Shut (wpList _ _ _ [] _ _);refine⟨?_⟩;simp only[Act.put,lS,lZ,lC];have B0:=zup HZ.out B2;replace b2:=b2.below B2;replace b3:=b3.below B2;replace b4:=b4.below B2;clear B2 HZ;go_upto_region 2 with fail
 refine Run.start 2 ?_;refine .two .o .o (opEq8 (by decide:decide ((0:Int)=0)=true)) ?_;refine .mv (.i 0) ?_;refine .donep [some 10,some 9] ?_;intro w3 B3;change Shut (wpList _ _ _ [] _ _);refine⟨?_⟩;simp only[Act.put,lS,lZ,lC];replace B0:=zup B0 B3;replace b2:=b2.below B3;replace b3:=b3.below B3;replace b4:=b4.below B3;clear B3;go_upto_region 3 with fail
 refine Run.start 8 ?_;refine .ld .o (ldM b2 0) ?_;refine .fa .o (fS1 1) ?_;refine .ld (.i 1) (ldInt b3 1) ?_;refine .fa .o (fS2 2) ?_;refine .ld (.i 3) (ldInt b3 2) ?_;refine .c3 (.i 0) (.i 2) (.i 4) (x:=noM e') (by rintro u_ v_ x_ w6 hB rfl rfl rfl;exact hc w6 (zup B0 hB)) ?_;refine .ex (.i 5) 0 (exK rfl) ?_;refine .ex (.i 5) 1 (exK rfl) ?_;refine .donep [some 11,some 12,some 13,some 14,some 15,some 16,some 17,some 18] ?_;intro w4 B4;change Shut (wpList _ _ _ [_,_] _ _);refine⟨?_⟩;simp only[Act.put,lS,lZ,lC];have P:=Lib.hid (retNo (e:=e') (b4.below B4) (by omega) (zup B0 B4));unfold mput at P;obtain⟨i0,i1,i2,i3,i4,i5,i6⟩:=(b4.below B4).m3
 go_wp2_with fail
 exact bodyPost_ret (v:=.tuple #[.agg #[.int .i64 0,.int .i64 0,.slice none 0 0],.int .i64 e']) (by simp[results,Tryz.results18,go_sem,i0,i1,i2]) rfl P.out
theorem r_x {r₀ c₀ u x y:Int}{A D:Option Addr}{n d m e:Nat}{s:Bool}{w:World}{R C K:Nat}{G:Nat→Nat→Int}(h0:0≤u)(hj:u%3=1)(hc:∀w2,Below w.heap.size w w2→Calls Tryz.prog 47 #[.agg #[.int .i64 r₀,.int .i64 c₀,.slice A n d],.int .i64 x,.int .i64 y,.agg #[.bool s,.slice D m e]] w2 (RetK (kT (kM true R C K G) (.k (.int .i64 0))) w2)):Calls Tryz.prog 18 #[.agg #[.int .i64 r₀,.int .i64 c₀,.slice A n d],.agg #[.int .u8 u,.int .i64 x,.int .i64 y,.bool s,.slice D m e]] w (RetK (kT (kM true R C K G) (.k (.int .i64 0))) w):=by
 obtain⟨w1,hw1,b2,b3,b4,z1,s1⟩:=boxes3 w 24 39 24 [.int .i64 r₀,.int .i64 c₀,.slice A n d] [.int .u8 u,.int .i64 x,.int .i64 y,.bool s,.slice D m e] [.int .i64 0,.int .i64 0,.slice none 0 0];have HW:=Lib.hid hw1;have HZ:=Lib.hid z1;have h0_:=Lib.hid h0;have hj_:=Lib.hid hj;clear hw1 z1 h0 hj s1;go_enter Tryz.func18,Tryz.ntmps18
 go_upto_region 1 with fail
 rw[HW.out];refine Run.start 3 ?_;refine .fa .o (fS0 0) ?_;refine .ld (.i 0) (ldU8 b3 0) ?_;refine .two (.i 1) .o (opRem8 hj_.out h0_.out) ?_;refine .donep [some 6,some 7,some 8] ?_;intro w2 B2;change Shut (wpList _ _ _ [] _ _);refine⟨?_⟩;simp only[Act.put,lS,lZ,lC];have B0:=zup HZ.out B2;replace b2:=b2.below B2;replace b3:=b3.below B2;replace b4:=b4.below B2;clear B2 HZ;go_upto_region 2 with fail
 refine Run.start 2 ?_;refine .two .o .o (opEq8 (by decide:decide ((1:Int)=0)=false)) ?_;refine .mv (.i 0) ?_;refine .donep [some 10,some 9] ?_;intro w3 B3;change Shut (wpList _ _ _ [] _ _);refine⟨?_⟩;simp only[Act.put,lS,lZ,lC];replace B0:=zup B0 B3;replace b2:=b2.below B3;replace b3:=b3.below B3;replace b4:=b4.below B3;clear B3;go_upto_region 4 with fail
 refine Run.start 2 ?_;refine .two .o .o (opEq8 (by decide:decide ((1:Int)=1)=true)) ?_;refine .mv (.i 0) ?_;refine .donep [some 20,some 19] ?_;intro w4 B4;change Shut (wpList _ _ _ [] _ _);refine⟨?_⟩;simp only[Act.put,lS,lZ,lC];replace B0:=zup B0 B4;replace b2:=b2.below B4;replace b3:=b3.below B4;replace b4:=b4.below B4;clear B4;go_upto_region 5 with fail
 refine Run.start 10 ?_;refine .ld .o (ldM b2 0) ?_;refine .fa .o (fS1 1) ?_;refine .ld (.i 1) (ldInt b3 1) ?_;refine .fa .o (fS2 2) ?_;refine .ld (.i 3) (ldInt b3 2) ?_;refine .fa .o (fS3 3) ?_;refine .ld (.i 5) (ldZ b3 3) ?_;refine .c4 (.i 0) (.i 2) (.i 4) (.i 6) (x:=kT (kM true R C K G) (.k (.int .i64 0))) (by rintro u_ v_ x_ y_ w6 hB rfl rfl rfl rfl;exact hc w6 (zup B0 hB)) ?_;refine .ex (.i 7) 0 kT_0 ?_;refine .ex (.i 7) 1 kT_1 ?_;refine .donep [some 21,some 22,some 23,some 24,some 25,some 26,some 27,some 28,some 29,some 30] ?_;intro w5 B5;rintro v0 -;rintro v ⟨A_,n_,d_,rfl,hM⟩;change Shut (wpList _ _ _ [_,_] _ _);refine⟨?_⟩;simp only[Act.put,lS,lZ,lC];have P:=Lib.hid (retME hM (b4.below B5) (by omega) (zup B0 B5));unfold mput at P;obtain⟨i0,i1,i2,i3,i4,i5,i6⟩:=(b4.below B5).m3;clear hM
 go_wp2_with fail
 exact bodyPost_ret (v:=.tuple #[.agg #[.int .i64 (R:Int),.int .i64 (C:Int),.slice A_ n_ d_],.int .i64 0]) (by simp[results,Tryz.results18,go_sem,i0,i1,i2]) rfl P.out
theorem m_l {r₀ c₀ u x y:Int}{A D:Option Addr}{n d m e:Nat}{s:Bool}{w:World}{e':Int}(h0:0≤u)(hj:u%3=1)(hc:∀w2,Below w.heap.size w w2→Calls Tryz.prog 47 #[.agg #[.int .i64 r₀,.int .i64 c₀,.slice A n d],.int .i64 x,.int .i64 y,.agg #[.bool s,.slice D m e]] w2 (RetK (noM e') w2)):Calls Tryz.prog 18 #[.agg #[.int .i64 r₀,.int .i64 c₀,.slice A n d],.agg #[.int .u8 u,.int .i64 x,.int .i64 y,.bool s,.slice D m e]] w (RetK (noM e') w):=by
 obtain⟨w1,hw1,b2,b3,b4,z1,s1⟩:=boxes3 w 24 39 24 [.int .i64 r₀,.int .i64 c₀,.slice A n d] [.int .u8 u,.int .i64 x,.int .i64 y,.bool s,.slice D m e] [.int .i64 0,.int .i64 0,.slice none 0 0];have HW:=Lib.hid hw1;have HZ:=Lib.hid z1;have h0_:=Lib.hid h0;have hj_:=Lib.hid hj;clear hw1 z1 h0 hj s1;go_enter Tryz.func18,Tryz.ntmps18
 go_upto_region 1 with fail
 rw[HW.out];refine Run.start 3 ?_;refine .fa .o (fS0 0) ?_;refine .ld (.i 0) (ldU8 b3 0) ?_;refine .two (.i 1) .o (opRem8 hj_.out h0_.out) ?_;refine .donep [some 6,some 7,some 8] ?_;intro w2 B2;change Shut (wpList _ _ _ [] _ _);refine⟨?_⟩;simp only[Act.put,lS,lZ,lC];have B0:=zup HZ.out B2;replace b2:=b2.below B2;replace b3:=b3.below B2;replace b4:=b4.below B2;clear B2 HZ;go_upto_region 2 with fail
 refine Run.start 2 ?_;refine .two .o .o (opEq8 (by decide:decide ((1:Int)=0)=false)) ?_;refine .mv (.i 0) ?_;refine .donep [some 10,some 9] ?_;intro w3 B3;change Shut (wpList _ _ _ [] _ _);refine⟨?_⟩;simp only[Act.put,lS,lZ,lC];replace B0:=zup B0 B3;replace b2:=b2.below B3;replace b3:=b3.below B3;replace b4:=b4.below B3;clear B3;go_upto_region 4 with fail
 refine Run.start 2 ?_;refine .two .o .o (opEq8 (by decide:decide ((1:Int)=1)=true)) ?_;refine .mv (.i 0) ?_;refine .donep [some 20,some 19] ?_;intro w4 B4;change Shut (wpList _ _ _ [] _ _);refine⟨?_⟩;simp only[Act.put,lS,lZ,lC];replace B0:=zup B0 B4;replace b2:=b2.below B4;replace b3:=b3.below B4;replace b4:=b4.below B4;clear B4;go_upto_region 5 with fail
 refine Run.start 10 ?_;refine .ld .o (ldM b2 0) ?_;refine .fa .o (fS1 1) ?_;refine .ld (.i 1) (ldInt b3 1) ?_;refine .fa .o (fS2 2) ?_;refine .ld (.i 3) (ldInt b3 2) ?_;refine .fa .o (fS3 3) ?_;refine .ld (.i 5) (ldZ b3 3) ?_;refine .c4 (.i 0) (.i 2) (.i 4) (.i 6) (x:=noM e') (by rintro u_ v_ x_ y_ w6 hB rfl rfl rfl rfl;exact hc w6 (zup B0 hB)) ?_;refine .ex (.i 7) 0 (exK rfl) ?_;refine .ex (.i 7) 1 (exK rfl) ?_;refine .donep [some 21,some 22,some 23,some 24,some 25,some 26,some 27,some 28,some 29,some 30] ?_;intro w5 B5;change Shut (wpList _ _ _ [_,_] _ _);refine⟨?_⟩;simp only[Act.put,lS,lZ,lC];have P:=Lib.hid (retNo (e:=e') (b4.below B5) (by omega) (zup B0 B5));unfold mput at P;obtain⟨i0,i1,i2,i3,i4,i5,i6⟩:=(b4.below B5).m3
 go_wp2_with fail
 exact bodyPost_ret (v:=.tuple #[.agg #[.int .i64 0,.int .i64 0,.slice none 0 0],.int .i64 e']) (by simp[results,Tryz.results18,go_sem,i0,i1,i2]) rfl P.out
theorem r_w {r₀ c₀ u x y:Int}{A D:Option Addr}{n d m e:Nat}{s:Bool}{w:World}{R C K:Nat}{G:Nat→Nat→Int}(h0:0≤u)(hj:u%3=2)(hc:∀w2,Below w.heap.size w w2→Calls Tryz.prog 48 #[.agg #[.int .i64 r₀,.int .i64 c₀,.slice A n d],.int .i64 x] w2 (RetK (kT (kM true R C K G) (.k (.int .i64 0))) w2)):Calls Tryz.prog 18 #[.agg #[.int .i64 r₀,.int .i64 c₀,.slice A n d],.agg #[.int .u8 u,.int .i64 x,.int .i64 y,.bool s,.slice D m e]] w (RetK (kT (kM true R C K G) (.k (.int .i64 0))) w):=by
 obtain⟨w1,hw1,b2,b3,b4,z1,s1⟩:=boxes3 w 24 39 24 [.int .i64 r₀,.int .i64 c₀,.slice A n d] [.int .u8 u,.int .i64 x,.int .i64 y,.bool s,.slice D m e] [.int .i64 0,.int .i64 0,.slice none 0 0];have HW:=Lib.hid hw1;have HZ:=Lib.hid z1;have h0_:=Lib.hid h0;have hj_:=Lib.hid hj;clear hw1 z1 h0 hj s1;go_enter Tryz.func18,Tryz.ntmps18
 go_upto_region 1 with fail
 rw[HW.out];refine Run.start 3 ?_;refine .fa .o (fS0 0) ?_;refine .ld (.i 0) (ldU8 b3 0) ?_;refine .two (.i 1) .o (opRem8 hj_.out h0_.out) ?_;refine .donep [some 6,some 7,some 8] ?_;intro w2 B2;change Shut (wpList _ _ _ [] _ _);refine⟨?_⟩;simp only[Act.put,lS,lZ,lC];have B0:=zup HZ.out B2;replace b2:=b2.below B2;replace b3:=b3.below B2;replace b4:=b4.below B2;clear B2 HZ;go_upto_region 2 with fail
 refine Run.start 2 ?_;refine .two .o .o (opEq8 (by decide:decide ((2:Int)=0)=false)) ?_;refine .mv (.i 0) ?_;refine .donep [some 10,some 9] ?_;intro w3 B3;change Shut (wpList _ _ _ [] _ _);refine⟨?_⟩;simp only[Act.put,lS,lZ,lC];replace B0:=zup B0 B3;replace b2:=b2.below B3;replace b3:=b3.below B3;replace b4:=b4.below B3;clear B3;go_upto_region 4 with fail
 refine Run.start 2 ?_;refine .two .o .o (opEq8 (by decide:decide ((2:Int)=1)=false)) ?_;refine .mv (.i 0) ?_;refine .donep [some 20,some 19] ?_;intro w4 B4;change Shut (wpList _ _ _ [] _ _);refine⟨?_⟩;simp only[Act.put,lS,lZ,lC];replace B0:=zup B0 B4;replace b2:=b2.below B4;replace b3:=b3.below B4;replace b4:=b4.below B4;clear B4;go_upto_region 6 with fail
 refine Run.start 6 ?_;refine .ld .o (ldM b2 0) ?_;refine .fa .o (fS1 1) ?_;refine .ld (.i 1) (ldInt b3 1) ?_;refine .c2 (.i 0) (.i 2) (x:=kT (kM true R C K G) (.k (.int .i64 0))) (by rintro u_ v_ w6 hB rfl rfl;exact hc w6 (zup B0 hB)) ?_;refine .ex (.i 3) 0 kT_0 ?_;refine .ex (.i 3) 1 kT_1 ?_;refine .donep [some 31,some 32,some 33,some 34,some 35,some 36] ?_;intro w5 B5;rintro v0 -;rintro v ⟨A_,n_,d_,rfl,hM⟩;change Shut (wpList _ _ _ [_,_] _ _);refine⟨?_⟩;simp only[Act.put,lS,lZ,lC];have P:=Lib.hid (retME hM (b4.below B5) (by omega) (zup B0 B5));unfold mput at P;obtain⟨i0,i1,i2,i3,i4,i5,i6⟩:=(b4.below B5).m3;clear hM
 go_wp2_with fail
 exact bodyPost_ret (v:=.tuple #[.agg #[.int .i64 (R:Int),.int .i64 (C:Int),.slice A_ n_ d_],.int .i64 0]) (by simp[results,Tryz.results18,go_sem,i0,i1,i2]) rfl P.out
theorem p_j {r₀ c₀ u x y:Int}{A D:Option Addr}{n d m e:Nat}{s:Bool}{w:World}{e':Int}(h0:0≤u)(hj:u%3=2)(hc:∀w2,Below w.heap.size w w2→Calls Tryz.prog 48 #[.agg #[.int .i64 r₀,.int .i64 c₀,.slice A n d],.int .i64 x] w2 (RetK (noM e') w2)):Calls Tryz.prog 18 #[.agg #[.int .i64 r₀,.int .i64 c₀,.slice A n d],.agg #[.int .u8 u,.int .i64 x,.int .i64 y,.bool s,.slice D m e]] w (RetK (noM e') w):=by
 obtain⟨w1,hw1,b2,b3,b4,z1,s1⟩:=boxes3 w 24 39 24 [.int .i64 r₀,.int .i64 c₀,.slice A n d] [.int .u8 u,.int .i64 x,.int .i64 y,.bool s,.slice D m e] [.int .i64 0,.int .i64 0,.slice none 0 0];have HW:=Lib.hid hw1;have HZ:=Lib.hid z1;have h0_:=Lib.hid h0;have hj_:=Lib.hid hj;clear hw1 z1 h0 hj s1;go_enter Tryz.func18,Tryz.ntmps18
 go_upto_region 1 with fail
 rw[HW.out];refine Run.start 3 ?_;refine .fa .o (fS0 0) ?_;refine .ld (.i 0) (ldU8 b3 0) ?_;refine .two (.i 1) .o (opRem8 hj_.out h0_.out) ?_;refine .donep [some 6,some 7,some 8] ?_;intro w2 B2;change Shut (wpList _ _ _ [] _ _);refine⟨?_⟩;simp only[Act.put,lS,lZ,lC];have B0:=zup HZ.out B2;replace b2:=b2.below B2;replace b3:=b3.below B2;replace b4:=b4.below B2;clear B2 HZ;go_upto_region 2 with fail
 refine Run.start 2 ?_;refine .two .o .o (opEq8 (by decide:decide ((2:Int)=0)=false)) ?_;refine .mv (.i 0) ?_;refine .donep [some 10,some 9] ?_;intro w3 B3;change Shut (wpList _ _ _ [] _ _);refine⟨?_⟩;simp only[Act.put,lS,lZ,lC];replace B0:=zup B0 B3;replace b2:=b2.below B3;replace b3:=b3.below B3;replace b4:=b4.below B3;clear B3;go_upto_region 4 with fail
 refine Run.start 2 ?_;refine .two .o .o (opEq8 (by decide:decide ((2:Int)=1)=false)) ?_;refine .mv (.i 0) ?_;refine .donep [some 20,some 19] ?_;intro w4 B4;change Shut (wpList _ _ _ [] _ _);refine⟨?_⟩;simp only[Act.put,lS,lZ,lC];replace B0:=zup B0 B4;replace b2:=b2.below B4;replace b3:=b3.below B4;replace b4:=b4.below B4;clear B4;go_upto_region 6 with fail
 refine Run.start 6 ?_;refine .ld .o (ldM b2 0) ?_;refine .fa .o (fS1 1) ?_;refine .ld (.i 1) (ldInt b3 1) ?_;refine .c2 (.i 0) (.i 2) (x:=noM e') (by rintro u_ v_ w6 hB rfl rfl;exact hc w6 (zup B0 hB)) ?_;refine .ex (.i 3) 0 (exK rfl) ?_;refine .ex (.i 3) 1 (exK rfl) ?_;refine .donep [some 31,some 32,some 33,some 34,some 35,some 36] ?_;intro w5 B5;change Shut (wpList _ _ _ [_,_] _ _);refine⟨?_⟩;simp only[Act.put,lS,lZ,lC];have P:=Lib.hid (retNo (e:=e') (b4.below B5) (by omega) (zup B0 B5));unfold mput at P;obtain⟨i0,i1,i2,i3,i4,i5,i6⟩:=(b4.below B5).m3
 go_wp2_with fail
 exact bodyPost_ret (v:=.tuple #[.agg #[.int .i64 0,.int .i64 0,.slice none 0 0],.int .i64 e']) (by simp[results,Tryz.results18,go_sem,i0,i1,i2]) rfl P.out
end
section
open Go.RowKit
def stF (j:Int)(i p:Nat)(z:Int)(F:Nat→Nat→Int):Nat→Nat→Int:=fun a b=>if j=0 then(if a=i then F p b else if a=p then F i b else F a b)else if j=1 then(if a=i then F a b+z*F p b else F a b)else(if a=i then -F a b else F a b)
def thr (j r x y:Int):Prop:=0≤x∧x<r∧(j=2∨(0≤y∧y<r))∧(j≠1∨x≠y)
theorem l_6 {r c K K':Nat}{F:Nat→Nat→Int}{w:World}(hk:K≤K'){E:Ending}{w':World}(h:RetK (kT (kM true r c K F) (.k (.int .i64 0))) w E w'):RetK (kT (kM true r c K' F) (.k (.int .i64 0))) w E w':=by
 obtain⟨u,rfl,⟨a,b,rfl,⟨A,n,d,rfl,hM⟩,h2⟩,hB⟩:=h;exact⟨_,rfl,⟨_,_,rfl,⟨A,n,d,rfl,hM.mono hk⟩,h2⟩,hB⟩
theorem m_s {r x y:Int}(h:¬((0≤x∧x<r)∧(0≤y∧y<r))):crw true r [x,y]=1:=by
 unfold crw;rw[if_neg (by simp),if_neg];simp;omega
theorem o_s {r x:Int}(h:¬(0≤x∧x<r)):crw true r [x]=1:=by
 unfold crw;rw[if_neg (by simp),if_neg];simp;omega
theorem o_r {r x:Int}(h:0≤x∧x<r):crw true r [x,x]=0:=by
 unfold crw;rw[if_neg (by simp),if_pos];simp;omega
section
variable {r₀ c₀ u x y j:Int}{A D:Option Addr}{n d m e:Nat}{s:Bool}{w:World}
theorem do_unformed (h0:0≤u)(hj:u%3=j)(hf:fmd r₀ c₀ n=false):Calls Tryz.prog 18 #[.agg #[.int .i64 r₀,.int .i64 c₀,.slice A n d],.agg #[.int .u8 u,.int .i64 x,.int .i64 y,.bool s,.slice D m e]] w (RetK (noM 2) w):=by
 have h3:u%3=0∨u%3=1∨u%3=2:=by omega
 rcases h3 with h|h|h
 ·exact p_k h0 h fun w2 hB=>i_8 hf rfl (by decide)
 ·exact m_l h0 h fun w2 hB=>f_n hf rfl (by decide)
 ·exact p_j h0 h fun w2 hB=>f_m hf rfl (by decide)
theorem r_v (h0:0≤u)(hj:u%3=j)(hf:fmd r₀ c₀ n=true)(ht:¬thr j r₀ x y):Calls Tryz.prog 18 #[.agg #[.int .i64 r₀,.int .i64 c₀,.slice A n d],.agg #[.int .u8 u,.int .i64 x,.int .i64 y,.bool s,.slice D m e]] w (RetK (noM 1) w):=by
 have h3:u%3=0∨u%3=1∨u%3=2:=by omega
 subst hj;unfold thr at ht;rcases h3 with h|h|h
 ·exact p_k h0 h fun w2 hB=>i_8 hf (m_s (by omega)) (by decide)
 ·by_cases hxy:(0≤x∧x<r₀)∧x=y
  ·obtain⟨h1,rfl⟩:=hxy;exact m_l h0 h fun w2 hB=>i_c hf (o_r h1)
  ·exact m_l h0 h fun w2 hB=>f_n hf (m_s (by omega)) (by decide)
 ·exact p_j h0 h fun w2 hB=>f_m hf (o_s (by omega)) (by decide)
theorem o_p {q:Bool}{r c k:Nat}{z:Int}{F:Nat→Nat→Int}(h0:0≤u)(hj:u%3=j)(ha:Mt q w r c A n d k F)(hz:Zv w s D m e z)(ht:thr j r x y)(hk:m+k≤549755813888):Calls Tryz.prog 18 #[.agg #[.int .i64 (r:Int),.int .i64 (c:Int),.slice A n d],.agg #[.int .u8 u,.int .i64 x,.int .i64 y,.bool s,.slice D m e]] w (RetK (kT (kM true r c (m+k+1) (stF j x.toNat y.toNat z F)) (.k (.int .i64 0))) w):=by
 have h3:u%3=0∨u%3=1∨u%3=2:=by omega
 subst hj;unfold thr at ht;obtain⟨hx0,hxr,hy,hne⟩:=ht;obtain⟨i,rfl⟩:=Int.eq_ofNat_of_zero_le hx0;have hi:i<r:=by omega
 rw[show((i:Nat):Int).toNat=i from rfl];rcases h3 with h|h|h
 ·obtain⟨p,rfl⟩:=Int.eq_ofNat_of_zero_le (show 0≤y by omega);rw[show((p:Nat):Int).toNat=p from rfl,h];exact r_y h0 h fun w2 hB=>(l_u (ha.below hB) hi (by omega) (by omega)).mono fun E w' h=>l_6 (by omega) h
 ·obtain⟨p,rfl⟩:=Int.eq_ofNat_of_zero_le (show 0≤y by omega);rw[show((p:Nat):Int).toNat=p from rfl,h];exact r_x h0 h fun w2 hB=>i_b (ha.below hB) (hz.below hB) hi (by omega) (by omega) hk
 ·rw[h];exact r_w h0 h fun w2 hB=>(i_a (ha.below hB) hi (by omega)).mono fun E w' h=>l_6 (by omega) h
end
end
section
open Go.RowKit
structure Sr where
 u:Int
 x:Int
 y:Int
 s:Bool
 A:Option Addr
 n:Nat
 c:Nat
 z:Int
def nsr:Sr:=⟨0,0,0,false,none,0,0,0⟩
def StAt (w:World)(p:Addr)(t:Sr):Prop:=w.cell? p=some (.int .u8 t.u)∧w.cell? ⟨p.block,p.off+1,none⟩=some (.int .i64 t.x)∧w.cell? ⟨p.block,p.off+2,none⟩=some (.int .i64 t.y)∧w.cell? ⟨p.block,p.off+3,none⟩=some (.bool t.s)∧w.cell? ⟨p.block,p.off+4,none⟩=some (.slice t.A t.n t.c)
theorem StAt.below {w w':World}{b:Nat}{p:Addr}{t:Sr}(h:StAt w p t)(hp:p.block<b)(hb:Below b w w'):StAt w' p t:=
 ⟨(hb.cell hp).trans h.1,(hb.cell (p:=⟨p.block,p.off+1,none⟩) hp).trans h.2.1,(hb.cell (p:=⟨p.block,p.off+2,none⟩) hp).trans h.2.2.1,(hb.cell (p:=⟨p.block,p.off+3,none⟩) hp).trans h.2.2.2.1,(hb.cell (p:=⟨p.block,p.off+4,none⟩) hp).trans h.2.2.2.2⟩
structure SL (w:World) (A:Option Addr) (n c:Nat) (R:List Sr):Prop where
 len:R.length=n
 le:n≤c
 cap:c≤9223372036854775807
 at':0<n→∃ad,A=some ad∧ad.block<w.heap.size∧∀j,j<n→StAt w (ad.add (j*5)) (R.getD j nsr)
 num:∀x,x∈R→0≤x.u∧Zv w x.s x.A x.n x.c x.z
theorem SL.below {w w':World}{A:Option Addr}{n c:Nat}{R:List Sr}(h:SL w A n c R)(hb:Below w.heap.size w w'):SL w' A n c R:=⟨h.len,h.le,h.cap,fun h0=>by
 obtain⟨ad,rfl,h1,h2⟩:=h.at' h0;exact⟨ad,rfl,Nat.lt_of_lt_of_le h1 hb.size,fun j hj=>(h2 j hj).below (by rw[a_b];exact h1) hb⟩,fun x hx=>⟨(h.num x hx).1,(h.num x hx).2.below hb⟩⟩
theorem SL.at {w:World}{A:Option Addr}{n c j:Nat}{R:List Sr}(h:SL w A n c R)(hj:j<n):∃ad t,A=some ad∧ad.block<w.heap.size∧StAt w (ad.add (j*5)) t∧0≤t.u∧Zv w t.s t.A t.n t.c t.z:=by
 obtain⟨ad,rfl,h1,h2⟩:=h.at' (by omega);have hl:j<R.length:=by rw[h.len];exact hj
 have e:R.getD j nsr=R[j]:=by simp[List.getD,hl]
 have h3:=h2 j hj;rw[e]at h3;have h4:=h.num _ (List.getElem_mem hl);exact⟨ad,R[j],rfl,h1,h3,h4.1,h4.2⟩
theorem ldSt {w:World}{p:Addr}{t:Sr}(hp:p.block<w.heap.size)(h:StAt w p t):∀w',Below w.heap.size w w'→(Instr.loadAt 39 (.pointer (some p))).run Tryz.prog w'= .ok (.agg #[.int .u8 t.u,.int .i64 t.x,.int .i64 t.y,.bool t.s,.slice t.A t.n t.c]) w':=fun w' hb=>by
 obtain⟨e0,e1,e2,e3,e4⟩:=h.below hp hb;simp[go_sem,a_p,Addr.add,e0,e1,e2,e3,e4]
theorem fSa3 {p:Addr}(w:World):(Instr.fieldAt 39 (.pointer (some p)) 3).run Tryz.prog w= .ok (.pointer (some ⟨p.block,p.off+3,none⟩)) w:=by simp[go_sem,Addr.add]
theorem n_n {w:World}{ad:Addr}{k n c:Nat}(h:k<n):(Instr.indexAt 33 (.slice (some ad) n c) (.int .i64 (k:Int))).run Tryz.prog w= .ok (.pointer (some (ad.add (k*5)))) w:=by
 simp[go_sem,Tryz.underlying33,show Tryz.prog.cellsOf 39=5 by kernel_rfl];omega
theorem opIxSt {ad:Addr}{n c k:Nat}{X Y:Operand}(h:k<n)(w:World):RunTwo Tryz.prog (.indexAddr 33 X Y) w (.slice (some ad) n c) (.int .i64 (k:Int)) (.pointer (some (ad.add (k*5)))):=n_n h
section
variable {j:Int}{i p r c:Nat}{z:Int}{F:Nat→Nat→Int}
theorem o_6 (hi:i<r)(hp:j=2∨p<r)(hj:j=0∨j=1∨j=2){a:Nat}(ha:a<r):DT.Lat r c F (stF j i p z F a):=by
 rcases hj with rfl|rfl|rfl
 ·have hp:p<r:=by omega
  by_cases e:a=i
  ·exact(DT.Lat.row r c F hp).ext fun b _=>by simp[stF,e]
  ·by_cases e2:a=p
   ·exact(DT.Lat.row r c F hi).ext fun b _=>by simp only[stF,if_neg e,if_pos e2,if_true]
   ·exact(DT.Lat.row r c F ha).ext fun b _=>by simp only[stF,if_neg e,if_neg e2,if_true]
 ·have hp:p<r:=by omega
  by_cases e:a=i
  ·exact((DT.Lat.row r c F ha).add ((DT.Lat.row r c F hp).smul z)).ext fun b _=>by simp[stF,e]
  ·exact(DT.Lat.row r c F ha).ext fun b _=>by simp[stF,e]
 ·by_cases e:a=i
  ·exact((DT.Lat.row r c F ha).smul (-1)).ext fun b _=>by simp[stF,e]
  ·exact(DT.Lat.row r c F ha).ext fun b _=>by simp[stF,e]
theorem p_7 (hne:j≠1∨i≠p)(hj:j=0∨j=1∨j=2)(a b:Nat):F a b=stF j i p (-z) (stF j i p z F) a b:=by
 rcases hj with rfl|rfl|rfl
 ·simp only[stF,if_true];by_cases e:a=i<;>by_cases e2:a=p<;>by_cases e3:p=i<;>simp_all
 ·have hne:p≠i:=by omega
  by_cases e:a=i
  ·simp[stF,e,hne,Int.neg_mul];omega
  ·simp[stF,e]
 ·by_cases e:a=i<;>simp[stF,e]
theorem s_p {x y:Int}(h:thr j r x y)(hj:j=0∨j=1∨j=2)(v:Nat→Int):DT.Lat r c (stF j x.toNat y.toNat z F) v↔DT.Lat r c F v:=by
 obtain⟨h1,h2,h3,h4⟩:=h;have hi:x.toNat<r:=by omega
 have hp:j=2∨y.toNat<r:=by omega
 have hne:j≠1∨x.toNat≠y.toNat:=by omega
 refine⟨DT.Lat.within fun a ha=>o_6 hi hp hj ha,DT.Lat.within fun a ha=>?_⟩;exact(o_6 (F:=stF j x.toNat y.toNat z F) (z:=-z) hi hp hj ha).ext fun b _=>p_7 hne hj a b
end
theorem noM_kT' {e:Int}{w:World}{E:Ending}{w':World}(h:RetK (noM e) w E w'):RetK (kT (.k (.agg #[.int .i64 0,.int .i64 0,.slice none 0 0])) (.k (.int .i64 e))) w E w':=h.mono fun v w2 hv=>by
  obtain rfl:v=_:=hv;exact⟨_,_,rfl,rfl,rfl⟩
theorem t_f {V:Nat}(h:V≤8):hbd 17 V:=⟨by decide,by decide,by
 have:∀V,V<9→t1 17 V*(V+3)≤68719476736:=by decide
 exact this V (by omega)⟩
end
section
open Go.Joins Go.ChangeShapes Go.WideShapes Go.RowKit Go.Deep
section
variable {H:Type}{enc:TypeId × Value→H}{P:Program}{W:World}{base:Nat}{held:Bool}
theorem j_0 {fuel:Nat}{t:TypeId}{g0 g1:Field}{e:TypeId}{c0 c1:Value}{x:DataW H × List MemPlace}(ht:P.underlying t=some (.struct #[g0,g1]))(hone:oneCellFields P #[g0,g1]=true)
  (hb:P.underlying g0.type=some .bool) (hs:P.underlying g1.type=some (.slice e)) (he:P.underlying e=some (.int .u64)) (hc:P.cellsOf e=1)
  (h:DataW.trod enc P W base (fun _=>true) held fuel t [c0,c1]=some x):
  ∃(s:Bool) (A:Option Addr) (n c:Nat) (zs:List Int),c0= .bool s∧c1= .slice A n c∧IsRow .u64 W A n c zs:=by
 obtain⟨y0,y1,m,rfl,_,h0,h1⟩:=trod_struct2 ht h;obtain⟨o0,k0⟩:=hone_of hone 0 g0 rfl;obtain⟨o1,k1⟩:=hone_of hone 1 g1 rfl;rw[o0,k0]at h0;rw[o1,k1]at h1;simp only[List.drop_zero,List.take_succ_cons,List.take_zero,List.drop_succ_cons]at h0 h1;obtain⟨s,hs0,_⟩:=DataW.trod_bool hb h0;rcases open_ints hs he hc h1 with⟨hcs,_⟩|⟨x,l,c,zs,hcs,_,hl,hm,hz,_,hcell,hwz⟩
 ·simp at hs0 hcs;subst hs0 hcs;exact⟨s,none,0,0,[],rfl,rfl,.inl ⟨rfl,rfl,rfl,rfl⟩⟩
 ·simp at hs0 hcs;subst hs0 hcs;exact⟨s,some x,l,c,zs,rfl,rfl,.inr ⟨_,rfl,hl,hm,by simpa using hz,hcell,hwz⟩⟩
end
end
section
open Go.Joins Go.ChangeShapes Go.WideShapes Go.RowKit Go.Deep
section
variable {H:Type}{enc:TypeId × Value→H}{P:Program}{W:World}{base:Nat}{held:Bool}
theorem n_x {t e q:TypeId}{f0 f1 f2 f3 g0 g1:Field}{A:Option Addr}{n c:Nat}{d:DataW H}{ps:List MemPlace}(ht:P.underlying t=some (.slice e))(he:P.underlying e=some (.struct #[f0,f1,f2,f3]))(hC:P.cellsOf e=5∧f0.offset=0∧f1.offset=1∧f2.offset=2∧f3.offset=3∧P.cellsOf f0.type=1∧P.cellsOf f1.type=1∧P.cellsOf f2.type=1∧P.cellsOf f3.type=2)
  (h0:P.underlying f0.type=some (.int .u8)) (h1:P.underlying f1.type=some (.int .i64)) (h2:P.underlying f2.type=some (.int .i64)) (h3:P.underlying f3.type=some (.struct #[g0,g1])) (hone:oneCellFields P #[g0,g1]=true)
  (hb:P.underlying g0.type=some .bool) (hs:P.underlying g1.type=some (.slice q)) (hq:P.underlying q=some (.int .u64)) (hc:P.cellsOf q=1)
  (h:DataW.Trod enc P W base (fun _=>true) held t (.slice A n c) d ps) (hlt:∀x∈ps,x.block<W.heap.size):
  ∃R:List Sr,SL W A n c R:=by
 obtain⟨hC,o0,o1,o2,o3,k0,k1,k2,k3⟩:=hC;obtain⟨fuel,hf⟩:=h;rcases open_slice ht hf with⟨hcs,hx⟩|⟨a,len,cap,m,n',D,Pl,hcs,hb0,hl,hm,hmm,hx,hi⟩
 ·simp[Value.cells]at hcs;obtain⟨rfl,rfl,rfl⟩:=hcs;exact⟨[],rfl,Nat.le_refl _,by omega,fun h=>by omega,fun x hx=>(by cases hx)⟩
 ·simp[Value.cells]at hcs;obtain⟨rfl,rfl,rfl⟩:=hcs;simp only[if_true]at hmm;subst hmm;rw[hC]at hi hx;have each:∀i,i<m→∃y:Sr,StAt W (a.add (i*5)) y∧0≤y.u∧Zv W y.s y.A y.n y.c y.z:=by
   intro i him;obtain⟨cs',hc1,hc2⟩:=hi i him;obtain⟨_,hc3,hc4⟩:=World.cells?_some hc1;match cs',hc3 with
   | [v0,v1,v2,v3,v4],_=>
    obtain⟨y0,y1,y2,y3,n'',_,_,m0,m1,m2,m3⟩:=trod_struct4 he hc2;rw[o0,k0]at m0;rw[o1,k1]at m1;rw[o2,k2]at m2;rw[o3,k3]at m3;simp only[Value.cells,List.drop_zero,List.take_succ_cons,List.take_zero,List.drop_succ_cons]at m0 m1 m2 m3;obtain⟨u,hu,_,hw⟩:=DataW.trod_int h0 m0;obtain⟨x,hx',_,_⟩:=DataW.trod_int h1 m1;obtain⟨y,hy,_,_⟩:=DataW.trod_int h2 m2;obtain⟨s,A1,n1,c1,zs,rfl,rfl,w0⟩:=j_0 h3 hone hb hs hq hc m3;simp at hu hx' hy;subst hu hx' hy;have e0:W.cell? (a.add (i*5))=some (.int .u8 u):=by have:=hc4 0 (by omega);simpa [Addr.add] using this
    have e1:W.cell? ⟨(a.add (i*5)).block,(a.add (i*5)).off+1,none⟩=some (.int .i64 x):=by have:=hc4 1 (by omega);simpa [Addr.add] using this
    have e2:W.cell? ⟨(a.add (i*5)).block,(a.add (i*5)).off+2,none⟩=some (.int .i64 y):=by have:=hc4 2 (by omega);simpa [Addr.add] using this
    have e3:W.cell? ⟨(a.add (i*5)).block,(a.add (i*5)).off+3,none⟩=some (.bool s):=by have:=hc4 3 (by omega);simpa [Addr.add] using this
    have e4:W.cell? ⟨(a.add (i*5)).block,(a.add (i*5)).off+4,none⟩=some (.slice A1 n1 c1):=by have:=hc4 4 (by omega);simpa [Addr.add] using this
    obtain⟨v,hv⟩:=w0.nv;refine⟨⟨u,x,y,s,A1,n1,c1,sg s v⟩,⟨e0,e1,e2,e3,e4⟩, ?_,⟨v,hv,Lib.hid rfl⟩⟩;simp[Lit.wf,IntKind.min,IntKind.signed]at hw;exact hw.1
  haveI:Inhabited Sr:=⟨nsr⟩
  obtain⟨y,hy⟩:=choose_lt each;have hg:∀j,j<n→((List.range n).map y).getD j nsr=y j:=fun j hj=>by simp[List.getD,hj]
  refine⟨(List.range n).map y,by simp,(by first|omega|(simp only[maxLen]at*;omega)),(by first|omega|(simp only[maxLen]at*;omega)),fun h0=>⟨a,rfl, ?_,fun j hj=>?_⟩,fun x hx=>?_⟩
  ·have h1:=(hy 0 (by omega)).1.1
   have:=World.block_lt_of_cell? W _ h1;rwa [a_b]at this
  ·rw[hg j hj];exact(hy j (by omega)).1
  ·obtain⟨j,hj,rfl⟩:=List.mem_map.1 hx;exact(hy j (by have:=List.mem_range.1 hj;omega)).2
end
end
end Go.Proofs.YtgohglhefhocgaaGreat
