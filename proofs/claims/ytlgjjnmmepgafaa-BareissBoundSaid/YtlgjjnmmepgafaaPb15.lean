/- Pb15 -/
import Derived.Test.YtlgjjnmmepgafaaPb14
set_option linter.unusedVariables false
set_option linter.unusedSimpArgs false
set_option linter.unusedSectionVars false
set_option maxRecDepth 100000
set_option maxHeartbeats 8000000
namespace Go.Proofs.Ytlgjjnmmepgafaa
section
open Go.RowKit
structure Il (w:World) (A:Option Addr) (n d:Nat) (xs:List Int):Prop where
 len:xs.length=n
 le:n<=d
 cap:d<=9223372036854775807
 at':0<n->∃ad,A=some ad/\ad.block<w.heap.size/\∀j,j<n->w.cell? (ad.add j)=some (.int .i64 (xs.getD j 0))
 bd:∀j,j<n-> -9223372036854775808<=xs.getD j 0/\xs.getD j 0<=9223372036854775807
theorem Il.below {w w':World}{A:Option Addr}{n d:Nat}{xs:List Int}(h:Il w A n d xs)(hb:Below w.heap.size w w'):Il w' A n d xs:=⟨h.len,h.le,h.cap,fun h0=>by
 obtain⟨ad,e,h1,h2⟩:=h.at' h0;exact⟨ad,e,Nat.lt_of_lt_of_le h1 hb.size,fun j hj=>(hb.cell (p:=ad.add j) (by rw[a_a];exact h1)).trans (h2 j hj)⟩,h.bd⟩
theorem o_t {w:World}{ad:Addr}{n d k:Nat}(h:k<n):(Instr.indexAt 82 (.slice (some ad) n d) (.int .i64 (k:Int))).run Try.prog w= .ok (.pointer (some (ad.add k))) w:=by
 simp[go_sem,Try.underlying82,show Try.prog.cellsOf 2=1 by kernel_rfl];omega
theorem opIxJ {ad:Addr}{n d k:Nat}{X Y:Operand}(h:k<n)(w:World):RunTwo Try.prog (.indexAddr 82 X Y) w (.slice (some ad) n d) (.int .i64 (k:Int)) (.pointer (some (ad.add k))):=o_t h
theorem ldJ {w:World}{p:Addr}{x:Int}(hp:p.block<w.heap.size)(h:w.cell? p=some (.int .i64 x)):∀w',Below w.heap.size w w'->(Instr.loadAt 2 (.pointer (some p))).run Try.prog w'= .ok (.int .i64 x) w':=fun w' hb=>by
 have:=(hb.cell hp).trans h;simp[go_sem,a_u,this]
theorem ldIL {w:World}{g:Nat}{T:TypeId}{cs:List Value}(b:Bx w g T cs)(o:Nat){A:Option Addr}{n c:Nat}(hc:cs[o]? =some (.slice A n c):=by rfl):∀w',Below w.heap.size w w'->(Instr.loadAt 82 (.pointer (some ⟨g,o,none⟩))).run Try.prog w'= .ok (.slice A n c) w':=fun w' hb=>by
 have h:=(b.below hb).cell o;rw[hc]at h;simp[go_sem,a_u,h]
theorem r_8 {i j n d r c g g':Nat}{A:Option Addr}{xs:List Int}{w:World}(b2:Bx w g 82 [.slice A n d])(b3:Bx w g' 3 [.int .i64 (c:Int)])(hl:Il w A n d xs)(hn:n=r*c)(hr:r<=64)(hc:c<=64)(hi:i<r)(hj:j<c):Calls Try.prog 55 #[.int .i64 (i:Int),.int .i64 (j:Int),.pointer (some ⟨g,0,none⟩),.pointer (some ⟨g',0,none⟩)] w (RetK (kC (xs.getD (i*c+j) 0) 1) w):=by
 have h5:i*c<=64*64:=Nat.mul_le_mul (by omega) hc;have hlt:i*c+j<n:=by rw[hn];exact f_y hi hj
 obtain⟨x,hx⟩:∃x,xs.getD (i*c+j) 0=x:=⟨_,rfl⟩;rw[hx];obtain⟨w1,hw1,b6,z1,s1⟩:=boxes1 w 30 [.bool false,.slice none 0 0];have HW:=Lib.hid hw1;have HZ:=Lib.hid z1;replace b2:=b2.below z1;replace b3:=b3.below z1;obtain⟨ad,rfl,hab,hcell⟩:=(hl.below z1).at' (by omega);have hce:=hcell _ hlt;have hbd:=hl.bd _ hlt;rw[hx]at hce hbd;clear hcell hl;clear hw1 z1 s1 hx hn;go_enter Try.func55,Try.ntmps55
 go_upto_region 1 with fail
 rw[HW.out];refine Run.start 9 ?_;refine .ld .o (ldIL b2 0) ?_;refine .mv .o ?_;refine .ld .o (ldInt b3 0) ?_;refine .two (.i 1) (.i 2) (opMulN i c (by omega)) ?_;refine .mv .o ?_;refine .two (.i 3) (.i 4) (opAddN (i*c) j (by omega)) ?_;refine .two (.i 0) (.i 5) (opIxJ hlt) ?_;refine .ld (.i 6) (ldJ (by rw[a_a];exact hab) hce) ?_;refine .c1 (.i 7) (x:=kC x 1) (by rintro u w2 hB rfl;exact i_v hbd.1 hbd.2 w2) ?_;refine .donep [some 7,some 8,some 9,some 10,some 11,some 12,some 13,some 14,some 15] ?_;intro w2 B2;rintro v ⟨s_,A_,n_,c_,rfl,hz,hk_⟩;refine sh [_] ?_;simp only[Act.put,lS,lZ,lC];have I:=Ib.entry (b6.below B2);have P:=Lib.hid (retC hz I (k:=1) (by omega) (by omega) (zup HZ.out B2));obtain⟨i1,i2,i3,i4,i5⟩:=I;clear hz
 go_wp2_with fail
 exact bodyPost_ret (v:=.agg #[.bool s_,.slice A_ n_ c_]) (by simp[results,Try.results55,go_sem,i1,i2]) rfl P.out
theorem p_c {r c n d:Nat}{A:Option Addr}{xs:List Int}{w:World}(hl:Il w A n d xs)(hn:n=r*c)(hr:r<=64)(hc:c<=64):Calls Try.prog 28 #[.int .i64 (r:Int),.int .i64 (c:Int),.slice A n d] w (RetK (kT (kM true r c (1) (fun i j=>xs.getD (i*c+j) 0)) (.k (.int .i64 0))) w):=by
 have h1:sd (r:Int)=true:=by unfold sd;exact decide_eq_true (by omega)
 have h2:sd (c:Int)=true:=by unfold sd;exact decide_eq_true (by omega)
 have hrc:r*c<=64*64:=Nat.mul_le_mul hr hc;obtain⟨w1,hw1,b4,b5,b6,z1,s1⟩:=boxes3 w 3 82 24 [.int .i64 (c:Int)] [.slice A n d] [.int .i64 0,.int .i64 0,.slice none 0 0];have HW:=Lib.hid hw1;have HZ:=Lib.hid z1;have h1_:=Lib.hid h1;have h2_:=Lib.hid h2;have hn_:=Lib.hid hn;clear hw1 z1 h1 h2 hn s1;go_enter Try.func28,Try.ntmps28
 go_upto_region 1 with fail
 rw[HW.out];refine Run.start 9 ?_;refine .mv .o ?_;refine .c1 (.i 0) (x:=.k (.bool true)) (by rintro u w2 hB rfl;exact e_e _ h1_.out w2) ?_;refine .nt (.i 1) ?_;refine .mv (.i 2) ?_;refine .ld .o (ldInt b4 0) ?_;refine .c1 (.i 4) (x:=.k (.bool true)) (by rintro u w2 hB rfl;exact e_e _ h2_.out w2) ?_;refine .nt (.i 5) ?_;refine .pk (.i 3) (.i 6) false ?_;refine .mv (.i 7) ?_;refine .donep [some 9,some 10,some 11,some 12,some 13,some 14,some 15,some 16,some 8] ?_;intro w2 B2;refine sh [] ?_;simp only[Act.put,lS,lZ,lC];replace b4:=b4.below B2;replace b5:=b5.below B2;replace b6:=b6.below B2;have HZ2:=Lib.hid (zup HZ.out B2);clear B2 HZ;go_upto_region 3 with fail
 refine Run.start 7 ?_;refine .ld .o (ldIL b5 0) ?_;refine .len (.i 0) Try.underlying82 ?_;refine .mv .o ?_;refine .ld .o (ldInt b4 0) ?_;refine .two (.i 2) (.i 3) (opMulN r c (by omega)) ?_;refine .two (.i 1) (.i 4) (opNe (decide_eq_false (by have:=hn_.out;omega:¬((n:Int)≠((r*c:Nat):Int))))) ?_;refine .mv (.i 5) ?_;refine .donep [some 19,some 20,some 21,some 22,some 23,some 24,some 18] ?_;intro w3 B3;refine sh [] ?_;simp only[Act.put,lS,lZ,lC];replace b4:=b4.below B3;replace b5:=b5.below B3;replace b6:=b6.below B3;have HZ3:=Lib.hid (zup HZ2.out B3);clear B3 HZ2;go_upto_region 5 with fail
 refine Run.start 4 ?_;refine .mv .o ?_;refine .ld .o (ldInt b4 0) ?_;refine .fn [] [.o,.o] [] [_,_] (trivial) (⟨rfl,rfl,trivial⟩) ?_;refine .c3 (.i 0) (.i 1) (.i 2) (x:=kM true r c 1 (fun i j=>xs.getD (i*c+j) 0)) (by rintro u v x w4 hB rfl rfl rfl;exact k_x hr hc (by kernel_rfl) (fun i j W hi hj hW=>by rw[argsC2];exact r_8 ((b5.below hB).below hW) ((b4.below hB).below hW) (hl.below (zup (zup HZ3.out hB) hW)) hn_.out hr hc hi hj)) ?_;refine .donep [some 26,some 27,some 28,some 29] ?_;intro w4 B4;rintro v ⟨A_,n_,d_,rfl,hM⟩;refine sh [_,_] ?_;simp only[Act.put,lS,lZ,lC];have P:=Lib.hid (retME hM (b6.below B4) (by omega) (zup HZ3.out B4));unfold mput at P;obtain⟨i0,i1,i2,i3,i4,i5,i6⟩:=(b6.below B4).m3;clear hM
 go_wp2_with fail
 exact bodyPost_ret (v:=.tuple #[.agg #[.int .i64 (r:Int),.int .i64 (c:Int),.slice A_ n_ d_],.int .i64 0]) (by simp[results,Try.results28,go_sem,i0,i1,i2]) rfl P.out
end
end Go.Proofs.Ytlgjjnmmepgafaa
