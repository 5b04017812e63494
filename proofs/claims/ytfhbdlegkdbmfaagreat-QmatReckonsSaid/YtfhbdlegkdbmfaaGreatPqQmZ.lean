/-
  Package qmat: Mul, of what doesn't go together.
-/
import Derived.Test.YtfhbdlegkdbmfaaGreatPqQmY
set_option linter.unusedVariables false
set_option linter.unusedSimpArgs false
set_option linter.unusedSectionVars false
set_option maxRecDepth 100000
set_option maxHeartbeats 8000000
namespace Go.Proofs.YtfhbdlegkdbmfaaGreat
open Go.RowKit
theorem v_f {r c r' c':Int}{n d n' d':Nat}{A A':Option Addr}{w:World}(h:(fmd r c n&&fmd r' c' n'&&decide (c=r'))=false):Calls Tryz.prog 25 #[.agg #[.int .i64 r,.int .i64 c,.slice A n d],.agg #[.int .i64 r',.int .i64 c',.slice A' n' d']] w (RetK (noM 2) w):=by
 obtain⟨t1,h1⟩:∃t,(fmd r c n&&fmd r' c' n')=t:=⟨_,rfl⟩;obtain⟨w1,hw1,b2,b3,b4,z1,s1⟩:=boxes3 w 24 24 24 [.int .i64 r,.int .i64 c,.slice A n d] [.int .i64 r',.int .i64 c',.slice A' n' d'] [.int .i64 0,.int .i64 0,.slice none 0 0];have HW:=Lib.hid hw1;have HZ:=Lib.hid z1;have h1_:=Lib.hid h1;have h_:=Lib.hid h;clear hw1 z1 h1 h s1;go_enter Tryz.func25,Tryz.ntmps25
 go_upto_region 1 with fail
 rw[HW.out];cases t1
 ·refine Run.start 11 ?_;refine .ld .o (ldQm b2 0) ?_;refine .ld .o (ldQm b3 0) ?_;refine .c2 (.i 0) (.i 1) (x:=.k (.bool false)) (by rintro u v w2 hB rfl rfl;exact e_b h1_.out w2) ?_;refine .nf (.i 2) ?_;refine .mv (.i 3) ?_;refine .no ?_;refine .no ?_;refine .no ?_;refine .no ?_;refine .no ?_;refine .pk (.i 4) .o true ?_;refine .donep [some 10,some 11,some 12,some 13,some 14,some 15,some 16,some 17,some 18,some 19,some 20] ?_;intro w2 B2;refine sh [] ?_;simp only[Act.put,lS,lZ,lC];have P:=Lib.hid (retNoT (e':=2) (b4.below B2) (by omega) (zup HZ.out B2));unfold mput at P;obtain⟨i0,i1,i2,i3,i4,i5,i6⟩:=(b4.below B2).m3
  go_wp2_with fail
  exact bodyPost_ret (v:=.tuple #[.agg #[.int .i64 0,.int .i64 0,.slice none 0 0],.int .i64 2]) (by simp[results,Tryz.results25,go_sem,i0,i1,i2]) rfl P.out
 ·have h2:decide (c≠r')=true:=by have:=h_.out;rw[h1_.out]at this;simpa using this
  have H2:=Lib.hid h2;clear h2;refine Run.start 11 ?_;refine .ld .o (ldQm b2 0) ?_;refine .ld .o (ldQm b3 0) ?_;refine .c2 (.i 0) (.i 1) (x:=.k (.bool true)) (by rintro u v w2 hB rfl rfl;exact e_b h1_.out w2) ?_;refine .nt (.i 2) ?_;refine .mv (.i 3) ?_;refine .fa .o (fQ1 1) ?_;refine .ld (.i 5) (ldInt b2 1) ?_;refine .fa .o (fQ0 0) ?_;refine .ld (.i 7) (ldInt b3 0) ?_;refine .two (.i 6) (.i 8) (opNe H2.out) ?_;refine .pk (.i 4) (.i 9) false ?_;refine .donep [some 10,some 11,some 12,some 13,some 14,some 15,some 16,some 17,some 18,some 19,some 20] ?_;intro w2 B2;refine sh [] ?_;simp only[Act.put,lS,lZ,lC];have P:=Lib.hid (retNoT (e':=2) (b4.below B2) (by omega) (zup HZ.out B2));unfold mput at P;obtain⟨i0,i1,i2,i3,i4,i5,i6⟩:=(b4.below B2).m3
  go_wp2_with fail
  exact bodyPost_ret (v:=.tuple #[.agg #[.int .i64 0,.int .i64 0,.slice none 0 0],.int .i64 2]) (by simp[results,Tryz.results25,go_sem,i0,i1,i2]) rfl P.out
def cF (p:PM):Nat->Nat->Rat:=fun i j=>((p.F i j:Int):Rat)
theorem m_y (F G:Nat->Nat->Int)(i j:Nat):∀n,RT.mul n (fun i j=>((F i j:Int):Rat)) (fun i j=>((G i j:Int):Rat)) i j=((dot F G i j n:Int):Rat)
 |0=>by simp[RT.mul,RT.sumN,dot]
 |n+1=>by
  have ih:=m_y F G i j n;unfold RT.mul at ih ⊢;show RT.sumN n _+_=_
  rw[ih];show _=((dot F G i j n+F i n*G n j:Int):Rat)
  rw[Rat.intCast_add,Rat.intCast_mul]
section
variable {w w':World}{E:Ending}{p:PM}{e:Int}{K K' k n d n' d':Nat}{A A':Option Addr}{q q':Bool}{a b:PM}
theorem Mq.zero (w:World)(K:Nat)(F:Nat->Nat->Rat):Mq true w 0 0 none 0 0 K F:=⟨QL.nil true w K,by omega,by omega⟩
theorem o_7 (hp:pz=p)(he:2=e)(h:RetK (noM 2) w E w'):RetK (kT (kMq true p.r p.c K (cF p)) (.k (.int .i64 e))) w E w':=by
 obtain⟨u,rfl,rfl,hB⟩:=h;subst hp he;exact⟨_,rfl,⟨_,_,rfl,⟨none,0,0,rfl,Mq.zero w' K _⟩,rfl⟩,hB⟩
theorem m_f {r c b0:Nat}{FI:Nat->Nat->Int}{F:Nat->Nat->Rat}(hp:(⟨r,c,FI⟩:PM)=p)(hF:∀i j,i<r->j<c->F i j=((FI i j:Int):Rat))(he:0=e)(hk:K<=K')(h:RetK (kT (kMw b0 r c K F) (.k (.int .i64 0))) w E w'):RetK (kT (kMq true p.r p.c K' (cF p)) (.k (.int .i64 e))) w E w':=by
 obtain⟨u,rfl,⟨x,y,rfl,⟨A,n,d,rfl,hM⟩,h2⟩,hB⟩:=h;subst hp he;exact⟨_,rfl,⟨_,_,rfl,⟨A,n,d,rfl,(hM.mq.congr hF).mono hk⟩,h2⟩,hB⟩
theorem r_0 (hA:Mq q w a.r a.c A n d k (cF a))(hB:Mq q' w b.r b.c A' n' d' k (cF b))(hp:vP (oAdd (some a) (some b))=p)(he:vE (oAdd (some a) (some b))=e)(hK:2*k+1<=K)(hk0:1<=k)(hk:k<=1073741824):Calls Tryz.prog 23 #[.agg #[.int .i64 (a.r:Int),.int .i64 (a.c:Int),.slice A n d],.agg #[.int .i64 (b.r:Int),.int .i64 (b.c:Int),.slice A' n' d']] w (RetK (kT (kMq true p.r p.c K (cF p)) (.k (.int .i64 e))) w):=by
 by_cases hcr:a.r=b.r/\a.c=b.c
 ·have ho:oAdd (some a) (some b)=some ⟨a.r,a.c,fun i j=>a.F i j+b.F i j⟩:=if_pos hcr;rw[ho]at hp he;obtain⟨e1,e2⟩:=hcr;rw[<-e1,<-e2]at hB ⊢;exact(r_z hA hB hk0 hk).mono fun E w' h=>m_f hp (fun i j _ _=>(Rat.intCast_add _ _).symm) he hK h
 ·have ho:oAdd (some a) (some b)=none:=if_neg hcr;rw[ho]at hp he;refine(v_l ?_).mono fun E w' h=>o_7 hp he h;by_cases e1:(a.r:Int)=b.r
  ·rw[decide_eq_false (by omega:¬(a.c:Int)=b.c)];simp
  ·rw[decide_eq_false e1];simp
theorem r_w (hA:Mq q w a.r a.c A n d k (cF a))(hB:Mq q' w b.r b.c A' n' d' k (cF b))(hp:vP (oMul (some a) (some b))=p)(he:vE (oMul (some a) (some b))=e)(hK:pk a.c k+pk a.c k+a.c+pc a.c k+pc a.c k+1<=K)(hKb:K<=1073741824)(hk0:1<=k):Calls Tryz.prog 25 #[.agg #[.int .i64 (a.r:Int),.int .i64 (a.c:Int),.slice A n d],.agg #[.int .i64 (b.r:Int),.int .i64 (b.c:Int),.slice A' n' d']] w (RetK (kT (kMq true p.r p.c K (cF p)) (.k (.int .i64 e))) w):=by
 by_cases hcr:a.c=b.r
 ·have ho:oMul (some a) (some b)=some ⟨a.r,b.c,fun i j=>dot a.F b.F i j a.c⟩:=if_pos hcr;rw[ho]at hp he;rw[<-hcr]at hB ⊢;exact(r_v hA hB hk0 hK hKb).mono fun E w' h=>m_f hp (fun i j _ _=>m_y a.F b.F i j a.c) he (Nat.le_refl _) h
 ·have ho:oMul (some a) (some b)=none:=if_neg hcr;rw[ho]at hp he;exact(v_f (by rw[decide_eq_false (by omega:¬(a.c:Int)=b.r)];simp)).mono fun E w' h=>o_7 hp he h
end
end Go.Proofs.YtfhbdlegkdbmfaaGreat
