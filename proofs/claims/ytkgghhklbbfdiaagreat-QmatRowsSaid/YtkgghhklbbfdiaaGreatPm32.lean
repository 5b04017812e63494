/- Pm32 -/
import Derived.Test.YtkgghhklbbfdiaaGreatPm31
set_option linter.unusedVariables false
set_option linter.unusedSimpArgs false
set_option linter.unusedSectionVars false
set_option maxRecDepth 100000
set_option maxHeartbeats 8000000
namespace Go.Proofs.YtkgghhklbbfdiaaGreat
open Go.RowKit Go.Shelf
attribute [local go_sem] Oper.semAt_some
def noP (Q:Exit→Act→World→Prop):Exit→Act→World→Prop
 | .panic _,_,_=>False
 | .outgrown,_,_=>False
 |e,a,w=>Q e a w
theorem reg_noP {P:Program}{c:Code}{Q:Exit→Act→World→Prop}{a:Act}{w:World}(h:c.wp P (noP Q) a w):c.wp P Q a w:=wp_mono h fun e a w h=>by
 cases e<;>first|exact h|exact h.elim
theorem h_v {w:World}{g g':Nat}{T T':TypeId}{cs cs':Array Value}{x x':Nat × Nat}(h:w.heap[g]? =some (.cells cs T x))(h':w.heap[g']? =some (.cells cs' T' x'))(hT:T≠T'):g≠g':=fun e=>by
 subst e;rw[h]at h';injection h' with h1
 injection h1 with _ h2
 exact hT h2
theorem In.reg_noP {F:Fence}{n:Nat}{P:Program}{c:Code}{Q:Exit→Act→World→Prop}{a:Act}{w:World}(h:c.wpIn F n P (noP Q) a w):c.wpIn F n P Q a w:=wpIn_mono h fun e a w h=>by
 cases e<;>first|exact h|exact h.elim
theorem ldIn {w:World}{p:Addr}{x:Int}(hp:p.block<w.heap.size)(h:w.cell? p=some (.int .i64 x)):∀w',Below w.heap.size w w'→(Instr.loadAt 3 (.pointer (some p))).run Tryz.prog w'= .ok (.int .i64 x) w':=fun w' hb=>by
 have:=(hb.cell hp).trans h;simp[go_sem,a_1,this]
theorem k_d {Q:Exit→Act→World→Prop}{a:Act}{w:World}(h:Q .normal a w):noP Q .normal a w:=h
theorem u_t {a:Act}{w:World}{g n c:Nat}{A:Option Addr}{o:Oper}{x y:Operand}{u:Value}(ho:o.op= .store 22 x y)(hx:a.eval x= .pointer (some ⟨g,0,none⟩))(hy:a.eval y= .slice A n c)(b:Bx w g 22 [u]):(execOp a.eval o).run Tryz.prog w= .ok .skip (w.setCell ⟨g,0,none⟩ (.slice A n c)):=by
 have h0:=b.cell 0;have f0:=b.free 0;simp only[List.getElem?_cons_zero]at h0;unfold execOp;rw[ho];simp only[hx,hy];simp[go_sem,h0,f0,a_1]
section
variable {a:Act}{w:World}{o:Oper}
theorem m_o {T:TypeId}{x:Operand}{p v:Value}(ho:o.op= .load T x)(hx:a.eval x=p)(hr:(Instr.loadAt T p).run Tryz.prog w= .ok v w):(execOp a.eval o).run Tryz.prog w= .ok (.value v) w:=by
 unfold execOp;rw[ho];simp only[hx];simp[hr]
theorem r_j {x:Operand}{p:Addr}(ho:o.op= .nilCheck x)(hx:a.eval x= .pointer (some p)):(execOp a.eval o).run Tryz.prog w= .ok (.value (.pointer (some p))) w:=by
 unfold execOp;rw[ho];simp only[hx];simp[go_sem]
theorem m_p {T:TypeId}{x:Operand}{f:Nat}{p v:Value}(ho:o.op= .fieldAddr T x f)(hx:a.eval x=p)(hr:(Instr.fieldAt T p f).run Tryz.prog w= .ok v w):(execOp a.eval o).run Tryz.prog w= .ok (.value v) w:=by
 unfold execOp;rw[ho];simp only[hx];simp[hr]
theorem r_l {T E:TypeId}{x:Operand}{A:Option Addr}{n c:Nat}(ho:o.op= .call { callee:=.builtin .len,args:=#[x],argTypes:=#[T] })(hx:a.eval x= .slice A n c)(hu:Tryz.prog.underlying T=some (.slice E)):(execOp a.eval o).run Tryz.prog w= .ok (.value (.int .i64 (n:Int))) w:=by
 unfold execOp;rw[ho];simp only[resolve,List.map_toArray,List.map_cons,List.map_nil,hx];simp[go_sem,Builtin.len_,underlying,hu]
theorem r_k {T:TypeId}{x y:Operand}{u v r:Value}{w':World}(ho:o.op= .makeSlice T x y)(hx:a.eval x=u)(hy:a.eval y=v)(hr:(Instr.makeSlice T u v).run Tryz.prog w= .ok r w'):(execOp a.eval o).run Tryz.prog w= .ok (.value r) w':=by
 unfold execOp;rw[ho];simp only[hx,hy];simp[hr]
end
theorem w_t {A A1:Option Addr}{c K3 b g H R C E Ka Kb KF n1 c1 kk:Nat}{ys:List Rat}{F G M:Nat→Nat→Int}{ps:List Nat}{h:Int}{s sa:Bool}{vp:Value}{rows:List Value}{X:Nat→Nat→Int}{w:World}(hr:DT.Red R C E F s G ps M h)(hX:DT.Cols C G M ps h X)(r:RAt (qmX A c K3 ys) b w g H R C Ka (fun _=>Kb) M ps h s vp sa A1 n1 c1 rows)(hys:ys.length=C)(hk:kk<C)(hE:E≤C)(hKa:Ka≤Kb)(hR:R≤64)(hKF:(R+2)*(Kb+R)+K3+Ka+1≤KF)(hKF2:KF≤1073741824):Calls Tryz.prog 58 #[.pointer (some ⟨g,0,none⟩),.int .i64 (kk:Int)] w (RetK (kQw true w.heap.size ps.length KF (qrw ps.length fun i=>((X kk i:Int):Rat)*(h:Rat)⁻¹*rth ys kk)) w):=by
 obtain⟨Ap,cp,rfl⟩:=r.vpf;have hPR:=hr.nR;have HRD:=Lib.hid hr;have HXC:=Lib.hid hX;have HM:=Lib.hid r;have bx:=r.bx;obtain⟨n,hn⟩:∃n,ps.length=n:=⟨_,rfl⟩;rw[hn]at hPR bx;rw[hn];obtain⟨Tq,hTq⟩:∃Tq,qrw n (fun i=>((X kk i:Int):Rat)*(h:Rat)⁻¹*rth ys kk)=Tq:=⟨_,rfl⟩;rw[hTq];have HN:=Lib.hid hn;have HTQ:=Lib.hid hTq;have HYS:=Lib.hid hys;change Bx w g 84 [.slice (some ⟨H,0,none⟩) R R,.slice Ap n cp,.bool sa,.slice A1 n1 c1,.bool s,.slice A ys.length c]at bx;obtain⟨nys,hnys⟩:∃nys,ys.length=nys:=⟨_,rfl⟩;rw[hnys]at bx;have HBX:=Lib.hid bx;have HOI:=Lib.hid r.own.form;have HNY:=Lib.hid hnys;obtain⟨w1,hw1,b2,b3,z1,s1⟩:=boxes2 w 75 3 [.pointer (some ⟨g,0,none⟩)] [.int .i64 (kk:Int)];have HW:=Lib.hid hw1;have HZ:=Lib.hid z1;replace bx:=bx.below z1;have S1:=Lib.hid s1;clear hw1 z1 s1 r hn hTq hys hnys hr hX;refine(callsIn_wide (n:=5)).1 ?_;refine callsIn_of_wp_marks Tryz.func58 rfl trivial ?_ rfl;simp only[Tryz.ntmps58,List.size_toArray,List.length_cons,List.length_nil,Nat.reduceAdd,Nat.reduceSub,Array.replicate_succ,Array.replicate_zero,List.push_toArray,List.append_toArray,List.nil_append,List.cons_append];refine wpIn_wide.2 ?_;go_upto_region 1 with fail
 rw[HW.out];refine reg_noP ?_;refine Run.start 16 ?_;refine .ld .o (ldPtr b2 0) ?_;refine .nc (.i 0) ?_;refine .fa (.i 1) (fW0 0) ?_;refine .fa (.i 2) (fE1 1) ?_;refine .ld (.i 3) (ldIs bx 1) ?_;refine .len (.i 4) Tryz.underlying27 ?_;refine .mkQ (.i 5) (n:=n) (b0:=w1.heap.size) (by omega) (Nat.le_refl _) ?_;refine .ld .o (ldPtr b2 0) ?_;refine .nc (.i 7) ?_;refine .fa (.i 8) (fW0 0) ?_;refine .fa (.i 9) (fE1 1) ?_;refine .ld (.i 10) (ldIs bx 1) ?_;refine .len (.i 11) Tryz.underlying27 ?_;refine .mkZ (.i 12) (n:=n) (b0:=w1.heap.size) (by omega) (Nat.le_refl _) ?_;refine .al ?_;refine .al ?_;refine .donee [7,8,9,10,11,12,13] 14 6 5 19 22 [some 13,some 14,some 15,some 16,some 17,some 18,some 19,some 20,some 21,some 22,some 23,some 24,some 25,some 26,some 5,some 6] ?late ?st (fun⟨_,_,h⟩=>h) ?_;case late=>
  intro i hi;have hc:i=7∨i=8∨i=9∨i=10∨i=11∨i=12∨i=13:=by simpa using hi
  rcases hc with rfl|rfl|rfl|rfl|rfl|rfl|rfl
  ·exact⟨rfl,h_x rfl fun a w' hB ho hp=>m_o rfl (ho 2 (by kernel_rfl)) (ldPtr b2 0 rfl w' hB)⟩
  ·exact⟨rfl,h_x rfl fun a w' hB ho hp=>r_j rfl (hp 7 20 _ (by kernel_rfl) rfl)⟩
  ·exact⟨rfl,h_x rfl fun a w' hB ho hp=>m_p rfl (hp 8 21 _ (by kernel_rfl) rfl) (fW0 0 rfl w')⟩
  ·exact⟨rfl,h_x rfl fun a w' hB ho hp=>m_p rfl (hp 9 22 _ (by kernel_rfl) rfl) (fE1 1 rfl w')⟩
  ·exact⟨rfl,h_x rfl fun a w' hB ho hp=>m_o rfl (hp 10 23 _ (by kernel_rfl) rfl) (ldIs bx 1 rfl w' hB)⟩
  ·exact⟨rfl,h_x rfl fun a w' hB ho hp=>r_l rfl (hp 11 24 _ (by kernel_rfl) rfl) Tryz.underlying27⟩
  ·refine⟨rfl,fun a w' hB ho hp=>⟨.slice (some ⟨w'.heap.size,0,none⟩) n n,_,⟨w'.heap.size,rfl,ZB.made w' n,hB.size⟩,zba w' _,fun g v h1 h2=>?_⟩⟩;have e:a.eval (.tmp 25)= .int .i64 (n:Int):=hp 12 25 (by kernel_rfl);have h3:=o_5 (w'.setCell ⟨g,0,none⟩ v) n (by omega);rw[←World.setCell_alloc_past _ _ _ _ h2,World.size_setCell]at h3;exact r_k rfl e e h3
 case st=>
  intro a w' g hd hz he;obtain⟨gO,e,-⟩:=he;rw[e];exact u_t rfl hd e (u:=.slice none 0 0) (hz.trans (congrArg some (by kernel_rfl)))
 intro w2 B2;rintro v ⟨gO,rfl,hO,hgO⟩;rintro v ⟨gK,rfl,hK,hgK⟩;rintro g5 hg5 hl5 hc5 -;rintro g6 hg6 hl6 hc6 -;change Shut (wpList _ _ _ [_,_] _ _);refine⟨?_⟩;simp only[Act.put,lS,lZ,lC];have b5:Bx w2 g5 22 [.slice none 0 0]:=hc5.trans (congrArg some (by kernel_rfl));have b6:Bx w2 g6 51 [.slice none 0 0]:=hc6.trans (congrArg some (by kernel_rfl));have n56:g5≠g6:=h_v b5 b6 (by decide);have nO5:gO≠g5:=by obtain⟨cs,h,-⟩:=hO;exact h_v h b5 (by decide)
 have nO6:gO≠g6:=by obtain⟨cs,h,-⟩:=hO;exact h_v h b6 (by decide)
 have nK5:gK≠g5:=by obtain⟨cs,h,-⟩:=hK;exact h_v h b5 (by decide)
 have nK6:gK≠g6:=by obtain⟨cs,h,-⟩:=hK;exact h_v h b6 (by decide)
 have nOK:gO≠gK:=by obtain⟨cs,h,-⟩:=hO;obtain⟨cs',h',-⟩:=hK;exact h_v h h' (by decide)
 have i5:=b5.cell 0;have i5':=b5.free 0;have i6:=b6.cell 0;have i6':=b6.free 0;simp only[List.getElem?_cons_zero]at i5 i6;have gr5:w2.grownBy (w2.setCell ⟨g5,0,none⟩ (.slice (some ⟨gO,0,none⟩) n n)) (some g5):=a_n (q:=⟨g5,0,none⟩) (a_u w2 (some g5)) rfl _;have no5:Wless w2 g5:=b5.now (by simp);replace hO:=hO.gro nO5 no5 gr5;replace hK:=hK.gro nK5 no5 gr5;replace B2:=a_c B2 gr5 hg5;replace b6:=a_a b6 gr5 (Ne.symm n56);replace b5:=b5.set 0 (.slice (some ⟨gO,0,none⟩) n n);obtain⟨w3,hw3⟩:∃x,w2.setCell ⟨g5,0,none⟩ (.slice (some ⟨gO,0,none⟩) n n)=x:=⟨_,rfl⟩;rw[hw3]at hO hK B2 b6 b5;have gr6:w3.grownBy (w3.setCell ⟨g6,0,none⟩ (.slice (some ⟨gK,0,none⟩) n n)) (some g6):=a_n (q:=⟨g6,0,none⟩) (a_u w3 (some g6)) rfl _;have no6:Wless w3 g6:=b6.now (by simp);replace hO:=hO.gro nO6 no6 gr6;replace hK:=hK.gro nK6 no6 gr6;replace B2:=a_c B2 gr6 hg6;replace b5:=a_a b5 gr6 n56;replace b6:=b6.set 0 (.slice (some ⟨gK,0,none⟩) n n);obtain⟨w4,hw4⟩:∃x,w3.setCell ⟨g6,0,none⟩ (.slice (some ⟨gK,0,none⟩) n n)=x:=⟨_,rfl⟩;rw[hw4]at hO hK B2 b6 b5;have hw34:(w2.setCell ⟨g5,0,none⟩ (.slice (some ⟨gO,0,none⟩) n n)).setCell ⟨g6,0,none⟩ (.slice (some ⟨gK,0,none⟩) n n)=w4:=by rw[hw3];exact hw4
 have HW4:=Lib.hid hw34;have n65:¬g6=g5:=Ne.symm n56;clear gr5 gr6 no5 no6 hw3 hw4 hw34 hc5 hc6
 go_wp2_with fail
 refine k_d ?_;go_upto_region 2 with fail
 rw[HW4.out];clear i5 i5' i6 i6' HW4;have hzA:Zc w sa A1 n1 c1 h:=HM.out.az;have han:n1≤Ka:=HM.out.an;have hct:QL false w A ys.length c K3 ys:=HM.out.ct.1;rw[HNY.out]at hct;have hkn:kk<nys:=by rw[←HNY.out,HYS.out];exact hk
 have BW:=zup HZ.out B2;replace b2:=b2.below B2;replace b3:=b3.below B2;replace bx:=bx.below B2;replace hzA:=hzA.below BW;replace hct:=hct.below BW;obtain⟨ad,rfl,hab,hA⟩:=hct.at hkn;obtain⟨s_,A_,n_,c_,t_,B_,m_,d_,e0,e1,e2,e3,ze,hk1,hk2⟩:=hA;obtain⟨N,D,hzn,hzd,hqd⟩:=ze.1;clear ze hct B2;refine reg_noP ?_;refine Run.start 8 ?_;refine .ld .o (ldPtr b2 0) ?_;refine .nc (.i 0) ?_;refine .fa (.i 1) (fW1 5) ?_;refine .ld (.i 2) (ldQl bx 5) ?_;refine .ld .o (ldInt b3 0) ?_;refine .two (.i 3) (.i 4) (opIxQ hkn) ?_;refine .ld (.i 5) (ldQ (by rw[a_b];exact hab) e0 e1 e2 e3) ?_;refine .al ?_;refine .done [some 27,some 28,some 29,some 30,some 31,some 32,some 33,some 7] ?_;intro w5 B5;rintro g7 hg7 hl7 hc7 -;change Shut (wpList _ _ _ [_] _ _);refine⟨?_⟩;simp only[Act.put,lS,lZ,lC];have b7:=zeroQ hc7;have hs4:=BW.size;have lO:=hO.lt;have lK:=hK.lt;have l5:=b5.lt;have l6:=b6.lt;have lg:=bx.lt;have hS1:=S1.out;replace BW:=zup BW B5;clear e0 e1 e2 e3 hab hc7;have l2:=b2.lt;have l3:=b3.lt;replace b2:=b2.below B5;replace b3:=b3.below B5;replace bx:=bx.below B5;replace b5:=b5.below B5;replace b6:=b6.below B5;replace hO:=hO.below B5;replace hK:=hK.below B5;replace hzA:=hzA.below B5;replace hzn:=hzn.below B5;replace hzd:=hzd.below B5;clear B5;obtain⟨w6,hw6⟩:∃x,rput w5 g7 s_ A_ n_ c_ t_ B_ m_ d_=x:=⟨_,rfl⟩;obtain⟨f1_,f2_,f3_,f4_,f5_,f6_,f7_,f8_,f9_⟩:=b7.rb;have hgr_:=b_p w5 g7 s_ A_ n_ c_ t_ B_ m_ d_;have hno_:Wless w5 g7:=b7.now (by simp);rw[hw6]at hgr_;replace b2:=a_a b2 hgr_ (by omega);replace b3:=a_a b3 hgr_ (by omega);replace bx:=a_a bx hgr_ (by omega);replace b5:=a_a b5 hgr_ (by omega);replace b6:=a_a b6 hgr_ (by omega);replace hzA:=hzA.gro hno_ hgr_;replace hzn:=hzn.gro hno_ hgr_;replace hzd:=hzd.gro hno_ hgr_;replace hO:=hO.gro (by omega) hno_ hgr_;replace hK:=hK.gro (by omega) hno_ hgr_;replace BW:=a_c BW hgr_ (by omega);replace b7:=b7.rp (s':=s_) (A':=A_) (n':=n_) (c':=c_) (t':=t_) (B':=B_) (m':=m_) (d':=d_);rw[hw6]at b7;have Hw6:=Lib.hid hw6;unfold rput at Hw6;clear hw6 hgr_ hno_
 go_wp2_with fail
 refine k_d ?_;go_upto_region 3 with fail
 rw[Hw6.out];clear f1_ f2_ f3_ f4_ f5_ f6_ f7_ f8_ f9_ Hw6;refine reg_noP ?_;refine Run.start 9 ?_;refine .ld .o (ldPtr b2 0) ?_;refine .nc (.i 0) ?_;refine .fa (.i 1) (fW0 0) ?_;refine .fa (.i 2) (fE2 2) ?_;refine .ld (.i 3) (ldZ bx 2) ?_;refine .fa .o (fR1 2) ?_;refine .ld (.i 5) (ldZ b7 2) ?_;refine .c2 (.i 4) (.i 6) (x:=kC (h*D) (Ka+K3)) (by rintro u v w7 hB rfl rfl;exact c_h ⟨_,_,_,_,rfl,(hzA.below hB).zv,han⟩ ⟨_,_,_,_,rfl,hzd.below hB,hk2⟩ (by omega) (by omega) (Nat.le_refl _)) ?_;refine .al ?_;refine .done [some 34,some 35,some 36,some 37,some 38,some 39,some 40,some 41,some 8] ?_;intro w7 B7;rintro v ⟨s8,A8,n8,e8,rfl,hz8,hk8⟩;rintro g8 hg8 hl8 hc8 -;change Shut (wpList _ _ _ [_] _ _);refine⟨?_⟩;simp only[Act.put,lS,lZ,lC];have b8:=zeroZ (T:=0) hc8;have l7:=b7.lt;have hs6:=BW.size;have lO:=hO.lt;have lK:=hK.lt;have l5:=b5.lt;have l6:=b6.lt;have lg:=bx.lt;have l2:=b2.lt;have l3:=b3.lt;replace BW:=zup BW B7;clear hc8;replace b2:=b2.below B7;replace b3:=b3.below B7;replace bx:=bx.below B7;replace b5:=b5.below B7;replace b6:=b6.below B7;replace b7:=b7.below B7;replace hO:=hO.below B7;replace hK:=hK.below B7;replace hzA:=hzA.below B7;replace hzn:=hzn.below B7;replace hzd:=hzd.below B7;clear B7;obtain⟨w8,hw8⟩:∃x,zput w7 g8 s8 A8 n8 e8=x:=⟨_,rfl⟩;obtain⟨f1_,f2_,f3_,f4_,f5_⟩:=Ib.entry b8;have hgr_:=c_q w7 g8 s8 A8 n8 e8;have hno_:Wless w7 g8:=b8.now (by simp);rw[hw8]at hgr_;replace b2:=a_a b2 hgr_ (by omega);replace b3:=a_a b3 hgr_ (by omega);replace bx:=a_a bx hgr_ (by omega);replace b5:=a_a b5 hgr_ (by omega);replace b6:=a_a b6 hgr_ (by omega);replace b7:=a_a b7 hgr_ (by omega);replace hzA:=hzA.gro hno_ hgr_;replace hzn:=hzn.gro hno_ hgr_;replace hzd:=hzd.gro hno_ hgr_;replace hz8:=hz8.gro hno_ hgr_;replace hO:=hO.gro (by omega) hno_ hgr_;replace hK:=hK.gro (by omega) hno_ hgr_;replace BW:=a_c BW hgr_ (by omega);replace b8:=b8.zp (s:=s8) (A:=A8) (n:=n8) (c:=e8);rw[hw8]at b8;have Hw8:=Lib.hid hw8;unfold zput at Hw8;clear hw8 hgr_ hno_
 go_wp2_with fail
 refine k_d ?_;go_upto_region 4 with fail
 rw[Hw8.out];clear f1_ f2_ f3_ f4_ f5_ Hw8;refine reg_noP ?_;refine Run.start 12 ?_;refine .ld .o (ldPtr b2 0) ?_;refine .nc (.i 0) ?_;refine .fa (.i 1) (fW0 0) ?_;refine .fa (.i 2) (fE0 0) ?_;refine .ld (.i 3) (ldSS bx 0) ?_;refine .ld .o (ldPtr b2 0) ?_;refine .nc (.i 5) ?_;refine .fa (.i 6) (fW0 0) ?_;refine .fa (.i 7) (fE1 1) ?_;refine .ld (.i 8) (ldIs bx 1) ?_;refine .len (.i 9) Tryz.underlying27 ?_;refine .slHS (.i 4) (.i 10) (G:=H) (n:=R) (cap:=R) (x:=n) hPR ?_;refine .done [some 42,some 43,some 44,some 45,some 46,some 47,some 48,some 49,some 50,some 51,some 52,some 53] ?_;intro w9 B9;change Shut (wpList _ _ _ [_] _ _);refine⟨?_⟩;simp only[Act.put,lS,lZ,lC];have l8:=b8.lt;have lO:=hO.lt;have lK:=hK.lt;have l5:=b5.lt;have l6:=b6.lt;have lg:=bx.lt;have l7:=b7.lt;replace BW:=zup BW B9;replace b2:=b2.below B9;replace b3:=b3.below B9;replace bx:=bx.below B9;replace b5:=b5.below B9;replace b6:=b6.below B9;replace b7:=b7.below B9;replace b8:=b8.below B9;replace hO:=hO.below B9;replace hK:=hK.below B9;replace hzA:=hzA.below B9;replace hzn:=hzn.below B9;replace hzd:=hzd.below B9;replace hz8:=hz8.below B9;have hs9:=B9.size;clear B9
 go_wp2_with fail
 refine(t_j _ _ _ _).mono ?_;rintro e w10 ⟨rfl,rfl⟩
 go_wp2_with fail
 refine k_d ?_;obtain⟨W2,hW2⟩:∃W2,w9.alloc (.cells #[.slice (some ⟨H,0,none⟩) n R] 80)=W2:=⟨_,rfl⟩;have hN2:W2.cell? ⟨w9.heap.size,0,none⟩=some (.slice (some ⟨H,0,none⟩) n R):=by rw[←hW2];exact cell_one_new' w9 _ _
 have BA:Below w9.heap.size w9 W2:=by rw[←hW2];exact zba w9 _
 have sW2:W2.heap.size=w9.heap.size+1:=by rw[←hW2];simp
 obtain⟨Bs,hBs⟩:∃Bs,w9.heap.size=Bs:=⟨_,rfl⟩;rw[hW2,hBs];have lO:=hO.lt;have lK:=hK.lt;have l5:=b5.lt;have l6:=b6.lt;have l7:=b7.lt;have l8:=b8.lt;have l2:=b2.lt;have l3:=b3.lt;rw[hBs]at hN2 sW2 lO lK l5 l6 l7 l8 l2 l3;have hS1:=S1.out;have hHw:=HM.out.hd.lt;have hRl:n≤rows.length:=by rw[HM.out.len];exact hPR
 have BWW:=zup BW BA;have HRW:=HM.out.hd.below BWW;have hK0:ZB W2 gK ((([]:List Nat).length+1)*(Kb+R)) (rw' n (kn h M ps kk [])):=by
  have e:rw' n (kn h M ps kk [])=List.replicate n 0:=by simp[rw',kn,List.map_const']
  rw[e];exact(hK.below BA).mono (Nat.zero_le _)
 have hO0:QB W2 gO KF (cm n []) (qrw n (ot h M ps kk N D [])):=by
  have e0:ot h M ps kk N D []=fun _=>0:=by funext j;simp[ot,cm]
  have e:qrw n (ot h M ps kk N D [])=List.replicate n 0:=by rw[e0];simp[qrw,List.map_const']
  rw[e];exact((hO.below BA).mono (Nat.zero_le _)).cf fun j _=>rfl
 have H0:Hid ((Bx W2 w.heap.size 75 [.pointer (some ⟨g,0,none⟩)]∧Bx W2 (w.heap.size+1) 3 [.int .i64 (kk:Int)]∧Bx W2 g5 22 [.slice (some ⟨gO,0,none⟩) n n]∧Bx W2 g6 51 [.slice (some ⟨gK,0,none⟩) n n]∧Bx W2 g7 46 [.bool s_,.slice A_ n_ c_,.bool t_,.slice B_ m_ d_]∧Bx W2 g8 44 [.bool s8,.slice A8 n8 e8]∧Zv W2 s_ A_ n_ c_ N∧Zc W2 s8 A8 n8 e8 (h*D)∧ZB W2 gK ((([]:List Nat).length+1)*(Kb+R)) (rw' n (kn h M ps kk ([]:List Nat)))∧QB W2 gO KF (cm n ([]:List Nat)) (qrw n (ot h M ps kk N D ([]:List Nat))))):=Lib.hid ⟨b2.below BA,b3.below BA,b5.below BA,b6.below BA,b7.below BA,b8.below BA,hzn.below BA,hz8.below BA,hK0,hO0⟩;have hsz9:=BW.size;have HBW:=Lib.hid BWW;have hHW:=Lib.hid HRW;clear hK0 hO0 b2 b3 b5 b6 b7 b8 hzn hzd hz8 hO hK bx hzA BW BA BWW HRW hW2 hBs
 go_wp2_with fail
 refine(wpIn_wide (n:=5)).1 ?_;refine wpIn_rangeFunc_ownH rfl (by omega) (gf:=150) (lb:=#[.pointer (some ⟨Bs,0,none⟩)]) rfl trivial (enters_of Tryz.func150 (by kernel_rfl) rfl)
  (l_8 Fence.wide _ trivial rfl (by omega) Bs w.heap.size H n R rows (by omega) hHw W2 (by omega) (by omega) hN2 hHW.out hRl) l_t (w_e (by omega) (by omega)) (Below.refl _ _) (fun _=>rfl)
  (fun pre W=>(Below w.heap.size w W∧W2.heap.size≤W.heap.size)∧(Bx W w.heap.size 75 [.pointer (some ⟨g,0,none⟩)]∧Bx W (w.heap.size+1) 3 [.int .i64 (kk:Int)]∧Bx W g5 22 [.slice (some ⟨gO,0,none⟩) n n]∧Bx W g6 51 [.slice (some ⟨gK,0,none⟩) n n]∧Bx W g7 46 [.bool s_,.slice A_ n_ c_,.bool t_,.slice B_ m_ d_]∧Bx W g8 44 [.bool s8,.slice A8 n8 e8]∧Zv W s_ A_ n_ c_ N∧Zc W s8 A8 n8 e8 (h*D)∧ZB W gK ((pre.length+1)*(Kb+R)) (rw' n (kn h M ps kk pre))∧QB W gO KF (cm n pre) (qrw n (ot h M ps kk N D pre))))
  (fun _ _ _=>False)
  (fun pre W W' row hs hg hr=>by
   obtain⟨⟨h1,h2⟩,c1,c2,c3,c4,c5,c6,c7,c8,c9,c10⟩:=hs;have hnc:NoCells W row:=fun r e=>(hr r e).2;exact⟨⟨ownFrom_below (w₀:=w) (Nat.le_refl _) (by omega) pre W W' row h1 hg hr,Nat.le_trans h2 hg.size⟩,c1.kp hg hnc,c2.kp hg hnc,c3.kp hg hnc,c4.kp hg hnc,c5.kp hg hnc,c6.kp hg hnc,c7.kp hg hnc,c8.kp hg hnc,c9.kp hg hnc,c10.kp hg hnc⟩)
  (fun _ _ _ _ _ hs _ _=>hs)
  ⟨⟨HBW.out,Nat.le_refl _⟩,H0.out⟩
  (fun i a' _=>a'= { tmps:=#[.pointer (some ⟨g,0,none⟩),.int .i64 (kk:Int),.pointer (some ⟨w.heap.size,0,none⟩),.pointer (some ⟨w.heap.size+1,0,none⟩),.slice none 0 0,.pointer (some ⟨g5,0,none⟩),.pointer (some ⟨g6,0,none⟩),.pointer (some ⟨g7,0,none⟩),.pointer (some ⟨g8,0,none⟩),.int .i64 ((i%n:Nat):Int),rows.getD (i%n) undef,undef,undef,.pointer (some ⟨g,0,none⟩),.pointer (some ⟨g,0,none⟩),.pointer (some ⟨g,0,none⟩),.pointer (some ⟨g,1,none⟩),.slice Ap n cp,.int .i64 (n:Int),.slice (some ⟨gO,0,none⟩) n n,.pointer (some ⟨g,0,none⟩),.pointer (some ⟨g,0,none⟩),.pointer (some ⟨g,0,none⟩),.pointer (some ⟨g,1,none⟩),.slice Ap n cp,.int .i64 (n:Int),.slice (some ⟨gK,0,none⟩) n n,.pointer (some ⟨g,0,none⟩),.pointer (some ⟨g,0,none⟩),.pointer (some ⟨g,5,none⟩),.slice (some ad) nys c,.int .i64 (kk:Int),.pointer (some (ad.add (kk*4))),.agg #[.bool s_,.slice A_ n_ c_,.bool t_,.slice B_ m_ d_],.pointer (some ⟨g,0,none⟩),.pointer (some ⟨g,0,none⟩),.pointer (some ⟨g,0,none⟩),.pointer (some ⟨g,2,none⟩),.agg #[.bool sa,.slice A1 n1 c1],.pointer (some ⟨g7,2,none⟩),.agg #[.bool t_,.slice B_ m_ d_],.agg #[.bool s8,.slice A8 n8 e8],.pointer (some ⟨g,0,none⟩),.pointer (some ⟨g,0,none⟩),.pointer (some ⟨g,0,none⟩),.pointer (some ⟨g,0,none⟩),.slice (some ⟨H,0,none⟩) R R,.pointer (some ⟨g,0,none⟩),.pointer (some ⟨g,0,none⟩),.pointer (some ⟨g,0,none⟩),.pointer (some ⟨g,1,none⟩),.slice Ap n cp,.int .i64 (n:Int),.slice (some ⟨H,0,none⟩) n R,.func (.func 150) #[] #[.pointer (some ⟨Bs,0,none⟩)],.int .i64 ((i%n:Nat):Int),rows.getD (i%n) undef,undef,undef,undef,undef,undef,undef,undef,undef,undef,undef,undef,undef,undef,undef,undef,undef,undef,undef,undef,undef,undef,undef,undef,undef,undef,undef,undef,undef,undef,undef,undef,undef,undef,undef,undef,undef,undef,undef,undef,undef,undef,undef,undef,undef,undef,undef,undef,undef,undef,undef,undef,undef,undef,undef,undef,undef,undef,undef,undef,undef,undef,undef,undef,undef,undef,undef,undef,undef],defers:=[] })
  (fun i a' _ W W' row hs _ _=>hs) ?assign ?body ?done ?stop
 case assign=>
  rintro l pre i W K hI hK;unfold rargs;obtain⟨ii,hii⟩:∃ii,i%n=ii:=⟨_,rfl⟩;rw[hii];obtain⟨rv,hrv⟩:∃rv,rows.getD ii undef=rv:=⟨_,rfl⟩;rw[hrv];have HII:=Lib.hid hii;have HRV:=Lib.hid hrv;clear hii hrv
  gi_wp2_with fail
  have e1:=HII.out;have e2:=HRV.out;subst e1 e2;exact hK _ _ ((KeepsOthers.refl _).from _) ⟨Below.refl _ _,rfl⟩ hI rfl
 case body=>
  rintro l pre i a' W hlW hlp ⟨⟨hB,hsz⟩,c1,c2,c3,c4,c5,c6,c7,c8,c9,c10⟩ rfl hlen;obtain⟨ii,hii⟩:∃ii,i%n=ii:=⟨_,rfl⟩;have hin:ii<n:=by rw[←hii];exact Nat.mod_lt _ (by omega)
  rw[hii];have HII:=Lib.hid hii;obtain⟨adr,cr,sr,Ar,nr,cr2,erow,habr,er1,er2,hzr,hkr⟩:=HM.out.numb (i:=ii) (k:=kk) (by omega) hk;have erv:rows.getD ii undef= .slice (some adr) C cr:=by simp[List.getD,erow]
  rw[erv];have HER:=Lib.hid erow;obtain⟨Ao,co,eo,-,-,hof⟩:=HOI.out;injection eo with eo1 eo2 eo3
  subst eo1 eo3;obtain⟨gp,rfl,hgp,hcp⟩:=hof (by rw[HN.out];omega);have HCP:=Lib.hid hcp;obtain⟨d,hd⟩:∃d,pre.length=d:=⟨_,rfl⟩;rw[hd]at c9 hlen;obtain⟨ZD,hZD⟩:∃ZD,(d+1)*(Kb+R)=ZD:=⟨_,rfl⟩;rw[hZD]at c9;have z1:Kb+R≤ZD:=by rw[←hZD,Nat.succ_mul];omega
  have z2:ZD+(Kb+R)=(d+1+1)*(Kb+R):=by rw[Nat.succ_mul (d+1),hZD]
  have z3:(d+1+1)*(Kb+R)≤(R+2)*(Kb+R):=Nat.mul_le_mul_right _ (by omega);have z4:ZD+(Kb+R)+K3+Ka+1≤KF:=by omega
  have Z2:=Lib.hid z2;have HD:=Lib.hid hd;obtain⟨z,hz⟩:∃z,kn h M ps kk pre=z:=⟨_,rfl⟩;rw[hz]at c9;have HZZ:=Lib.hid hz;have HB:=Lib.hid hB;have bx:=HBX.out.below hB;have hzA:=HM.out.az.below hB;have habW:adr.block<W.heap.size:=Nat.lt_of_lt_of_le habr hB.size;replace er1:=(hB.cell (p:=adr.add (kk*2)) (by rw[a_b];exact habr)).trans er1;replace er2:=(hB.cell (p:=⟨(adr.add (kk*2)).block,(adr.add (kk*2)).off+1,none⟩) (by show(adr.add (kk*2)).block<_;rw[a_b];exact habr)).trans er2;replace hzr:=hzr.below hB;clear hii erow erv eo2 hof hcp hd hZD z2 z3 hz
  gi_wp2_with fail
  refine In.reg_noP ?_;refine In.Run.start 11 ?_;refine .ld .o (ldPtr c1 0) ?_;refine .nc (.i 0) ?_;refine .fa (.i 1) (fW0 0) ?_;refine .fa (.i 2) (fE2 2) ?_;refine .ld (.i 3) (ldZ bx 2) ?_;refine .mv .o ?_;refine .ld .o (ldInt c2 0) ?_;refine .two (.i 5) (.i 6) (opIx hk) ?_;refine .ld (.i 7) (ldE (by rw[a_b];exact habW) er1 er2) ?_;refine .c2 (.i 4) (.i 8) (x:=kC (h*M ii kk) (Ka+Kb)) (by rintro u v w4 hB4 rfl rfl;exact c_h ⟨_,_,_,_,rfl,(hzA.below hB4).zv,han⟩ ⟨_,_,_,_,rfl,(hzr.below hB4).zv,hkr⟩ (by omega) (by omega) (Nat.le_refl _)) ?_;refine .al ?_;refine .done [some 57,some 58,some 59,some 60,some 61,some 62,some 63,some 64,some 65,some 66,some 11] ?_;intro w12 B12;rintro v ⟨s9,A9,n9,c9',rfl,hz9,hk9⟩;rintro g11 hg11 hl11 hc11 -;change Shut (wpList _ _ _ [_] _ _);refine⟨?_⟩;simp only[Act.put,lS,lZ,lC];have b11:=zeroZ (T:=0) hc11;obtain⟨w13,hw13⟩:∃x,zput w12 g11 s9 A9 n9 c9'=x:=⟨_,rfl⟩;obtain⟨f1_,f2_,f3_,f4_,f5_⟩:=Ib.entry b11;have hgr_:=c_q w12 g11 s9 A9 n9 c9';have hno_:Wless w12 g11:=b11.now (by simp);rw[hw13]at hgr_;replace hz9:=hz9.gro hno_ hgr_;replace B12:=a_c B12 hgr_ hg11;replace b11:=b11.zp (s:=s9) (A:=A9) (n:=n9) (c:=c9');rw[hw13]at b11;have Hw13:=Lib.hid hw13;unfold zput at Hw13;have HL0:Hid (∃sR AR nR cR,Below W.heap.size W w13∧Bx w13 g11 44 [.bool sR,.slice AR nR cR]∧Zc w13 sR AR nR cR (rsn h M ps kk z ii (ii+1 - (ii+1)))∧nR≤Kb+ZD+(ii+1 - (ii+1))):=Lib.hid ⟨s9,A9,n9,c9',B12,b11,by rw[Nat.sub_self];simpa [rsn,DT.sumN] using hz9,by omega⟩;clear hw13 hgr_ hno_ hc11 b11 B12 hz9 bx hzA er1 er2 hzr hl11
  go_wp2_with fail
  refine k_d ?_;try rw[Hw13.out]
  clear f1_ f2_ f3_ f4_ f5_
  gi_wp2_with fail
  try rw[Hw13.out]
  clear Hw13;gi_loopw [12] (fun s12 wr=>∃p:Nat,s12= .int .i64 (p:Int)∧ii<p∧p≤n∧Hid (∃sR AR nR cR,Below W.heap.size W wr∧Bx wr g11 44 [.bool sR,.slice AR nR cR]∧Zc wr sR AR nR cR (rsn h M ps kk z ii (p - (ii+1)))∧nR≤Kb+ZD+(p - (ii+1)))) (fun s12 _=>n - (intOf s12).toNat)
  case atStart=>exact⟨ii+1,by go_num,by omega,by omega,HL0⟩
  case round=>
   clear HL0;obtain⟨p,rfl,hip,hpn,HLP⟩:=hrel;obtain⟨sR,AR,nR,cR,BX,b11,hzR,hkR⟩:=HLP.out;clear HLP;have i6:=(c4.below BX).cell 0;simp only[List.getElem?_cons_zero]at i6;by_cases hlt:p<n
   ·have u3:(p:Int)<(n:Int):=by omega
    have hpl:p<ps.length:=by rw[HN.out];exact hlt
    obtain⟨pp,hpp⟩:∃pp,ps.getD p 0=pp:=⟨_,rfl⟩;have hppC:pp<C:=by
     have h1:pp∈ps:=by rw[←hpp];simp[List.getD,hpl]
     exact Nat.lt_of_lt_of_le (HRD.out.lt pp h1) hE
    have cpp:wr.cell? ⟨gp,p,none⟩=some (.int .i64 (pp:Int)):=(BX.cell (p:=⟨gp,p,none⟩) (Nat.lt_of_lt_of_le hgp HB.out.size)).trans ((HB.out.cell (p:=⟨gp,p,none⟩) hgp).trans (HCP.out p _ (by rw[←hpp];simp[ints,List.getD,hpl])));obtain⟨ad3,c3',s3,A3,n3,c3'',erow3,-,f1,f2,hz3,hk3⟩:=HM.out.numb (i:=ii) (k:=pp) (by omega) hppC;rw[HER.out]at erow3;obtain⟨rfl,rfl⟩:adr=ad3∧cr=c3':=by simpa using erow3
    have BWr:=zup HB.out BX;replace f1:=(BWr.cell (p:=adr.add (pp*2)) (by rw[a_b];exact habr)).trans f1;replace f2:=(BWr.cell (p:=⟨(adr.add (pp*2)).block,(adr.add (pp*2)).off+1,none⟩) (by show(adr.add (pp*2)).block<_;rw[a_b];exact habr)).trans f2;replace hz3:=hz3.below BWr;have habR:adr.block<wr.heap.size:=Nat.lt_of_lt_of_le habr BWr.size;have hgpR:gp<wr.heap.size:=Nat.lt_of_lt_of_le hgp BWr.size;have c9b:=c9.below BX;have hgK:=c9b.lt;obtain⟨s4,A4,n4,c4',k1,k2,hz4,hk4⟩:=c9b.cells (j:=p) (by rw[b_k];exact hlt);rw[e_w hlt]at hz4;have c1b:=c1.below BX;have c4b:=c4.below BX;have bx:=HBX.out.below BWr;have HPP:=Lib.hid hpp;clear erow3 c9b hpp hpl
    gi_wp2_with fail
    refine In.reg_noP ?_;refine In.Run.start 18 ?_;refine .ld .o (ldZ b11 0) ?_;refine .mv .o ?_;refine .ld .o (ldPtr c1b 0) ?_;refine .nc (.i 2) ?_;refine .fa (.i 3) (fW0 0) ?_;refine .fa (.i 4) (fE1 1) ?_;refine .ld (.i 5) (ldIs bx 1) ?_;refine .mv .o ?_;refine .two (.i 6) (.i 7) (opIxI hlt) ?_;refine .ld (.i 8) (ldIn (p:=⟨gp,p,none⟩) hgpR cpp) ?_;refine .two (.i 1) (.i 9) (opIx hppC) ?_;refine .ld (.i 10) (ldE (by rw[a_b];exact habR) f1 f2) ?_;refine .ld .o (ldSl c4b 0) ?_;refine .mv .o ?_;refine .two (.i 12) (.i 13) (opIxB hlt) ?_;refine .ld (.i 14) (ldE (p:=⟨gK,p*2,none⟩) hgK k1 k2) ?_;refine .c2 (.i 11) (.i 15) (x:=kC (M ii pp*z p) (Kb+ZD)) (by rintro u v w4 hB4 rfl rfl;exact c_h ⟨_,_,_,_,rfl,(hz3.below hB4).zv,hk3⟩ ⟨_,_,_,_,rfl,(hz4.below hB4).zv,hk4⟩ (by omega) (by omega) (Nat.le_refl _)) ?_;refine .c2 (.i 0) (.i 16) (x:=kC (rsn h M ps kk z ii (p - (ii+1)) - M ii pp*z p) (Kb+ZD+(p - (ii+1))+1)) (by rintro u v w4 hB4 rfl ⟨s',A',n',c',rfl,hz',hk'⟩;exact t_m ⟨_,_,_,_,rfl,(hzR.below hB4).zv,hkR⟩ ⟨_,_,_,_,rfl,hz'.zv,hk'⟩ (by omega) (by omega) (by omega)) ?_;refine .done [some 75,some 76,some 77,some 78,some 79,some 80,some 81,some 82,some 83,some 84,some 85,some 86,some 87,some 88,some 89,some 90,some 91,some 92] ?_;intro w12 B12;rintro v91 -;rintro v ⟨s9,A9,n9,c9',rfl,hz9,hk9⟩;change Shut (wpList _ _ _ [_] _ _);refine⟨?_⟩;simp only[Act.put,lS,lZ,lC];have er:rsn h M ps kk z ii (p - (ii+1)) - M ii pp*z p=rsn h M ps kk z ii (p+1 - (ii+1)):=by
     rw[show p+1 - (ii+1)=(p - (ii+1))+1 by omega,r_s,show ii+1+(p - (ii+1))=p by omega,HPP.out]
    rw[er]at hz9;have hl11:=b11.lt;replace b11:=b11.below B12;have g11b:W.heap.size≤g11:=hg11;obtain⟨w13,hw13⟩:∃x,zput w12 g11 s9 A9 n9 c9'=x:=⟨_,rfl⟩;obtain⟨f1_,f2_,f3_,f4_,f5_⟩:=Ib.entry b11;have hgr_:=c_q w12 g11 s9 A9 n9 c9';have hno_:Wless w12 g11:=b11.now (by simp);rw[hw13]at hgr_;replace hz9:=hz9.gro hno_ hgr_;have BX2:=a_c (zup BX B12) hgr_ hg11;replace b11:=b11.zp (s:=s9) (A:=A9) (n:=n9) (c:=c9');rw[hw13]at b11;have Hw13:=Lib.hid hw13;unfold zput at Hw13;have HN9:Hid (∃sR AR nR cR,Below W.heap.size W w13∧Bx w13 g11 44 [.bool sR,.slice AR nR cR]∧Zc w13 sR AR nR cR (rsn h M ps kk z ii (p+1 - (ii+1)))∧nR≤Kb+ZD+(p+1 - (ii+1))):=Lib.hid ⟨s9,A9,n9,c9',BX2,b11,hz9,by omega⟩;clear hw13 hgr_ hno_ b11 B12 hz9 bx f1 f2 k1 k2 cpp i6 hz3 hz4 hzR c1b c4b BX BX2 BWr er
    go_wp2_with fail
    refine k_d ?_;try rw[Hw13.out]
    clear f1_ f2_ f3_ f4_ f5_
    gi_wp2_with fail
    try rw[Hw13.out]
    clear Hw13;go_roundw
    case rel=>exact⟨p+1,by go_num,by omega,by omega,HN9⟩
    case measure=>first|(simp[intOf];done)|(simp[intOf];omega)
   ·obtain rfl:n=p:=by omega
    have u3:¬(n:Int)<(n:Int):=by omega
    have hpl:ii<ps.length:=by rw[HN.out];exact hin
    obtain⟨pp,hpp⟩:∃pp,ps.getD ii 0=pp:=⟨_,rfl⟩;have hppC:pp<C:=by
     have h1:pp∈ps:=by rw[←hpp];simp[List.getD,hpl]
     exact Nat.lt_of_lt_of_le (HRD.out.lt pp h1) hE
    have hpz:M ii pp≠0:=by rw[←hpp];exact HRD.out.pz ii hpl
    have cpp:wr.cell? ⟨gp,ii,none⟩=some (.int .i64 (pp:Int)):=(BX.cell (p:=⟨gp,ii,none⟩) (Nat.lt_of_lt_of_le hgp HB.out.size)).trans ((HB.out.cell (p:=⟨gp,ii,none⟩) hgp).trans (HCP.out ii _ (by rw[←hpp];simp[ints,List.getD,hpl])));obtain⟨ad3,c3',s3,A3,n3,c3'',erow3,-,f1,f2,hz3,hk3⟩:=HM.out.numb (i:=ii) (k:=pp) (by omega) hppC;rw[HER.out]at erow3;obtain⟨rfl,rfl⟩:adr=ad3∧cr=c3':=by simpa using erow3
    have BWr:=zup HB.out BX;replace f1:=(BWr.cell (p:=adr.add (pp*2)) (by rw[a_b];exact habr)).trans f1;replace f2:=(BWr.cell (p:=⟨(adr.add (pp*2)).block,(adr.add (pp*2)).off+1,none⟩) (by show(adr.add (pp*2)).block<_;rw[a_b];exact habr)).trans f2;replace hz3:=hz3.below BWr;have habR:adr.block<wr.heap.size:=Nat.lt_of_lt_of_le habr BWr.size;have hgpR:gp<wr.heap.size:=Nat.lt_of_lt_of_le hgp BWr.size;have c1b:=c1.below BX;have c4b:=c4.below BX;have bx:=HBX.out.below BWr;have HPP:=Lib.hid hpp;obtain⟨RS,hRS⟩:∃RS,rsn h M ps kk z ii (n - (ii+1))=RS:=⟨_,rfl⟩;rw[hRS]at hzR;have HRS:=Lib.hid hRS;clear erow3 hpp hpl hRS
    gi_wp2_with fail
    refine In.reg_noP ?_;refine In.Run.start 19 ?_;refine .ld .o (ldSl c4b 0) ?_;refine .mv .o ?_;refine .ld .o (ldZ b11 0) ?_;refine .mv .o ?_;refine .ld .o (ldPtr c1b 0) ?_;refine .nc (.i 4) ?_;refine .fa (.i 5) (fW0 0) ?_;refine .fa (.i 6) (fE1 1) ?_;refine .ld (.i 7) (ldIs bx 1) ?_;refine .mv .o ?_;refine .two (.i 8) (.i 9) (opIxI hin) ?_;refine .ld (.i 10) (ldIn (p:=⟨gp,ii,none⟩) hgpR cpp) ?_;refine .two (.i 3) (.i 11) (opIx hppC) ?_;refine .ld (.i 12) (ldE (by rw[a_b];exact habR) f1 f2) ?_;refine .c2 (.i 2) (.i 13) (x:=kT (kC (exq RS (M ii pp)) (ZD+(Kb+R))) (.k (.bool (decide (RS%M ii pp=0))))) (by rintro u v w4 hB4 rfl rfl;exact n_k ⟨_,_,_,_,rfl,(hzR.below hB4).zv,hkR⟩ ⟨_,_,_,_,rfl,(hz3.below hB4).zv,hk3⟩ (by omega) (by omega) hpz (by omega)) ?_;refine .mf (.i 14) ?_;refine .ex (.i 15) 0 kT_0 ?_;refine .ex (.i 15) 1 kT_1 ?_;refine .two (.i 0) (.i 1) (opIxB hin) ?_;refine .donef [17] [some 94,some 95,some 96,some 97,some 98,some 99,some 100,some 101,some 102,some 103,some 104,some 105,some 106,some 107,some 108,some 93,some 109,some 110,some 111] (f_x (g_a (k:=15) (j:=1) (v:=.bool (decide (RS%M ii pp=0))) (by kernel_rfl) rfl rfl (fun u w ⟨a,b,e,h1,h2⟩=>⟨_,e,by cases h2;rfl⟩) (fun _=>rfl))) ?_;intro w12 B12;rintro v108 -;rintro v93 -;rintro v ⟨s9,A9,n9,c9',rfl,hz9,hk9⟩;change Shut (wpList _ _ _ [_] _ _);refine⟨?_⟩;simp only[Act.put,lS,lZ,lC];have hsW:Bs<W.heap.size:=by omega
    have KB1:KbR w.heap.size Bs W w12:=y_o (zup BX B12) HB.out.size hsW;have BY:=zup BX B12;have d3:=c3.below BY;have d4:=c4.below BY;have d5:=c5.below BY;have d6:=c6.below BY;have d7:=c7.below BY;have d8:=c8.below BY;have d1:=c1.below BY;have d2:=c2.below BY;have d10:=c10.below BY;have d9:=(c9.below BY).mono (k':=ZD+(Kb+R)) (by omega);have hl:ii<(rw' n z).length:=by rw[b_k];exact hin
    obtain⟨o1,o2,o3,o4,q1,q2,-,-⟩:=d9.cells hl;have y1:=d9.free (ii*2);have y2:=d9.free (ii*2+1);have hs:=d9.put hl hz9 hk9;have hgr:=c_6 w12 gK (ii*2) s9 A9 n9 c9';have hno:=d9.now;obtain⟨w13,hw13⟩:∃x,zputo w12 gK (ii*2) s9 A9 n9 c9'=x:=⟨_,rfl⟩;have hs12:=BY.size;have KB2:KbR w.heap.size Bs w12 w13:=by
     obtain⟨cs,hcs,-⟩:=d9;rw[←hw13];exact u_b hgr hcs (by omega) (by omega) (by omega)
    rw[hw13]at hs hgr;have hgKl:=d9.lt;replace d1:=a_a d1 hgr (by omega);replace d2:=a_a d2 hgr (by omega);replace d3:=a_a d3 hgr (by omega);replace d4:=a_a d4 hgr (by omega);replace d5:=a_a d5 hgr (by omega);replace d6:=a_a d6 hgr (by omega);replace d7:=d7.gro hno hgr;replace d8:=d8.gro hno hgr;replace d10:=d10.gro nOK hno hgr;obtain⟨zi,hzi⟩:∃zi,exq RS (M ii pp)=zi:=⟨_,rfl⟩;rw[hzi]at hs;have HZI:=Lib.hid hzi;have ekn:(rw' n z).set ii zi=rw' n (kn h M ps kk (pre++[i])):=by
     apply List.ext_getElem
     ·simp[rw']
     ·intro j h1 h2;have hj:j<n:=by simpa [rw'] using h2
      rw[List.getElem_set];simp only[rw',List.getElem_map,List.getElem_range];rw[i_3,HZZ.out];unfold kn1;rw[HN.out,HII.out,HPP.out,HRS.out,HZI.out];by_cases e:ii=j
      ·rw[if_pos e,if_pos e.symm]
      ·rw[if_neg e,if_neg (Ne.symm e)]
    rw[ekn]at hs;have Hw13:=Lib.hid hw13;unfold zputo at Hw13;clear d9 hw13 hgr hno hzi ekn c1b c4b bx f1 f2 cpp hz3 hzR b11 i6 B12 BX BWr hz9
    go_wp2_with fail
    refine k_d ?_;try rw[Hw13.out]
    clear q1 q2 y1 y2
    gi_wp2_with fail
    try rw[Hw13.out]
    clear Hw13;have ezi:ith (rw' n (kn h M ps kk (pre++[i]))) ii=zi:=by
     rw[e_w hin,i_3,HZZ.out];unfold kn1;rw[HN.out,HII.out,HPP.out,HRS.out,HZI.out,if_pos rfl]
    have hgK:=hs.lt;obtain⟨s4,A4,n4,c4',k1,k2,hz4,hk4⟩:=hs.cells (j:=ii) (by rw[b_k];exact hin);rw[ezi]at hz4;refine In.reg_noP ?_;refine In.Run.start 12 ?_;refine .ld .o (ldQl d3 0) ?_;refine .mv .o ?_;refine .ld .o (ldSl d4 0) ?_;refine .mv .o ?_;refine .two (.i 2) (.i 3) (opIxB hin) ?_;refine .ld (.i 4) (ldE (p:=⟨gK,ii*2,none⟩) hgK k1 k2) ?_;refine .fa .o (fR0 0) ?_;refine .ld (.i 6) (ldZ d5 0) ?_;refine .c2 (.i 5) (.i 7) (x:=kC (zi*N) (ZD+(Kb+R)+K3)) (by rintro u v w4 hB4 rfl rfl;exact c_h ⟨_,_,_,_,rfl,(hz4.below hB4).zv,hk4⟩ ⟨_,_,_,_,rfl,d7.below hB4,hk1⟩ (by omega) (by omega) (Nat.le_refl _)) ?_;refine .ld .o (ldZ d6 0) ?_;refine .c2 (.i 8) (.i 9) (x:=kQ (Rat.divInt (zi*N) (h*D)) KF) (by rintro u v w4 hB4 ⟨s',A',n',c',rfl,hz',hk'⟩ rfl;exact m_8 KF ⟨_,_,_,_,rfl,hz'.zv,hk'⟩ ⟨_,_,_,_,rfl,(d8.below hB4).zv,hk8⟩ (by omega) (by omega) (by omega) hKF2 (Nat.le_refl _)) ?_;refine .two (.i 0) (.i 1) (opIxQB hin) ?_;refine .done [some 112,some 113,some 114,some 115,some 116,some 117,some 118,some 119,some 120,some 121,some 122,some 123] ?_;intro w14 B14;rintro v120 -;rintro v ⟨s5,A5,n5,c5',t5,B5,m5,d5',rfl,hq5,hk5,hk6⟩;change Shut (wpList _ _ _ [_] _ _);refine⟨?_⟩;simp only[Act.put,lS,lZ,lC];have KB3:KbR w.heap.size Bs w13 w14:=y_o B14 (Nat.le_trans HB.out.size (Nat.le_trans hs12 KB2.1.size)) (by have:=KB2.1.size;omega);have sz13:=KB2.1.size;have sz14:=B14.size;replace d1:=d1.below B14;replace d2:=d2.below B14;replace d3:=d3.below B14;replace d4:=d4.below B14;replace d5:=d5.below B14;replace d6:=d6.below B14;replace d7:=d7.below B14;replace d8:=d8.below B14;replace d10:=d10.below B14;replace hs:=hs.below B14;have hl2:ii<(qrw n (ot h M ps kk N D pre)).length:=by simp[qrw];exact hin
    obtain⟨o1,o2,o3,o4,o5,o6,o7,o8,q1,q2,q3,q4,-⟩:=d10.cells hl2;have y1:=d10.free (ii*4);have y2:=d10.free (ii*4+1);have y3:=d10.free (ii*4+2);have y4:=d10.free (ii*4+3);have hput:=d10.put (q:=true) hl2 (.of hq5) hk5 hk6;have hgr:=d_v w14 gO (ii*4) s5 A5 n5 c5' t5 B5 m5 d5';have hno:=d10.now;obtain⟨w15,hw15⟩:∃x,qputo w14 gO (ii*4) s5 A5 n5 c5' t5 B5 m5 d5'=x:=⟨_,rfl⟩;have KB4:KbR w.heap.size Bs w14 w15:=by
     obtain⟨cs,hcs,-⟩:=d10;rw[←hw15];exact u_b hgr hcs (by omega) (by omega) (by omega)
    rw[hw15]at hput hgr;replace d1:=a_a d1 hgr (by omega);replace d2:=a_a d2 hgr (by omega);replace d3:=a_a d3 hgr (by omega);replace d4:=a_a d4 hgr (by omega);replace d5:=a_a d5 hgr (by omega);replace d6:=a_a d6 hgr (by omega);replace d7:=d7.gro hno hgr;replace d8:=d8.gro hno hgr;replace hs:=hs.gro (Ne.symm nOK) hno hgr;have KB:=kb_t KB1 (kb_t KB2 (kb_t KB3 KB4));have hcf:∀j,j<((qrw n (ot h M ps kk N D pre)).set ii (Rat.divInt (zi*N) (h*D))).length→(if j=ii then true else cm n pre j)=cm n (pre++[i]) j:=fun j _=>by
     rw[q_v,HII.out];by_cases e:j=ii
     ·rw[if_pos e,e];simp
     ·rw[if_neg e];have:(ii==j)=false:=by simpa using Ne.symm e
      rw[this,Bool.or_false]
    replace hput:=hput.cf hcf;have eot:(qrw n (ot h M ps kk N D pre)).set ii (Rat.divInt (zi*N) (h*D))=qrw n (ot h M ps kk N D (pre++[i])):=by
     apply List.ext_getElem
     ·simp[qrw]
     ·intro j h1 h2;have hj:j<n:=by simpa [qrw] using h2
      rw[List.getElem_set];simp only[qrw,List.getElem_map,List.getElem_range];unfold ot;rw[HN.out,q_v,HII.out,i_3,HZZ.out];unfold kn1;rw[HN.out,HII.out,HPP.out,HRS.out,HZI.out];by_cases e:ii=j
      ·subst e;rw[if_pos rfl,if_pos rfl];simp
      ·have e2:(ii==j)=false:=by simpa using e
       rw[if_neg e,if_neg (Ne.symm e),e2,Bool.or_false]
    rw[eot]at hput;have hlen1:(pre++[i]).length=d+1:=by rw[List.length_append,HD.out];rfl
    have FIN:Hid (KeepsFrom W2.heap.size W w15∧KeepB w.heap.size Bs W w15∧(Below w.heap.size w w15∧W2.heap.size≤w15.heap.size)∧(Bx w15 w.heap.size 75 [.pointer (some ⟨g,0,none⟩)]∧Bx w15 (w.heap.size+1) 3 [.int .i64 (kk:Int)]∧Bx w15 g5 22 [.slice (some ⟨gO,0,none⟩) n n]∧Bx w15 g6 51 [.slice (some ⟨gK,0,none⟩) n n]∧Bx w15 g7 46 [.bool s_,.slice A_ n_ c_,.bool t_,.slice B_ m_ d_]∧Bx w15 g8 44 [.bool s8,.slice A8 n8 e8]∧Zv w15 s_ A_ n_ c_ N∧Zc w15 s8 A8 n8 e8 (h*D)∧ZB w15 gK (((pre++[i]).length+1)*(Kb+R)) (rw' n (kn h M ps kk (pre++[i])))∧QB w15 gO KF (cm n (pre++[i])) (qrw n (ot h M ps kk N D (pre++[i]))))):=Lib.hid ⟨KB.1.from _,KB.2,⟨HB.out.trans KB.2.1,by have:=KB.1.size;omega⟩,d1,d2,d3,d4,d5,d6,d7,d8,by rw[hlen1,←Z2.out];exact hs,hput⟩;have Hw15:=Lib.hid hw15;unfold qputo at Hw15;clear d10 hw15 hgr hno hs hput d1 d2 d3 d4 d5 d6 d7 d8 KB KB1 KB2 KB3 KB4 hcf eot hz4 k1 k2 hq5 B14 ezi
    go_wp2_with fail
    refine k_d ?_;try rw[Hw15.out]
    clear q1 q2 q3 q4 y1 y2 y3 y4
    gi_wp2_with fail
    try rw[Hw15.out]
    exact FIN.out
 case done=>
  rintro Dd zs W hD rfl ⟨⟨hB,hsz⟩,c1,c2,c3,c4,c5,c6,c7,c8,c9,c10⟩ hKd;have i5:=c3.cell 0;simp only[List.getElem?_cons_zero]at i5;have P:Hid (QB (W.putObj Dd (.deferred none)) gO KF (fun _=>true) Tq):=Lib.hid (by
   have e:qrw n (ot h M ps kk N D (upto (fromEndR n) n))=Tq:=by
    have e1:=HN.out;subst e1;rw[←HTQ.out,←hqd.out];exact List.map_congr_left fun j hj=>v_v HRD.out HXC.out hk N D (List.mem_range.1 hj)
   rw[←e];refine QB.kp ?_ (grownBy_putObj' W Dd _) (fun r e=>by cases e;exact⟨_,hKd,rfl⟩);exact c10.cf fun j hj=>by
    have hl:(qrw n (ot h M ps kk N D (upto (fromEndR n) n))).length=n:=by simp[qrw]
    rw[hl]at hj;exact q_u hj)
  have PB:Hid (Below w.heap.size w (W.putObj Dd (.deferred none))):=Lib.hid (hB.trans (belowK_b (w:=w) (Nat.le_refl _) _ Dd _ _ (by omega) hKd rfl rfl));clear c1 c2 c3 c4 c5 c6 c7 c8 c9 c10 hB
  go_wp2_with fail
  refine⟨by simp,.inl ⟨_,_,rfl,run_takeDeferred hKd, ?_⟩⟩;exact⟨.slice (some ⟨gO,0,none⟩) n n,by simp[results,Tryz.results58,go_sem],_,rfl,⟨gO,rfl,P.out,by omega⟩,PB.out⟩
 case stop=>
  rintro Dd c pre W _ _ h _;exact h.elim
end Go.Proofs.YtkgghhklbbfdiaaGreat
