/- PmX03 -/
import Derived.Test.YtkgghhklbbfdiaaGreatPm35
set_option linter.unusedVariables false
set_option linter.unusedSimpArgs false
set_option linter.unusedSectionVars false
set_option maxRecDepth 100000
set_option maxHeartbeats 8000000
namespace Go.Proofs.YtkgghhklbbfdiaaGreat
section
open Go.RowKit
section
variable {w w':World}{g:Nat}{s t s' t' s0 t0 u v:Bool}{A B A' B' A0 B0 C D':Option Addr}{n c m d n' c' m' d' n0 c0 m0 d0 l e' f' h' k:Nat}{p q:Rat}
theorem x_r (ha:Qv w s A n c t B m d p)(k:Nat)(hnk:n≤k)(hmk:m≤k)(hk:k≤1073741824){r:Int}(hr:rsg p=r):
  Calls Tryz.prog 27 #[.agg #[.bool s,.slice A n c,.bool t,.slice B m d]] w (IPost r w):=by
 obtain⟨N,D,a1,a2,a3⟩:=ha;exact p_i a1 a2 (by omega) (by omega) (by rw[←f_a,a3.out];exact hr)
end
end
section
open Go.RowKit
section
variable {u v:Value}{x y:Rat}{n m K:Nat}{w:World}
theorem g_w (k:Nat)(hx:IsQv x n u w)(hn:n≤k)(hk:k≤1073741824){r:Int}(hr:rsg x=r):Calls Tryz.prog 27 #[u] w (RetK (.k (.int .i64 r)) w):=by
 obtain⟨s,A,a,c,t,B,b,d,rfl,g1,g2,g3⟩:=hx;exact(x_r g1 k (by omega) (by omega) hk hr).mono fun e w' h=>⟨_,h.1,rfl,h.2⟩
end
section
variable {q:Bool}{w w':World}{r c n d k k':Nat}{A:Option Addr}{F G:Nat→Nat→Rat}
end
end
section
open Go.RowKit
theorem m_v {ps:List Nat}{b n c x:Nat}{A:Option Addr}{w:World}(hn:ps.length=n)(hl:n≤4096)(hI:IsIq b ps (.slice A n c) w):Calls Tryz.prog 26 #[.slice A n c,.int .i64 (x:Int)] w (RetK (.k (.bool (decide (x∈ps)))) w):=by
 obtain⟨p,hp⟩:∃p,decide (x∈ps)=p:=⟨_,rfl⟩;rw[hp];have HP:=Lib.hid hp;have HN:=Lib.hid hn;have HI:Hid (0<n→∃g,A=some ⟨g,0,none⟩∧g<w.heap.size∧∀j,j<n→w.cell? ⟨g,j,none⟩=some (.int .i64 ((ps.getD j 0:Nat):Int))):=Lib.hid fun h0=>by
  obtain⟨A',c',e,h⟩:=hI;injection e with e1 e2 e3
  subst e1;rw[hn]at h;obtain⟨g,h1,-,h2,h3⟩:=h h0;exact⟨g,h1,h2,h3⟩
 clear hn hI hp;go_enter Tryz.func26,Tryz.ntmps26
 go_wp2_with fail
 go_loopw [5] (fun s5 wr=>∃j:Nat,s5= .int .i64 (j:Int)∧j≤n∧Hid (Below w.heap.size w wr∧∀a,a<j→ps.getD a 0≠x)) (fun s5 _=>n - (intOf s5).toNat)
 case atStart=>exact⟨0,rfl,Nat.zero_le _,Lib.hid ⟨Below.refl _ _,fun a ha=>by omega⟩⟩
 case round=>
  obtain⟨j,rfl,hj,HB⟩:=hrel;by_cases hlt:j<n
  ·have u2:(j:Int)<(n:Int):=by omega
   obtain⟨g,rfl,hg,hc⟩:=HI.out (by omega);obtain⟨y,hy⟩:∃y,ps.getD j 0=y:=⟨_,rfl⟩;have c1:wr.cell? ⟨g,j,none⟩=some (.int .i64 (y:Int)):=(HB.out.1.cell (p:=⟨g,j,none⟩) hg).trans (by rw[hc j hlt,hy]);have HY:=Lib.hid hy;clear hc hy;by_cases hx:y=x
   ·have u3:(y:Int)=(x:Int):=by omega
    have P:Hid (p=true∧RetK (.k (.bool true)) w (.returned (.bool true)) wr):=Lib.hid ⟨by
     rw[←HP.out];exact decide_eq_true (by rw[←hx,←HY.out];exact d_x (by rw[HN.out];exact hlt)),_,rfl,rfl,HB.out.1⟩
    obtain⟨hpt,-⟩:=P.out;subst hpt;clear HB hx HP
    go_wp2_with fail
    exact bodyPost_ret (v:=.bool true) (by simp[results,Tryz.results26,go_sem]) rfl P.out.2
   ·have u3:¬(y:Int)=(x:Int):=by omega
    have HS:Hid (Below w.heap.size w wr∧∀a,a<j+1→ps.getD a 0≠x):=Lib.hid ⟨HB.out.1,fun a ha=>by
     by_cases e:a=j
     ·subst e;rw[HY.out];exact hx
     ·exact HB.out.2 a (by omega)⟩
    clear HB hx
    go_wp2_with fail
    go_roundw
    case rel=>exact⟨j+1,by go_num,by omega,HS⟩
    case measure=>first|(simp[intOf];done)|(simp[intOf];omega)
  ·obtain rfl:j=n:=by omega
   have u2:¬(j:Int)<(j:Int):=by omega
   have P:Hid (p=false∧RetK (.k (.bool false)) w (.returned (.bool false)) wr):=Lib.hid ⟨by
    rw[←HP.out];refine decide_eq_false fun h=>?_;obtain⟨a,ha,e⟩:=List.getElem_of_mem h;exact HB.out.2 a (by rw[←HN.out];exact ha) (by simp[List.getD,ha,e]),_,rfl,rfl,HB.out.1⟩
   obtain⟨hpt,-⟩:=P.out;subst hpt;clear HB HP
   go_wp2_with fail
   exact bodyPost_ret (v:=.bool false) (by simp[results,Tryz.results26,go_sem]) rfl P.out.2
end
end Go.Proofs.YtkgghhklbbfdiaaGreat
