/-
  Of the proof of logsUpto_card.
-/
import Derived.Test.YthbdpfccfcceiaaGreatDoorF19x
namespace Go.Proofs.YthbdpfccfcceiaaGreatDoor
section
open Go.RowKit Go.Maps Go.Lib
theorem zmn:∀(fs:List (List UInt8)),(∀f∈fs,f≠[])→∀n,bytesOf fs≤n→zgb fs n=fs
 |[],_,_,_=>rfl
 |f::r,h,n,hn=>by
  rw[z2c]at hn
  have hf:0<f.length:=List.length_pos_iff.2 (h f (by simp))
  unfold zgb
  rw[if_neg (by omega),List.take_of_length_le (by omega),zmn r (λx hx=>h x (List.mem_cons_of_mem _ hx)) _ (by omega)]
def zie (sy total:Nat)(keep:Int):Nat:=sy+(max 0 (min keep ((total:Int)-(sy:Int)))).toNat
theorem zar {sy total:Nat}(h:sy≤total)(keep:Int):sy≤zie sy total keep∧zie sy total keep≤total:=by
 unfold zie
 omega
section
variable {R:Ending→World→Prop}
set_option maxRecDepth 20000 in
set_option maxHeartbeats 1000000 in
theorem z4u (p o:Nat)(fv:Value)(fs:List (List UInt8))(lv:List Value)(w:World)(c0:w.cell? ⟨p,o,none⟩=some fv)(hJ:JR w fv fs lv)(hne:∀f∈fs,f≠[])(hl:bytesOf fs≤1000000000)(hfl:fs.length≤1100000)
  (hR:∀v' lv' w',FR w.heap.size w' v' fs lv'→Kp (λ_=>False) w w'→R (.returned v') w') :
  Calls Tryz.prog 43 #[.pointer (some ⟨p,o,none⟩)] w R:=by
 have HJ:=ze hJ
 have HR:=ze hR
 have HL:=ze hl
 have HFL:=ze hfl
 have HNE:=ze hne
 have C0:=ze c0
 clear hJ hR hl hfl hne c0
 go_enter Tryz.func43,Tryz.ntmps43
 go_wp2_with (first
  |(go_at_call 74;refine znk p o fv fs lv _ C0.out HJ.out HL.out HFL.out ?_)
  |(go_at_call 77;refine z2k p o fv fs lv (bytesOf fs) _ C0.out HJ.out HNE.out HL.out HFL.out HL.out ?_;intro v' lv' w' hf hk;rw[zmn fs HNE.out _ (Nat.le_refl _)]at hf)
  |fail)
 exact HR.out v' lv' w' hf hk
set_option maxRecDepth 20000 in
set_option maxHeartbeats 1000000 in
theorem z1w (p o:Nat)(cs:Array Value)(T:TypeId)(fv:Value)(fs:List (List UInt8))(lv:List Value)(w:World)(hp:w.heap[p]?=some (.cells cs T (0,0)))(c0:cs[o]?=some fv)(h2:o+2<cs.size)(hJ:JR w fv fs lv)(hl:bytesOf fs≤1000000000)(hfl:fs.length≤1100000)
  (hR:R (.returned (.tuple #[])) (w.setCell ⟨p,o+2,none⟩ (.int .i64 (bytesOf fs:Nat)))) :
  Calls Tryz.prog 40 #[.pointer (some ⟨p,o,none⟩)] w R:=by
 have HJ:=ze hJ
 have HR:=ze hR
 have HL:=ze hl
 have HFL:=ze hfl
 have C0:Hid (w.cell? ⟨p,o,none⟩=some fv):=(zg hp o).trans c0
 have c2:w.cell? ⟨p,o+2,none⟩=some cs[o+2]:=(zg hp (o+2)).trans (Array.getElem?_eq_getElem h2)
 have hfz:=zj hp (o+2)
 clear hJ hR hl hfl c0 hp
 go_enter Tryz.func40,Tryz.ntmps40
 go_wp2_with (first
  |(go_at_call 74;refine znk p o fv fs lv _ C0.out HJ.out HL.out HFL.out ?_)
  |fail)
 refine bodyPost_ret (results_none rfl _ _ _) rfl ?_
 exact HR.out
set_option maxRecDepth 20000 in
set_option maxHeartbeats 1000000 in
theorem z0w (p o:Nat)(fv:Value)(fs:List (List UInt8))(lv:List Value)(sy:Nat)(keep:Int)(_hkeep:-9223372036854775808≤keep∧keep≤9223372036854775807)(w:World)(c0:w.cell? ⟨p,o,none⟩=some fv)(c2:w.cell? ⟨p,o+2,none⟩=some (.int .i64 (sy:Nat)))(hJ:JR w fv fs lv)(hne:∀f∈fs,f≠[])(hl:bytesOf fs≤1000000000)(hfl:fs.length≤1100000)(hs:sy≤bytesOf fs)
  (hR:∀v' lv' w',FR w.heap.size w' v' (zgb fs (zie sy (bytesOf fs) keep)) lv'→Kp (λ_=>False) w w'→R (.returned v') w') :
  Calls Tryz.prog 42 #[.pointer (some ⟨p,o,none⟩),.int .i64 keep] w R:=by
 have HJ:=ze hJ
 have HR:=ze hR
 have HL:=ze hl
 have HFL:=ze hfl
 have HNE:=ze hne
 have C0:=ze c0
 have HS:=ze hs
 have HLN:=ze (zar hs keep)
 have h1:(bytesOf fs:Int)≤1000000000:=by omega
 have h2:(sy:Int)≤bytesOf fs:=by omega
 obtain⟨k1,hk1,hk2⟩:∃k1:Int,min keep ((bytesOf fs:Int)-(sy:Int))=k1∧k1≤1000000000:=⟨_,rfl,by omega⟩
 obtain⟨k2,hk3,hk4,hk5⟩:∃k2:Nat,max 0 k1=(k2:Int)∧(k2:Int)≤1000000000∧zie sy (bytesOf fs) keep=sy+k2:=⟨(max 0 k1).toNat,by omega,by omega,by unfold zie;rw[hk1]⟩
 have HK5:=ze hk5
 have HW:Hid (IntKind.i64.wrap ((bytesOf fs:Int)-(sy:Int))=(bytesOf fs:Int)-(sy:Int)):=IntWalk.i64_in _ (by omega)
 have c2':=c2
 clear hJ hR hl hfl hne c0 hs hk5
 go_enter Tryz.func42,Tryz.ntmps42
 go_wp2_with (first
  |(go_at_call 74;refine znk p o fv fs lv _ C0.out HJ.out HL.out HFL.out ?_)
  |(go_at_call 77;refine z2k p o fv fs lv (sy+k2) _ C0.out HJ.out HNE.out HL.out HFL.out (by have:=HLN.out;have:=HK5.out;have:=HL.out;omega) ?_;intro v' lv' w' hf hk)
  |fail)
 go_region_law (refine zpd rfl 74 _ _ _ rfl Tryz.func74 (by kernel_rfl) (by kernel_rfl) _ (by simp[Act.eval];rfl) ?_;refine znk p o fv fs lv _ C0.out HJ.out HL.out HFL.out ?_;refine⟨_,rfl,?_⟩)
 all_goals
  rw[HW.out,hk1,hk3]
  go_wp2_with (first
   |(go_at_call 77;refine z2k p o fv fs lv (sy+k2) _ (C0.out) HJ.out HNE.out HL.out HFL.out (by have:=HLN.out;have:=HK5.out;have:=HL.out;omega) ?_;intro v' lv' w' hf hk)
   |fail)
  rw[← HK5.out]at hf
  exact HR.out v' lv' w' hf ((Kp.drew _ _).trans hk (λ_ _ h=>h))
end
end
section
open Go.RowKit Go.Maps Go.Lib
def synced (s:XS):XS:={ s with log:={ s.log with sy:=bytesOf (zm s.log.lg) } }
section
variable {own own':Nat→Lab}{c:Nat}{w w':World}{p:Nat}{s:XS}
variable {R:Ending→World→Prop}
theorem XOk.files (ok:XOk s):(∀f∈zm s.log.lg,f≠[])∧bytesOf (zm s.log.lg)≤1000000000∧(zm s.log.lg).length≤1100000:=by
 have a1:=ok.now
 have a2:=ok.hor
 have a3:=ok.lgl
 have h2:=z2e s.log.lg 400 ok.lgb
 have h3:s.log.lg.length*417≤5000*417:=Nat.mul_le_mul_right _ (by omega)
 refine⟨λf hf=>(z8i s.log.lg (by omega) ok.lgb f hf).1,by omega,?_⟩
 rw[z4c]
 omega
theorem XOk.synced (ok:XOk s):XOk (synced s):=
 ⟨ok.now,ok.hor,ok.begun,ok.up,ok.mom,ok.ver,ok.key,λn t e=>⟨(ok.tx n t e).num,(ok.tx n t e).sees,(ok.tx n t e).nw,(ok.tx n t e).keys,(ok.tx n t e).pos,(ok.tx n t e).vals⟩,ok.nm,ok.nv,ok.lgl,ok.lgb,Nat.le_refl _⟩
theorem z4t (h:XE own c w p s)(ok:XOk s)
  (hR:∀w',Kp (λb=>(own b).c=c) w w'→w'.heap.size=w.heap.size→XE own c w' p (synced s)→R (.returned (.tuple #[])) w') :
  Calls Tryz.prog 40 #[.pointer (some ⟨p,3,none⟩)] w R:=by
 obtain⟨mo,ph,mv,mm,pt,mw,sl,h⟩:=h
 obtain⟨f1,f2,f3⟩:=ok.files
 refine z1w p 3 _ 102 s.log.lf (zm s.log.lg) s.log.lv w h.store rfl (by simp) ⟨h.log.rowF,h.log.rowB⟩ f2 f3 ?_
 have hb:∀b,b≠p→(w.setCell ⟨p,3+2,none⟩ (.int .i64 (bytesOf (zm s.log.lg):Nat))).heap[b]?=w.heap[b]?:=λb hb=>Below.heap_setCell w _ _ b hb
 refine hR _ (Kp.setCell w _ _ (by show (own p).c=c;rw[h.ownP])) (by simp[World.setCell]) ⟨mo,ph,mv,mm,pt,mw,sl,h.relog _ (λb _ _ hk _ _=>hb b (λe=>by subst e;rw[h.ownP]at hk;exact hk rfl)) (λ_ _=>rfl) ?_ ?_⟩
 ·rw[zq h.store];rfl
 ·exact⟨h.log.ownF,(h.log.frame (λb _ _ hk=>hb b (zaj h.ownP hk (by omega))) (λ_ _ _ _=>rfl)).rowF,h.log.ownB,(h.log.frame (λb _ _ hk=>hb b (zaj h.ownP hk (by omega))) (λ_ _ _ _=>rfl)).rowB⟩
set_option maxRecDepth 20000 in
set_option maxHeartbeats 400000 in
theorem zs3 (h:XE own c w p s)(ok:XOk s)
  (hR:∀w',Kp (λb=>(own b).c=c) w w'→w'.heap.size=w.heap.size→XE own c w' p (synced s)→R (.returned (.tuple #[])) w') :
  Calls Tryz.prog 14 #[.pointer (some ⟨p,0,none⟩)] w R:=by
 have HJ:=ze (λR' (hR':∀w',Kp (λb=>(own b).c=c) w w'→w'.heap.size=w.heap.size→XE own c w' p (synced s)→R' (.returned (.tuple #[])) w')=>z4t (R:=R') h ok hR')
 have HR:=ze hR
 clear h ok hR
 go_enter Tryz.func14,Tryz.ntmps14
 go_wp2_with (first
  |(go_at_call 40;refine HJ.out _ ?_;intro w1 hk1 hs1 hx1;have HF:=ze (HR.out w1 hk1 hs1 hx1);clear hk1 hs1 hx1)
  |fail)
 refine bodyPost_ret (results_none rfl _ _ _) rfl ?_
 exact HF.out
set_option maxRecDepth 20000 in
set_option maxHeartbeats 400000 in
theorem zw2 (h:XE own c w p s)(ok:XOk s)
  (hR:∀v' lv' w',FR w.heap.size w' v' (zm s.log.lg) lv'→Kp (λ_=>False) w w'→R (.returned v') w') :
  Calls Tryz.prog 20 #[.pointer (some ⟨p,0,none⟩)] w R:=by
 obtain⟨mo,ph,mv,mm,pt,mw,sl,h⟩:=h
 obtain⟨f1,f2,f3⟩:=ok.files
 have HJ:=ze (λR' (hR':∀v' lv' w',FR w.heap.size w' v' (zm s.log.lg) lv'→Kp (λ_=>False) w w'→R' (.returned v') w')=>z4u (R:=R') p 3 s.log.lf (zm s.log.lg) s.log.lv w (zg h.store 3) ⟨h.log.rowF,h.log.rowB⟩ f1 f2 f3 hR')
 have HR:=ze hR
 clear h ok hR
 go_enter Tryz.func20,Tryz.ntmps20
 go_wp2_with (first
  |(go_at_call 43;refine HJ.out _ ?_;intro v1 lv1 w1 hf1 hk1;obtain⟨a1,c1,rfl⟩:=zp hf1.row;have HF:=ze (HR.out _ lv1 w1 hf1 hk1);clear hf1 hk1)
  |fail)
 exact HF.out
set_option maxRecDepth 20000 in
set_option maxHeartbeats 400000 in
theorem zv2 (h:XE own c w p s)(ok:XOk s)(keep:Int)(hkeep:-9223372036854775808≤keep∧keep≤9223372036854775807)
  (hR:∀v' lv' w',FR w.heap.size w' v' (zgb (zm s.log.lg) (zie s.log.sy (bytesOf (zm s.log.lg)) keep)) lv'→Kp (λ_=>False) w w'→R (.returned v') w') :
  Calls Tryz.prog 17 #[.pointer (some ⟨p,0,none⟩),.int .i64 keep] w R:=by
 obtain⟨mo,ph,mv,mm,pt,mw,sl,h⟩:=h
 obtain⟨f1,f2,f3⟩:=ok.files
 have HJ:=ze (λR' (hR':∀v' lv' w',FR w.heap.size w' v' (zgb (zm s.log.lg) (zie s.log.sy (bytesOf (zm s.log.lg)) keep)) lv'→Kp (λ_=>False) w w'→R' (.returned v') w')=>z0w (R:=R') p 3 s.log.lf (zm s.log.lg) s.log.lv s.log.sy keep hkeep w (zg h.store 3) (zg h.store (3+2)) ⟨h.log.rowF,h.log.rowB⟩ f1 f2 f3 ok.sy hR')
 have HR:=ze hR
 clear h ok hR
 go_enter Tryz.func17,Tryz.ntmps17
 go_wp2_with (first
  |(go_at_call 42;refine HJ.out _ ?_;intro v1 lv1 w1 hf1 hk1;obtain⟨a1,c1,rfl⟩:=zp hf1.row;have HF:=ze (HR.out _ lv1 w1 hf1 hk1);clear hf1 hk1)
  |fail)
 exact HF.out
end
end
section
open Go.RowKit Go.Maps Go.Lib
def z1f:List (List UInt8)→Nat→XS→XS→Prop
 |[],_,s,s'=>s'=s
 |f::r,n,s,s'=>∃s1,z2f f n s s1 true∧z1f r (n+1) s1 s'
theorem z1f.snoc {f:List UInt8}{s2:XS}:∀{fs:List (List UInt8)} {n:Nat} {s s1:XS},z1f fs n s s1→z2f f (n+fs.length) s1 s2 true→z1f (fs++[f]) n s s2
 |[],n,s,s1,h,hr=>by
  have h:s1=s:=h
  subst h
  exact⟨s2,hr,rfl⟩
 |a::fs,n,s,s1,⟨q,h1,h2⟩,hr=>⟨q,h1,z1f.snoc h2 (by rw[show n+1+fs.length=n+(a::fs).length by simp;omega];exact hr)⟩
def z3i (fs:List (List UInt8))(s s':XS):Prop:=
 (fs=[]∧s'=s)∨∃l f s1 b,fs=l++[f]∧z1f l 0 s s1∧z2f f l.length s1 s' b
def z6n (fs:List (List UInt8))(s:XS):Prop:=∃(i:Nat) (f:List UInt8) (s1 s2:XS),fs[i]?=some f∧i+1<fs.length∧z1f (fs.take i) 0 s s1∧z2f f i s1 s2 false
def FIn (w:World)(v:Value)(fs:List (List UInt8))(N:Nat→Prop):Prop:=
 ∃a cap,v = .slice a fs.length cap∧fs.length≤1100000∧(fs≠[]→∃ga oa,a=some ⟨ga,oa,none⟩∧ga<w.heap.size∧N ga∧∀(i:Nat) f,fs[i]?=some f→∃(b:Option Addr) (n c g:Nat),w.cell? ⟨ga,oa+i,none⟩=some (.slice b n c)∧RdN w (.slice b n c) f g∧N g∧f.length≤1100000)
theorem FIn.kp {w w':World}{v:Value}{fs:List (List UInt8)}{N S:Nat→Prop}(h:FIn w v fs N)(k:Kp S w w')(hs:∀b,N b→¬S b):FIn w' v fs N:=by
 obtain⟨a,cap,rfl,hl,h⟩:=h
 refine⟨a,cap,rfl,hl,λhne=>?_⟩
 obtain⟨ga,oa,rfl,h1,h2,h3⟩:=h hne
 refine⟨ga,oa,rfl,Nat.lt_of_lt_of_le h1 k.size,h2,λi f hf=>?_⟩
 obtain⟨b,n,c,g,h4,h5,h6,h7⟩:=h3 i f hf
 exact⟨b,n,c,g,(k.cell (a:=⟨ga,oa+i,none⟩) h1 (hs ga h2)).trans h4,h5.kp k (hs g h6),h6,h7⟩
structure zdu (own:Nat→Lab)(c:Nat)(w1:World)(p:Nat)(s:XS)(fs:List (List UInt8))(i:Nat)(wr:World)(own':Nat→Lab)(s':XS):Prop where
 x:XE own' c wr p s'
 ok:XOk s'
 txs:∀n,s'.txs n=none
 bk:s'.bk=s.bk
 beg:s'.begun=s.begun
 all:i<fs.length→z1f (fs.take i) 0 s s'
 end_:i=fs.length→z3i fs s s'
 kp:Kp (λb=>(own b).c=c) w1 wr
 old:∀b,b<w1.heap.size→own' b=own b
section
variable {own own':Nat→Lab}{c:Nat}{w w':World}{p:Nat}{s:XS}
variable {R:Ending→World→Prop}
def zbd (own:Nat→Lab)(c n:Nat)(b:Nat):Lab:=
 if b<n then own b else if b=n then ⟨c,3,0,eb⟩ else if b=n+1 then ⟨c,4,0,eb⟩ else if b=n+2 then ⟨c,2,0,eb⟩ else if b=n+3 then ⟨c,1,0,eb⟩ else if b=n+4 then ⟨c,10,0,eb⟩ else if b=n+5 then ⟨c,0,0,eb⟩ else ⟨c+1,99,0,eb⟩
theorem zwh (c:Nat){n b:Nat}(h:b<n):zbd own c n b=own b:=by simp[zbd,h]
theorem zkx (own:Nat→Lab)(c n:Nat):zbd own c n (n)=⟨c,3,0,eb⟩:=by unfold zbd;rw[if_neg (by omega),if_pos (by omega)]
theorem zlx (own:Nat→Lab)(c n:Nat):zbd own c n (n+1)=⟨c,4,0,eb⟩:=by unfold zbd;rw[if_neg (by omega),if_neg (by omega),if_pos (by omega)]
theorem zmx (own:Nat→Lab)(c n:Nat):zbd own c n (n+2)=⟨c,2,0,eb⟩:=by unfold zbd;rw[if_neg (by omega),if_neg (by omega),if_neg (by omega),if_pos (by omega)]
theorem znx (own:Nat→Lab)(c n:Nat):zbd own c n (n+3)=⟨c,1,0,eb⟩:=by unfold zbd;rw[if_neg (by omega),if_neg (by omega),if_neg (by omega),if_neg (by omega),if_pos (by omega)]
theorem zox (own:Nat→Lab)(c n:Nat):zbd own c n (n+4)=⟨c,10,0,eb⟩:=by unfold zbd;rw[if_neg (by omega),if_neg (by omega),if_neg (by omega),if_neg (by omega),if_neg (by omega),if_pos (by omega)]
theorem zpx (own:Nat→Lab)(c n:Nat):zbd own c n (n+5)=⟨c,0,0,eb⟩:=by unfold zbd;rw[if_neg (by omega),if_neg (by omega),if_neg (by omega),if_neg (by omega),if_neg (by omega),if_neg (by omega),if_pos (by omega)]
theorem zpi {α:Type}{l:List α}{i:Nat}{a:α}(h:l[i]?=some a):l.take (i+1)=l.take i++[a]:=by
 obtain⟨h1,rfl⟩:=List.getElem?_eq_some_iff.1 h
 exact List.take_succ_eq_append_getElem h1
theorem zdu.step {own:Nat→Lab}{w1 wr w3:World}{fs:List (List UInt8)}{i:Nat}{own3:Nat→Lab}{s1 s3:XS}{f:List UInt8}{b:Bool}(h:zdu own c w1 p s fs i wr own' s1)(hi:fs[i]?=some f)
  (k3:Kp (λb=>(own' b).c=c) wr w3) (ho:∀b,b<wr.heap.size→own3 b=own' b) (hx:XE own3 c w3 p s3) (hok:XOk s3) (ht:∀n,s3.txs n=none) (hb:s3.bk=s1.bk) (hg:s3.begun=s1.begun) (hr:z2f f i s1 s3 b) (hlast:b=true∨i+1=fs.length) :
  zdu own c w1 p s fs (i+1) w3 own3 s3:=by
 have hlt:i<fs.length:=(List.getElem?_eq_some_iff.1 hi).1
 refine⟨hx,hok,ht,hb.trans h.bk,hg.trans h.beg,λhl=>?_,λhl=>?_,h.kp.trans k3 (λb hb e=>?_),λb hb=>?_⟩
 ·have hb':b=true:=hlast.elim id (λe=>by omega)
  subst hb'
  rw[zpi hi]
  refine (h.all hlt).snoc ?_
  rw[List.length_take,Nat.min_eq_left (Nat.le_of_lt hlt),Nat.zero_add]
  exact hr
 ·refine Or.inr ⟨fs.take i,f,s1,b,?_,h.all hlt,?_⟩
  ·rw[← zpi hi,hl,List.take_length]
  ·rw[List.length_take,Nat.min_eq_left (Nat.le_of_lt hlt)]
   exact hr
 ·have hb':own' b=own b:=h.old b hb
  rw[hb']at e
  exact e
 ·have:=h.kp.size
  rw[ho b (by omega)]
  exact h.old b hb
theorem z20 (mu:Nat):XOk (zdc mu):=by
 refine⟨by simp[zdc],by simp[zdc],by simp[zdc],λk=>by simp[zdc],λk m h=>by simp[zdc]at h,λk m=>by simp[zdc],λk h=>by simp[zdc]at h,λn t e=>by simp[zdc]at e,by simp[zdc],by simp[zdc],by simp[zdc],by simp[zdc],by simp[zdc]⟩
set_option maxRecDepth 20000 in
set_option maxHeartbeats 2000000 in
theorem ztp (hT:Tab w)(hc:∀b,b<w.heap.size→(own b).c≠c)(v:Value)(fs:List (List UInt8))(hv:FIn w v fs (λb=>b<w.heap.size))
  (h1:z6n fs (zdc (w.heap.size+4))→∀w',Kp (λ_=>False) w w'→R (.returned (.tuple #[.pointer none,.int .i64 9])) w')
  (h2:∀w' own' s',Kp (λ_=>False) w w'→(∀b,b<w.heap.size→own' b=own b)→zid own' c→XE own' c w' (w.heap.size+5) (synced s')→XOk (synced s')→(∀n,s'.txs n=none)→s'.bk=(zdc (w.heap.size+4)).bk→s'.begun=0→z3i fs (zdc (w.heap.size+4)) s'→R (.returned (.tuple #[.pointer (some ⟨w.heap.size+5,0,none⟩),.int .i64 0])) w') :
  Calls Tryz.prog 16 #[v] w R:=by
 have HT:=ze hT
 have HCO:=ze hc
 have HV:=ze hv
 have H1:=ze h1
 have H2:=ze h2
 obtain⟨a0,cap0,rfl,hn0,_⟩:=hv
 have HN0:=ze hn0
 have hn0':(fs.length:Int)≤1100000:=by omega
 have hwn:IntKind.i64.wrap ((fs.length:Int)-1)=(fs.length:Int)-1:=IntWalk.i64_in _ (by omega)
 clear hT hc h1 h2 hn0
 go_enter Tryz.func16,Tryz.ntmps16
 go_wp2_with (first
  |(go_at_call 33;refine zfr w w.heap.size rfl ?_;intro w3 k3 s3 b0 b1 b2 b5 b3 b4;have HX0:Hid (XE (zbd own c w.heap.size) c w3 (w.heap.size+5) (zdc (w.heap.size+4))):=z90 w.heap.size b0 b1 b2 b5 b3 b4 (zkx _ _ _) (zlx _ _ _) (zmx _ _ _) (znx _ _ _) (zox _ _ _) (zpx _ _ _);have K3:=ze k3;have S3:=ze s3;clear k3 s3 b0 b1 b2 b5 b3 b4)
  |fail)
 have HV3:=ze (HV.out.kp K3.out (λ_ _ e=>e))
 have HT3:=ze (HT.out.kept K3.out)
 have HN3:Hid (zid (zbd own c w.heap.size) c):=by
  show zid _ _
  unfold zid
  rw[zwh c HT.out.lt.1,zwh c HT.out.lt.2]
  exact⟨HCO.out 0 HT.out.lt.1,HCO.out 1 HT.out.lt.2⟩
 have HNC:Hid (∀b,b<w.heap.size→¬(zbd own c w.heap.size b).c=c):=λb hb=>by rw[zwh c hb];exact HCO.out b hb
 go_loopw [12] (λv12 wr=>∃(i:Nat) (own':Nat→Lab) (s':XS),i≤fs.length∧v12 = .int .i64 i∧zdu (zbd own c w.heap.size) c w3 (w.heap.size+5) (zdc (w.heap.size+4)) fs i wr own' s') (λv12 _=>fs.length-(intOf v12).toNat)
 case atStart=>
  refine⟨0,_,_,Nat.zero_le _,rfl,HX0.out,z20 _,λ_=>rfl,rfl,rfl,λ_=>rfl,λe=>Or.inl ⟨List.eq_nil_of_length_eq_zero e.symm,rfl⟩,Kp.refl _ _,λ_ _=>rfl⟩
 case round=>
  obtain⟨i,own2,s2,hi,rfl,hM⟩:=hrel
  have HM:=ze hM
  have HKW:Hid (Kp (λ_=>False) w wr):=K3.out.trans hM.kp (λb hb e=>HNC.out b hb e)
  have HOLD:Hid (∀b,b<w.heap.size→own2 b=own b):=λb hb=>by
   rw[hM.old b (Nat.lt_of_lt_of_le hb K3.out.size),zwh c hb]
  have HTR:=ze (HT3.out.kpN hM.kp HN3.out)
  have HNR:=ze (z2t HT3.out HN3.out hM.old)
  have HVR:=ze (HV3.out.kp hM.kp (λb hb=>HNC.out b hb))
  clear hM
  by_cases hlt:i<fs.length
  ·have hlt':(i:Int)<fs.length:=by omega
   obtain⟨f,hfi⟩:∃f,fs[i]?=some f:=⟨fs[i],List.getElem?_eq_getElem hlt⟩
   obtain⟨a1,cap1,e1,_,hcells⟩:=HVR.out
   injection e1 with e1 _ e2
   subst e1;subst e2
   obtain⟨ga,oa,rfl,_,_,hcells⟩:=hcells (λe=>by rw[e]at hlt;simp at hlt)
   obtain⟨bf,nf,cf,gf,hcell,hrd,_,hfl⟩:=hcells i f hfi
   have HFI:=ze hfi
   have HRD:=ze hrd
   have HFL:=ze hfl
   have HLT:=ze hlt
   have HI32:Hid (i<4294967296):=by show _<_;have:=HN0.out;omega
   clear hcells hrd hfl hfi hlt
   by_cases hla:i+1=fs.length
   ·have el:((i:Int) == (fs.length:Int)-1)=true:=by simp;omega
    have HLA:=ze hla
    clear hla
    go_wp2_with (first
     |(go_at_call 41;refine zcs HM.out.x HM.out.ok HM.out.txs HTR.out HNR.out _ f gf HRD.out HFL.out i HI32.out ?_;intro w4 own4 s4 b hk4 ho4 hx4 hok4 ht4 hb4 hg4 hr4;have HM4:=ze (HM.out.step HFI.out hk4 ho4 hx4 hok4 ht4 hb4 hg4 hr4 (Or.inr HLA.out));clear hk4 ho4 hx4 hok4 ht4 hb4 hg4 hr4)
     |fail)
    all_goals go_roundw
    all_goals first
     |exact⟨i+1,own4,s4,by have:=HLT.out;omega,by go_num,HM4.out⟩
     |(have:=HLT.out;simp[intOf];omega)
   ·have el:((i:Int) == (fs.length:Int)-1)=false:=by simp;omega
    have HLA:=ze hla
    clear hla
    go_wp2_with (first
     |(go_at_call 41;refine zcs HM.out.x HM.out.ok HM.out.txs HTR.out HNR.out _ f gf HRD.out HFL.out i HI32.out ?_;intro w4 own4 s4 b hk4 ho4 hx4 hok4 ht4 hb4 hg4 hr4;have HK4:Hid (Kp (λ_=>False) w w4):=HKW.out.trans hk4 (λb hb e=>by rw[HOLD.out b hb]at e;exact HCO.out b hb e);have HR4:=ze hr4;have HM4:=ze (λhb=>HM.out.step HFI.out hk4 ho4 hx4 hok4 ht4 hb4 hg4 hr4 (Or.inl hb));clear hk4 ho4 hx4 hok4 ht4 hb4 hg4 hr4)
     |fail)
    ·rename_i hb
     have hb':b=true:=by simpa using hb
     go_roundw
     case rel=>exact⟨i+1,own4,s4,by have:=HLT.out;omega,by go_num,HM4.out hb'⟩
     case measure=>have:=HLT.out;simp[intOf];omega
    ·rename_i hb
     have hb':b=false:=by simpa using hb
     exact H1.out ⟨i,f,s2,s4,HFI.out,by have:=HLA.out;have:=HLT.out;omega,HM.out.all HLT.out,hb' ▸ HR4.out⟩ w4 HK4.out
  ·have hie:i=fs.length:=by omega
   have HEND:=ze (HM.out.end_ hie)
   subst hie
   clear hi hlt
   go_wp2_with (first
    |(go_at_call 40;refine z4t HM.out.x HM.out.ok ?_;intro w5 hk5 hs5 hx5;have HF1:=ze (H2.out w5 own2 s2 (HKW.out.trans hk5 (λb hb e=>by rw[HOLD.out b hb]at e;exact HCO.out b hb e)) HOLD.out HNR.out hx5 HM.out.ok.synced HM.out.txs HM.out.bk HM.out.beg HEND.out);clear hk5 hs5 hx5)
    |fail)
   exact HF1.out
end
end
section
open Go.RowKit Go.Maps Go.Lib
section
variable {w:World}
theorem BR.rdN {base:Nat}{v:Value}{bs:List UInt8}(h:BR base w v bs):∃g,RdN w v bs g∧(g<w.heap.size∨bs=[]):=by
 rcases h.2 with ⟨e,h0⟩|⟨g,cap,cur,e,_,hg,hn,hr⟩
 ·have hb:bs=[]:=List.eq_nil_of_length_eq_zero h0
  refine⟨0,⟨none,0,by rw[e,h0],by omega,λhne=>absurd hb hne⟩,Or.inr hb⟩
 ·obtain⟨q,cap2,e2,hc⟩:=h.rd
  have hlt:=(Array.getElem?_eq_some_iff.1 hg).1
  refine⟨g,⟨some ⟨g,0,none⟩,cap,e,hn,λhne=>⟨hlt,0,rfl,λj hj=>?_⟩⟩,Or.inl hlt⟩
  obtain⟨g2,o2,e3,hc2⟩:=hc hne
  rw[e]at e2
  injection e2 with e2 _ _
  rw[e3]at e2
  injection e2 with e2
  injection e2 with e4 e5
  subst e4;subst e5
  exact hc2 j hj
theorem FR.fin {base:Nat}{v:Value}{fs:List (List UInt8)}{lv:List Value}(h:FR base w v fs lv)(hl:fs.length≤1100000)(hs:∀f∈fs,f.length≤1100000)(h0:0<w.heap.size):FIn w v fs (λb=>b<w.heap.size):=by
 obtain⟨a,cap,e⟩:=zp h.row
 refine⟨a,cap,e,hl,λhne=>?_⟩
 obtain⟨g,cap2,cur,e2,hg,_⟩:=zib h.row (List.length_pos_iff.2 hne)
 have hlt:=(Array.getElem?_eq_some_iff.1 hg).1
 rw[e]at e2
 injection e2 with e2 _ _
 subst e2
 refine⟨g,0,rfl,hlt,hlt,λi f hf=>?_⟩
 have hi:i<lv.length:=by rw[h.len];exact (List.getElem?_eq_some_iff.1 hf).1
 have hu:=List.getElem?_eq_getElem hi
 have hb:=h.at_ i _ f hu hf
 obtain⟨g1,hr,hg1⟩:=hb.rdN
 obtain⟨b,c,e3⟩:=zp hb
 have hc:=World.ownsRow.cells h.row (g:=g) (by rw[e];rfl) i _ hu
 rw[zub,Nat.zero_add]at hc
 rw[e3]at hc hr
 rw[Nat.zero_add]
 rcases hg1 with hg1|hg1
 ·exact⟨b,_,c,g1,hc,hr,hg1,hs f (List.mem_of_getElem? hf)⟩
 ·refine⟨b,_,c,0,hc,?_,h0,hs f (List.mem_of_getElem? hf)⟩
  obtain⟨p,cap,e4,h5,_⟩:=hr
  exact⟨p,cap,e4,h5,λhne=>absurd hg1 hne⟩
end
end
end Go.Proofs.YthbdpfccfcceiaaGreatDoor
