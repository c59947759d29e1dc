/-
  Of the proof of logsUpto_card.
-/
import Derived.Test.YthbdpfccfcceiaaGreatDoorLA1x
import Derived.Laws.CopyOwn
import Derived.Deep.OwnRows
namespace Go.Proofs.YthbdpfccfcceiaaGreatDoor
section
open Go.RowKit Go.Maps Go.Lib
theorem zfc.ok {bs m:List UInt8}{k t:Nat}{ws:List W3}(h:zfc bs k t ws m):zdg k ws:=by
 obtain⟨_,_,_,h⟩:=h
 exact h.ok
theorem zup {own:Nat→Lab}{c n:Nat}{w w1:World}{p:Nat}{y:YS}(h:YE own c w p y)(k:Kp (λb=>b=n) w w1)(h8:own n=zqm)(hc:c≠0):YE (zmc own w.heap.size) c w1 p y:=
 h.frame (λb hb e=>k.block b hb (λ(e2:b=n)=>by
  rw[e2,h8]at e
  rcases e with e|e
  ·exact hc e.symm
  ·simp[zqm,zt]at e)) (λb hb _=>zrb hb)
section
variable {own own':Nat→Lab}{c:Nat}{w w':World}{p:Nat}{y:YS}
variable {R:Ending→World→Prop}
set_option maxRecDepth 20000 in
set_option maxHeartbeats 4000000 in
theorem zwq (h:YE own c w p y)(hi:YI y)(hno:y.txs=[])(hc:c≠0)(num:Nat)(hnum:num<4294967296)(v:Value)(bs:List UInt8)(g:Nat)(hv:RdN w v bs g)(hgl:g<w.heap.size)(hgc:(own g).c≠c)(hl:bs.length≤1100000)
  (hR:∀w' own' y' b,Kp (λb=>(own b).c=c) w w'→(∀b,b<w.heap.size→own' b=own b)→YE own' c w' p y'→YI y'→y'.txs=[]→zxd bs num y y' b→R (.returned (.bool b)) w') :
  Calls Tryz.prog 148 #[.pointer (some ⟨p,0,none⟩),.int .i64 (num:Nat),v] w R:=by
 obtain⟨pv,cv,rfl,hcv,hrd⟩:=id hv
 have H0:Hid (znb (w.alloc (.cells #[.slice pv bs.length cv,.int .i64 0,.bool false] 307)) w.heap.size (TS.new bs) (.slice pv bs.length cv) g):=
  ⟨heap_alloc_new w _,hv.kp (Kp.alloc (λ_=>False) w _) (λe=>e),by omega,Nat.zero_le _⟩
 have HYE:=ze (z4j (own1:=zll own w.heap.size) h (Kp.alloc (λ_=>False) w (.cells #[.slice pv bs.length cv,.int .i64 0,.bool false] 307)) (λb hb=>zqo hb))
 have HM0:Hid (∀ok w1 t1 L rest,znb w1 w.heap.size t1 (.slice pv bs.length cv) g→Kp (λb=>b=w.heap.size) (w.alloc (.cells #[.slice pv bs.length cv,.int .i64 0,.bool false] 307)) w1→(ok=true→Has t1 rest∧t1.B=bs∧z6d bs=some num∧zvf (bs.drop 11) y L rest y∧L.length=0)→(ok=false→zxd bs num y y false)→z5e own c w p y bs num g (.slice pv bs.length cv) 0 ok w1 (zll own w.heap.size) y t1 L rest):=λok w1 t1 L rest ht hk h1 h2=>
  ⟨zpo HYE.out (zjq _) hc hk,hi,hno,ht,(Kp.alloc (λb=>(own b).c=c) w _).trans hk (λb hb e=>by omega),λb hb=>zqo hb,zjq _,h1,h2⟩
 have HC:=ze hc
 have HNUM:=ze hnum
 have HL:=ze hl
 have HR:=ze hR
 have HGL:=ze hgl
 have HGC:=ze hgc
 clear h hi hno hnum hv hgl hgc hR hcv hrd
 by_cases q:z6d bs=some num
 ·have HQ:=ze q
  clear q
  go_enter Tryz.func148,Tryz.ntmps148
  go_wp2_with (first
   |(go_at_call 194;refine zkw _ bs num _ g _ H0.out HNUM.out HL.out (λhn=>absurd HQ.out hn) ?_;intro _ w1 t1 hT1 hh1 htB1 hk1;have HM:=ze (HM0.out true w1 t1 [] (bs.drop 11) hT1 hk1 (λ_=>⟨hh1,htB1,HQ.out,⟨rfl,rfl⟩,rfl⟩) (λe=>by cases e));clear hT1 hh1 htB1 hk1)
   |fail)
  go_loopw [8,9,10,11] (λv8 v9 _ _ wr=>∃(i:Nat) (ok:Bool) (own':Nat→Lab) (y':YS) (t:TS) (L:List Rc) (rest:List UInt8),i≤4∧v9 = .int .i64 i∧v8 = .bool ok∧z5e own c w p y bs num g (.slice pv bs.length cv) i ok wr own' y' t L rest) (λ_ v9 _ _ _=>4-(intOf v9).toNat)
  case atStart=>exact⟨0,true,_,_,_,_,_,by omega,rfl,rfl,HM.out⟩
  case round=>
   clear HM
   obtain⟨i,ok,own',y',t,L,rest,hi4,rfl,rfl,hm⟩:=hrel
   have HM:=ze hm
   have z1:=zg hm.tk.blk 1
   simp at z1
   cases ok with
   |true=>
    by_cases qi:i<4
    ·have qi':(i:Int)<4:=by omega
     obtain⟨hh,htB,_,_,_⟩:=hm.going rfl
     have HH:=ze hh
     have HTB:Hid (t.B.length≤1100000):=by show _≤_;rw[htB];exact HL.out
     clear hm hh htB hi4 z1
     by_cases hA:∃k T ws m,zfc rest k T ws m∧(k=67→1≤T∧T≤2000)
     ·obtain⟨k,T,ws,m,hcut,hT2⟩:=hA
      have HCUT:=ze hcut
      have HT2:=ze hT2
      have HNOT:Hid (¬∀k T ws m,zfc rest k T ws m→k=67∧¬(1≤T∧T≤2000)):=λhn=>by
       obtain⟨e1,e2⟩:=hn k T ws m hcut
       exact e2 (hT2 e1)
      clear hcut hT2
      by_cases hm:ztg y'.hor y'.now ⟨k,T,ws⟩
      ·have HMAY:=ze hm
       clear hm
       go_wp2_with (first
        |(go_at_call 195;refine zao _ t rest _ g _ HM.out.tk HH.out HM.out.size (Nat.lt_trans HGL.out HM.out.size) HTB.out (λhn=>absurd hn HNOT.out) ?_;intro k1 T1 ws1 m1 w2 t2 pW cW pb nb cb hcut1 _ hTl hh2 htB2 htk2 hk2 hrow2 hbd2;obtain⟨e1,e2,e3,e4⟩:=HCUT.out.uniq hcut1;subst e1 e2 e3 e4;have HY2:=ze (λo=>z4j (own1:=zmc own' wr.heap.size) (zup HM.out.ye hk2 HM.out.nine HC.out) (Kp.alloc (λ_=>False) w2 o) (λ_ _=>rfl));have HTK2:=ze htk2;have HK2:=ze hk2;have HTL:=ze hTl;have HH2:=ze hh2;have HTB2:=ze htB2;have HROW2:=ze (λo=>zi hrow2 (Kp.alloc (λ_=>False) w2 o) (λ_ _ e=>e));have HBD2:=ze (λo=>hbd2.kp (Kp.alloc (λ_=>False) w2 o) (λe=>e));have HLB:=ze (λb e=>(hrow2.lt b e).1);clear hcut1 hTl hh2 htB2 htk2 hk2 hrow2 hbd2)
        |(go_at_call 196;refine ztt (HY2.out _) HM.out.yi HC.out (λb hb=>zef (by have:=HK2.out.size;simp at hb;omega)) k T ws HCUT.out.ok HTL.out HT2.out pW cW _ (HROW2.out _) (λb e=>by rw[zef (by have:=HLB.out b e;omega)];exact λe=>HC.out e.symm) pb nb cb g (by rw[zrb (by have:=HGL.out;have:=HM.out.size;omega),HM.out.old g HGL.out];exact HGC.out) (HBD2.out _) (λhn=>absurd HMAY.out hn) ?_;intro _ w3 own3 k3 a3 ye3;have HE:=ze (HM.out.taken HC.out HGL.out HGC.out HCUT.out.ok HCUT.out HMAY.out HH2.out HTB2.out HTK2.out HK2.out (Kp.alloc (λ_=>False) _ _) k3 a3 ye3);clear k3 a3 ye3)
        |fail)
       go_roundw
       case rel=>exact⟨i+1,true,_,_,_,_,_,by omega,by go_num,rfl,HE.out⟩
       case measure=>simp[intOf];omega
      ·have HMAY:=ze hm
       clear hm
       go_wp2_with (first
        |(go_at_call 195;refine zao _ t rest _ g _ HM.out.tk HH.out HM.out.size (Nat.lt_trans HGL.out HM.out.size) HTB.out (λhn=>absurd hn HNOT.out) ?_;intro k1 T1 ws1 m1 w2 t2 pW cW pb nb cb hcut1 _ hTl hh2 htB2 htk2 hk2 hrow2 hbd2;obtain⟨e1,e2,e3,e4⟩:=HCUT.out.uniq hcut1;subst e1 e2 e3 e4;have HY2:=ze (λo=>z4j (own1:=zmc own' wr.heap.size) (zup HM.out.ye hk2 HM.out.nine HC.out) (Kp.alloc (λ_=>False) w2 o) (λ_ _=>rfl));have HTK2:=ze htk2;have HK2:=ze hk2;have HTL:=ze hTl;have HROW2:=ze (λo=>zi hrow2 (Kp.alloc (λ_=>False) w2 o) (λ_ _ e=>e));have HBD2:=ze (λo=>hbd2.kp (Kp.alloc (λ_=>False) w2 o) (λe=>e));have HLB:=ze (λb e=>(hrow2.lt b e).1);clear hcut1 hTl hh2 htB2 htk2 hk2 hrow2 hbd2)
        |(go_at_call 196;refine ztt (HY2.out _) HM.out.yi HC.out (λb hb=>zef (by have:=HK2.out.size;simp at hb;omega)) k T ws HCUT.out.ok HTL.out HT2.out pW cW _ (HROW2.out _) (λb e=>by rw[zef (by have:=HLB.out b e;omega)];exact λe=>HC.out e.symm) pb nb cb g (by rw[zrb (by have:=HGL.out;have:=HM.out.size;omega),HM.out.old g HGL.out];exact HGC.out) (HBD2.out _) ?_ (λhn=>absurd hn HMAY.out);intro _ w3 k3;have HE:=ze (HM.out.refused qi HC.out HGL.out HCUT.out HMAY.out HTK2.out HK2.out ((Kp.alloc (λ_=>False) _ _).trans k3 (λ_ _ e=>e)));clear k3)
        |fail)
       go_roundw
       case rel=>exact⟨i+1,false,_,_,_,_,_,by omega,by go_num,rfl,HE.out⟩
       case measure=>simp[intOf];omega
     ·have HNOT:Hid (∀k T ws m,zfc rest k T ws m→k=67∧¬(1≤T∧T≤2000)):=λk T ws m hcut=>by
       by_cases e:k=67
       ·exact⟨e,λhT=>hA ⟨k,T,ws,m,hcut,λ_=>hT⟩⟩
       ·exact absurd ⟨k,T,ws,m,hcut,λe2=>absurd e2 e⟩ hA
      have HA:=ze hA
      clear hA
      go_wp2_with (first
       |(go_at_call 195;refine zao _ t rest _ g _ HM.out.tk HH.out HM.out.size (Nat.lt_trans HGL.out HM.out.size) HTB.out ?_ (λk T ws m _ _ _ _ _ _ _ hcut hT _ _ _ _ _ _ _=>absurd ⟨k,T,ws,m,hcut,hT⟩ HA.out);intro _ w2 t2 b2 T2 p2 n2 c2 p3 n3 c3 hT2 hk2;have HE:=ze (λw3 (k3:Kp (λ_=>False) w2 w3)=>HM.out.none qi HC.out HGL.out HNOT.out hT2 hk2 k3);clear hT2 hk2)
       |fail)
      go_roundw
      case rel=>exact⟨i+1,false,_,_,_,_,_,by omega,by go_num,rfl,HE.out _ (Kp.alloc _ _ _)⟩
      case measure=>simp[intOf];omega
    ·have qi':¬(i:Int)<4:=by omega
     have qi4:i=4:=by omega
     obtain⟨hh,htB,hcu,hpa,hle⟩:=hm.going rfl
     have hend:=hh.at_end
     rw[htB]at hend
     have HF:Hid (∀b:Bool,(b=true↔t.at_=bs.length)→R (.returned (.bool b)) wr):=λb hb=>HR.out wr own' y' b hm.kp hm.old hm.ye hm.yi hm.no (Or.inr ⟨hcu,L,rest,hpa,by omega,λh=>by omega,by
      have e4:decide (L.length=4)=true:=by simp;omega
      rw[e4,Bool.and_true]
      cases b with
      |true=>exact (decide_eq_true (hend.1 (hb.1 rfl))).symm
      |false=>exact (decide_eq_false (λe=>by have:=hb.2 (hend.2 e);cases this)).symm⟩)
     clear hm hh htB hcu hpa hle hend hi4 qi4 qi
     by_cases qe:t.at_=bs.length
     ·have qe':((t.at_:Int) == bs.length)=true:=by simp[qe]
      have HFT:=ze (HF.out true (by simp[qe]))
      clear qe
      go_wp2_with fail
      exact HFT.out
     ·have qe':((t.at_:Int) == bs.length)=false:=by simp;omega
      have HFT:=ze (HF.out false (by simp[qe]))
      clear qe
      go_wp2_with fail
      exact HFT.out
   |false=>
    have HF:=ze (HR.out wr own' y' false hm.kp hm.old hm.ye hm.yi hm.no (hm.over rfl))
    clear hm
    by_cases qi:i<4
    ·have qi':(i:Int)<4:=by omega
     go_wp2_with fail
     exact HF.out
    ·have qi':¬(i:Int)<4:=by omega
     go_wp2_with fail
     exact HF.out
 ·have HQ:=ze q
  clear q
  go_enter Tryz.func148,Tryz.ntmps148
  go_wp2_with (first
   |(go_at_call 194;refine zkw _ bs num _ g _ H0.out HNUM.out HL.out ?_ (λhn=>absurd hn HQ.out);intro _ w1 t1 hT1 hk1;have HM:=ze (HM0.out false w1 t1 [] [] hT1 hk1 (λe=>by cases e) (λ_=>Or.inl ⟨HQ.out,rfl,rfl⟩));clear hT1 hk1)
   |fail)
  go_loopw [8,9,10,11] (λv8 v9 _ _ wr=>v9 = .int .i64 0∧v8 = .bool false∧wr=w1) (λ_ _ _ _ _=>0)
  case atStart=>exact⟨rfl,rfl,rfl⟩
  case round=>
   obtain⟨rfl,rfl,hww⟩:=hrel
   rw[hww]
   clear hww
   have HF:=ze (HR.out w1 _ _ false HM.out.kp HM.out.old HM.out.ye HM.out.yi HM.out.no (HM.out.over rfl))
   go_wp2_with fail
   exact HF.out
end
end
section
open Go.RowKit Go.Maps Go.Lib
def zri (y:YS):Prop:=∀b∈y.lg,b≠[]∧b.length≤400
theorem zri.did {y:YS}(h:zri y){r:Rc}(hr:zdg r.k r.ws):zri (didY y r):=by
 have hb:=zlq (T:=r.t) hr
 unfold didY
 split
 ·rename_i q
  intro b hb2
  rcases List.mem_append.1 hb2 with h1|h1
  ·exact h b h1
  ·simp at h1
   subst h1
   unfold z9h at hb
   rw[if_pos q]at hb
   exact⟨hb.2,hb.1⟩
 ·rename_i q
  intro b hb2
  rcases List.mem_append.1 hb2 with h1|h1
  ·exact h b h1
  ·simp at h1
   subst h1
   unfold z9h at hb
   rw[if_neg q]at hb
   exact⟨hb.2,hb.1⟩
theorem zvf.lgok:∀{L:List Rc} {bs m:List UInt8} {y y':YS},zvf bs y L m y'→zri y→zri y'
 |[],_,_,_,_,⟨_,e⟩,h=>by subst e;exact h
 |_::_,_,_,_,_,⟨_,h1,_,h3⟩,h=>zvf.lgok h3 (h.did h1.ok)
theorem zxd.lgok {bs:List UInt8}{num:Nat}{y y':YS}{b:Bool}(h:zxd bs num y y' b)(hl:zri y):zri y':=by
 rcases h with ⟨_,e,_⟩|⟨_,L,m,hp,_⟩
 ·rw[e];exact hl
 ·exact hp.lgok hl
theorem z9g.lgIn {own:Nat→Lab}{w:World}{v:Value}{lg:List Value}{bs:List (List UInt8)}(h:z9g own w lg bs)(hrow:w.ownsRow 0 48 1 v lg.length lg):zdm w v bs:=by
 obtain⟨a,cap,e⟩:=zp hrow
 refine⟨a,cap,by rw[e,h.1],λhne=>?_⟩
 have hpos:0<lg.length:=by rw[h.1];exact List.length_pos_iff.2 hne
 obtain⟨g,cap2,cur,e2,_⟩:=zib hrow hpos
 rw[e]at e2
 injection e2 with e2 _ _
 subst e2
 refine⟨g,0,rfl,λi f hf=>?_⟩
 have hi:i<lg.length:=by rw[h.1];exact (List.getElem?_eq_some_iff.1 hf).1
 have hu:=List.getElem?_eq_getElem hi
 have hb:=(h.2 i _ f hu hf).1
 have hc:=World.ownsRow.cells hrow (g:=g) (by rw[e];rfl) i _ hu
 rw[zub]at hc
 obtain⟨p2,c2,e3⟩:=zp hb
 exact⟨_,hc,hb.rd,p2,_,c2,e3⟩
def zyn (y:YS):YS:={ y with syn:=(bytesOf (zm y.lg):Nat) }
section
variable {own own':Nat→Lab}{c:Nat}{w w':World}{p:Nat}{y:YS}
variable {R:Ending→World→Prop}
theorem YR.setSyn {vL vT vG:Value}{sv lg:List Value}(h:YR own c w p y vL vT vG sv lg)(n:Int):YR own c (w.setCell ⟨p,5,none⟩ (.int .i64 n)) p { y with syn:=n } vL vT vG sv lg:=by
 have hb:∀b,b≠p→(w.setCell ⟨p,5,none⟩ (.int .i64 n)).heap[b]?=w.heap[b]?:=λb hb=>Below.heap_setCell w _ _ b hb
 refine⟨h.ownP,?_,?_,h.ownL,h.len,?_,h.ownT,λi hi hj=>?_,h.ownX,?_,h.ownG⟩
 ·rw[zq h.store];simp
 ·exact zl h.rowL (λb e=>hb b (zpb (own:=own) (by rw[h.ownL b e,h.ownP];simp)))
 ·exact zl h.rowT (λb e=>hb b (zpb (own:=own) (by rw[h.ownT b e,h.ownP];simp)))
 ·exact zl (h.rowX i hi hj) (λb e=>hb b (zpb (own:=own) (by rw[h.ownX i hj b e,h.ownP];simp)))
 ·exact zl h.rowG (λb e=>hb b (zpb (own:=own) (by rw[h.ownG b e,h.ownP];simp)))
theorem zly (h:YE own c w p y)(hi:YI y)(_hc:c≠0)(hb:zri y)
  (hR:∀w',Kp (λb=>(own b).c=c) w w'→YE own c w' p (zyn y)→R (.returned (.tuple #[])) w') :
  Calls Tryz.prog 115 #[.pointer (some ⟨p,0,none⟩)] w R:=by
 obtain⟨vL,vT,vG,sv,lg,Y,hl,hg⟩:=h
 have n1:=hi.now
 have n2:=hi.hor
 have e1:=hg.1
 refine z53 p _ _ vG y.lg w Y.store rfl (by simp) (hg.lgIn Y.rowG) (by omega) hb (λw1 k1=>?_)
 refine hR _ ((k1.mono (S':=λb=>(own b).c=c) (λ_ _ e=>e.elim)).trans (Kp.setCell (S:=λb=>b=p) w1 ⟨p,5,none⟩ _ rfl) (λb _ (e:b=p)=>by show (own b).c=c;rw[e,Y.ownP])) ⟨vL,vT,vG,sv,lg,(Y.kept k1).setSyn _,hl,?_⟩
 refine (hg.frame (own':=own) (w':=w1) (λb hb _=>k1.block b hb (λe=>e)) (λ_ _ _=>rfl)).frame (λb hb e=>Below.heap_setCell w1 _ _ b (λe2=>?_)) (λ_ _ _=>rfl)
 have e2:b=p:=e2
 rw[e2,Y.ownP]at e
 simp[zt]at e
end
structure zbu (own:Nat→Lab)(c:Nat)(w1:World)(p:Nat)(fs:List (List UInt8))(i:Nat)(wr:World)(own':Nat→Lab)(y':YS):Prop where
 ye:YE own' c wr p y'
 yi:YI y'
 no:y'.txs=[]
 lgok:zri y'
 all:i<fs.length→zad (fs.take i) 0 zjc y'
 end_:i=fs.length→zif fs zjc y'
 kp:Kp (λb=>(own b).c=c) w1 wr
 old:∀b,b<w1.heap.size→own' b=own b
theorem zbu.step {own own' own3:Nat→Lab}{c:Nat}{w1 wr w3:World}{p:Nat}{fs:List (List UInt8)}{i:Nat}{y1 y3:YS}{f:List UInt8}{b:Bool}(h:zbu own c w1 p fs i wr own' y1)(hi:fs[i]?=some f)
  (k3:Kp (λb=>(own' b).c=c) wr w3) (ho:∀b,b<wr.heap.size→own3 b=own' b) (hx:YE own3 c w3 p y3) (hyi:YI y3) (hno:y3.txs=[]) (hr:zxd f i y1 y3 b) (hlast:b=true∨i+1=fs.length) :
  zbu own c w1 p fs (i+1) w3 own3 y3:=by
 have hlt:i<fs.length:=(List.getElem?_eq_some_iff.1 hi).1
 refine⟨hx,hyi,hno,hr.lgok h.lgok,λhl=>?_,λhl=>?_,h.kp.trans k3 (λb hb e=>?_),λb hb=>?_⟩
 ·have hb':b=true:=hlast.elim id (λe=>by omega)
  subst hb'
  rw[zpi hi]
  refine (h.all hlt).snoc ?_
  rw[List.length_take,Nat.min_eq_left (Nat.le_of_lt hlt),Nat.zero_add]
  exact hr
 ·refine Or.inr ⟨fs.take i,f,y1,b,?_,h.all hlt,?_⟩
  ·rw[← zpi hi,hl,List.take_length]
  ·rw[List.length_take,Nat.min_eq_left (Nat.le_of_lt hlt)]
   exact hr
 ·rw[h.old b hb]at e;exact e
 ·exact (ho b (Nat.lt_of_lt_of_le hb h.kp.size)).trans (h.old b hb)
def zum (own:Nat→Lab)(c n b:Nat):Lab:=if b=n then ⟨c,0,0,eb⟩ else zmc own n b
theorem znr {own:Nat→Lab}{c n b:Nat}(h:b<n):zum own c n b=own b:=by
 unfold zum
 rw[if_neg (by omega),zrb h]
theorem z41 (own:Nat→Lab)(c n:Nat):zum own c n n=⟨c,0,0,eb⟩:=by simp[zum]
section
variable {own own':Nat→Lab}{c:Nat}{w w':World}{p:Nat}{y:YS}
variable {R:Ending→World→Prop}
set_option maxRecDepth 20000 in
set_option maxHeartbeats 2000000 in
theorem zzo (hc0:c≠0)(hc:∀b,b<w.heap.size→(own b).c≠c)(v:Value)(fs:List (List UInt8))(hv:FIn w v fs (λb=>b<w.heap.size))
  (h1:zhh fs zjc→∀w',Kp (λ_=>False) w w'→R (.returned (.tuple #[.pointer none,.int .i64 9])) w')
  (h2:∀w' own' y',Kp (λ_=>False) w w'→(∀b,b<w.heap.size→own' b=own b)→YE own' c w' w.heap.size (zyn y')→YI y'→y'.txs=[]→zri y'→zif fs zjc y'→R (.returned (.tuple #[.pointer (some ⟨w.heap.size,0,none⟩),.int .i64 0])) w') :
  Calls Tryz.prog 93 #[v] w R:=by
 have HC0:=ze hc0
 have HCO:=ze hc
 have HV:=ze hv
 have H1:=ze h1
 have H2:=ze h2
 obtain⟨a0,cap0,rfl,hn0,_⟩:=hv
 have HN0:=ze hn0
 have hn0':(fs.length:Int)≤1100000:=by omega
 have hwn:IntKind.i64.wrap ((fs.length:Int)-1)=(fs.length:Int)-1:=IntWalk.i64_in _ (by omega)
 have HY0:Hid (YE (zum own c w.heap.size) c (w.alloc z5h) w.heap.size zjc):=zb1 _ (heap_alloc_new w _) (z41 _ _ _)
 have HV0:=ze (HV.out.kp (Kp.alloc (λ_=>False) w z5h) (λ_ _ e=>e))
 have HNC:Hid (∀b,b<w.heap.size→¬(zum own c w.heap.size b).c=c):=λb hb=>by rw[znr hb];exact hc b hb
 clear hc0 hc h1 h2 hn0
 unfold z5h at HY0 HV0
 go_enter Tryz.func93,Tryz.ntmps93
 go_wp2_with fail
 go_loopw [5,6] (λv5 _ wr=>∃(i:Nat) (own':Nat→Lab) (y':YS),i≤fs.length∧v5 = .int .i64 i∧zbu (zum own c w.heap.size) c (w.alloc (.cells #[.slice none 0 0,.int .i64 0,.int .i64 0,.slice none 0 0,.slice none 0 0,.int .i64 0,.slice none 0 0] 78)) w.heap.size fs i wr own' y') (λv5 _ _=>fs.length-(intOf v5).toNat)
 case atStart=>
  refine⟨0,_,_,Nat.zero_le _,rfl,HY0.out,zfs,rfl,λb hb=>(by cases hb),λ_=>rfl,λe=>Or.inl ⟨List.eq_nil_of_length_eq_zero e.symm,rfl⟩,Kp.refl _ _,λ_ _=>rfl⟩
 case round=>
  obtain⟨i,own2,y2,hi,rfl,hM⟩:=hrel
  have HM:=ze hM
  have HKW:Hid (Kp (λ_=>False) w wr):=(Kp.alloc (λ_=>False) w _).trans hM.kp (λb hb e=>HNC.out b hb e)
  have HOLD:Hid (∀b,b<w.heap.size→own2 b=own b):=λb hb=>by
   rw[hM.old b (by simp;omega),znr hb]
  have HVR:=ze (HV.out.kp HKW.out (λ_ _ e=>e))
  clear hM
  by_cases hlt:i<fs.length
  ·have hlt':(i:Int)<fs.length:=by omega
   obtain⟨f,hfi⟩:∃f,fs[i]?=some f:=⟨fs[i],List.getElem?_eq_getElem hlt⟩
   obtain⟨a1,cap1,e1,_,hcells⟩:=HVR.out
   injection e1 with e1 _ e2
   subst e1;subst e2
   obtain⟨ga,oa,rfl,_,_,hcells⟩:=hcells (λe=>by rw[e]at hlt;simp at hlt)
   obtain⟨bf,nf,cf,gf,hcell,hrd,hgf,hfl⟩:=hcells i f hfi
   have HFI:=ze hfi
   have HRD:=ze hrd
   have HFL:=ze hfl
   have HLT:=ze hlt
   have HGF:=ze hgf
   have HI32:Hid (i<4294967296):=by show _<_;have:=HN0.out;omega
   clear hcells hrd hfl hfi hlt hgf
   have HGR:Hid (gf<wr.heap.size):=Nat.lt_of_lt_of_le HGF.out HKW.out.size
   have HGC:Hid ((own2 gf).c≠c):=by show _≠_;rw[HOLD.out gf HGF.out];exact HCO.out gf HGF.out
   by_cases hb:∃y3,zxd f i y2 y3 true
   ·have HB:=ze hb
    clear hb
    go_wp2_with (first
     |(go_at_call 148;refine zwq HM.out.ye HM.out.yi HM.out.no HC0.out i HI32.out _ f gf HRD.out HGR.out HGC.out HFL.out ?_;intro w4 own4 y4 b4 hk4 ho4 hy4 hyi4 hno4 hr4;obtain⟨y3,hy3⟩:=HB.out;obtain rfl:true=b4:=(hy3.uniq hr4).2;have HM4:=ze (HM.out.step HFI.out hk4 ho4 hy4 hyi4 hno4 hr4 (Or.inl rfl));clear hk4 ho4 hy4 hyi4 hno4 hr4 hy3)
     |fail)
    go_roundw
    case rel=>exact⟨i+1,own4,y4,by have:=HLT.out;omega,by go_num,HM4.out⟩
    case measure=>have:=HLT.out;simp[intOf];omega
   ·have HB:=ze hb
    clear hb
    by_cases hla:i+1=fs.length
    ·have el:¬(i:Int)<(fs.length:Int)-1:=by omega
     have HLA:=ze hla
     clear hla
     go_wp2_with (first
      |(go_at_call 148;refine zwq HM.out.ye HM.out.yi HM.out.no HC0.out i HI32.out _ f gf HRD.out HGR.out HGC.out HFL.out ?_;intro w4 own4 y4 b4 hk4 ho4 hy4 hyi4 hno4 hr4;obtain rfl:b4=false:=(Bool.eq_false_iff.2 (λe=>HB.out ⟨y4,by rw[← e];exact hr4⟩));have HM4:=ze (HM.out.step HFI.out hk4 ho4 hy4 hyi4 hno4 hr4 (Or.inr HLA.out));clear hk4 ho4 hy4 hyi4 hno4 hr4)
      |fail)
     go_roundw
     case rel=>exact⟨i+1,own4,y4,by have:=HLT.out;omega,by go_num,HM4.out⟩
     case measure=>have:=HLT.out;simp[intOf];omega
    ·have el:(i:Int)<(fs.length:Int)-1:=by omega
     have HLA:=ze hla
     clear hla
     go_wp2_with (first
      |(go_at_call 148;refine zwq HM.out.ye HM.out.yi HM.out.no HC0.out i HI32.out _ f gf HRD.out HGR.out HGC.out HFL.out ?_;intro w4 own4 y4 b4 hk4 ho4 hy4 hyi4 hno4 hr4;obtain rfl:b4=false:=(Bool.eq_false_iff.2 (λe=>HB.out ⟨y4,by rw[← e];exact hr4⟩));have HF:=ze (H1.out ⟨i,f,y2,y4,HFI.out,by have:=HLA.out;have:=HLT.out;omega,HM.out.all HLT.out,hr4⟩ w4 (HKW.out.trans hk4 (λb hb e=>by rw[HOLD.out b hb]at e;exact HCO.out b hb e)));clear hk4 ho4 hy4 hyi4 hno4 hr4)
      |fail)
     exact HF.out
  ·have hie:i=fs.length:=by omega
   have HEND:=ze (HM.out.end_ hie)
   subst hie
   clear hi hlt
   go_wp2_with (first
    |(go_at_call 115;refine zly HM.out.ye HM.out.yi HC0.out HM.out.lgok ?_;intro w5 hk5 hy5;have HF1:=ze (H2.out w5 own2 y2 (HKW.out.trans hk5 (λb hb e=>by rw[HOLD.out b hb]at e;exact HCO.out b hb e)) HOLD.out hy5 HM.out.yi HM.out.no HM.out.lgok HEND.out);clear hk5 hy5)
    |fail)
   exact HF1.out
end
end
section
open Go.RowKit Go.Maps Go.Lib
theorem FR.mono {base base':Nat}{w:World}{v:Value}{fs:List (List UInt8)}{lv:List Value}(h:FR base w v fs lv)(hb:base'≤base):FR base' w v fs lv:=
 ⟨zxm h.row hb,λi u f hu hf=>(h.at_ i u f hu hf).mono hb,h.apart⟩
theorem zap:∀{fs:List (List UInt8)} {f:List UInt8},f∈fs→f.length≤bytesOf fs
 |g::r,f,h=>by
  rw[z2c]
  rcases List.mem_cons.1 h with rfl|h
  ·omega
  ·have:=zap h;omega
theorem z6l:∀{fs:List (List UInt8)} {n:Nat} {f:List UInt8},f∈zgb fs n→f.length≤bytesOf fs
 |[],_,f,h=>by simp[zgb]at h
 |g::r,n,f,h=>by
  rw[z2c]
  unfold zgb at h
  split at h
  ·cases h
  ·rcases List.mem_cons.1 h with rfl|h
   ·rw[List.length_take];omega
   ·have:=z6l h;omega
section
variable {own own1 own2 own3:Nat→Lab}{c i:Nat}{w w1 w2 w3 w':World}{p px py nt:Nat}{s s':XS}{y y':YS}
variable {R:Ending→World→Prop}
theorem ztb.lgok (h:ztb s y):zri y:=λb hb=>⟨h.lgn b hb,h.lgb b (by rw[← h.lg];exact hb)⟩
theorem ztb.synced (h:ztb s y):ztb (synced s) (zyn y):=
 ⟨h.now,h.begun,λn=>h.txs n,h.nopen,h.mom,h.ver,h.nv,h.nm,h.hor,h.lgl,h.lgb,Nat.le_refl _,h.nob,h.lg,by show ((bytesOf (zm y.lg):Nat):Int)=((bytesOf (zm s.log.lg):Nat):Int);rw[h.lg],h.lgn⟩
theorem YI.synced (h:YI y):YI (zyn y):=⟨h.now,h.len,h.ver,h.up,h.txs,h.opn,h.hor,h.pin,h.bku,h.lgv⟩
theorem ztb.small (h:ztb s y)(hi:YI y):y.lg.length≤5000:=by
 have h1:=h.lgl
 have h2:=hi.now
 have h3:=hi.hor
 rw[h.lg]
 omega
theorem z52 (hD:Duo own i w px py nt)(e a b:Int)(st tt:ByteArray)(vl vm:Value)
  (hK:∀w3 own3,Kp (Cap own i) w w3→(∀b,b<w.heap.size→own3 b=own b)→Duo own3 i w3 px py (nt+1)→R (.returned (.bool true)) w3) :
  Calls Tryz.prog 63 #[.pointer (some ⟨p,0,none⟩),zjb px py,zkb 16 e a b st tt vl vm] w R:=by
 obtain⟨s,y,hx,hy,ht,hi,hn⟩:=hD
 refine zgx w p px py e a b st tt vl vm ?_
 have hw:=zfd w px py 16 e a b st tt vl vm
 generalize zeb w px py 16 e a b st tt vl vm=w1 at hw ⊢
 have X0:=hx.box hw
 have Y0:=hy.box hw
 refine zs3 X0 (ht.ok hi) (λw2 k2 hs2 x2=>⟨rfl,low k2,?_⟩)
 have Y2:=Y0.past k2 (λ_ _=>rfl)
 refine zly Y2 hi (by omega) ht.lgok (λw3 k3 y3=>⟨rfl,?_⟩)
 exact fin hw k2 (λ_ _=>rfl) x2 k3 (λ_ _=>rfl) y3 ht.synced hi.synced (by show y.txs.length≤nt+1;omega) hK
variable {ds:List (Nat × Nat)}{vL vP vK:Value}{bk:BO}
theorem zfz (h:Inv own w p ds vL vP vK bk nt)(hi:i<ds.length)(hnt:nt<1000000)(e a b:Int)(st tt:ByteArray)(vl vm:Value)
  (hK:∀w' own' bk',Kp (λb=>own b≠zt) w w'→(∀b,b<w.heap.size→own' b=own b)→Inv own' w' p ds vL vP vK bk' (nt+1)→R (.returned (.bool true)) w') :
  Calls Tryz.prog 63 #[.pointer (some ⟨p,0,none⟩),zjb (ds[i]).1 (ds[i]).2,zkb 15 e a b st tt vl vm] w R:=by
 obtain⟨s,y,hx,hy,ht,hI,hn⟩:=h.duos i hi
 refine zbv w p _ _ e a b st tt vl vm ?_
 have hw:=zfd w (ds[i]).1 (ds[i]).2 15 e a b st tt vl vm
 generalize zeb w (ds[i]).1 (ds[i]).2 15 e a b st tt vl vm=w1 at hw ⊢
 have X0:=hx.box hw
 obtain⟨vL',vT,vG,sv,lg,Y,hl,hg⟩:=hy.box hw
 obtain⟨f1,f2,f3⟩:=zmg (ht.small hI) ht.lgok
 refine zw2 X0 (ht.ok hI) (λv lv w2 hf k2=>⟨v,vG,rfl,kpF k2,zg (Y.kept k2).store 4,?_⟩)
 refine zuq vG y.lg w2 ((hg.lgIn Y.rowG).kept k2) (ht.small hI) ht.lgok (λv' lv' w3 hf' k3=>⟨v',rfl,?_⟩)
 rw[← ht.lg]at hf
 exact zvt h hnt ((hw.trans k2 (λ_ _ h=>h)).trans k3 (λ_ _ h=>h)) v v' (zm y.lg) lv f3 (λf hf=>by have:=zap hf;omega) ((hf.kept k3).mono hw.size) hf'.rdL hK
theorem zez (h:Inv own w p ds vL vP vK bk nt)(hi:i<ds.length)(hnt:nt<1000000)(e a b:Int)(ha:-9223372036854775808≤a∧a≤9223372036854775807)(st tt:ByteArray)(vl vm:Value)
  (hK:∀w' own' bk',Kp (λb=>own b≠zt) w w'→(∀b,b<w.heap.size→own' b=own b)→Inv own' w' p ds vL vP vK bk' (nt+1)→R (.returned (.bool true)) w') :
  Calls Tryz.prog 63 #[.pointer (some ⟨p,0,none⟩),zjb (ds[i]).1 (ds[i]).2,zkb 17 e a b st tt vl vm] w R:=by
 obtain⟨s,y,hx,hy,ht,hI,hn⟩:=h.duos i hi
 refine zav w p _ _ e a b st tt vl vm ?_
 have hw:=zfd w (ds[i]).1 (ds[i]).2 17 e a b st tt vl vm
 generalize zeb w (ds[i]).1 (ds[i]).2 17 e a b st tt vl vm=w1 at hw ⊢
 have X0:=hx.box hw
 obtain⟨vL',vT,vG,sv,lg,Y,hl,hg⟩:=hy.box hw
 obtain⟨f1,f2,f3⟩:=zmg (ht.small hI) ht.lgok
 refine zv2 X0 (ht.ok hI) a ha (λv lv w2 hf k2=>⟨v,rfl,kpF k2,?_⟩)
 have hsy:s.log.sy≤bytesOf (zm y.lg):=by rw[ht.lg];exact ht.sy
 refine ziw _ _ _ vG y.lg s.log.sy a w2 (Y.kept k2).store rfl (by rw[← ht.syn];rfl) ((hg.lgIn Y.rowG).kept k2) (ht.small hI) ht.lgok hsy ha (λv' lv' w3 hf' k3=>⟨v',rfl,?_⟩)
 rw[← ht.lg]at hf
 have hfl:=zde (zm y.lg) (zie s.log.sy (bytesOf (zm y.lg)) a)
 exact zvt h hnt ((hw.trans k2 (λ_ _ h=>h)).trans k3 (λ_ _ h=>h)) v v' _ lv (by omega) (λf hf=>by have:=z6l hf;omega) ((hf.kept k3).mono hw.size) hf'.rdL hK
end
end
section
open Go.RowKit Go.Maps Go.Lib
theorem Kp.setRow {S:Nat→Prop}(w:World)(g:Nat)(cs:Array Value)(hs:S g):Kp S w (w.setRow g cs):=
 ⟨rfl,rfl,rfl,by simp[World.setRow],λk _ hn=>setRow_other w g k cs (λe=>hn (by rw[e];exact hs))⟩
theorem zxt:(Tryz.prog.info? 5).map (·.size)=some 1:=by kernel_rfl
theorem z9r {ops:Array Oper}{rest:List Oper}{o:Oper}{a:Act}{Q:Exit→Act→World→Prop}{w:World}(hgd:o.guard=none)(d s:Operand)
  (ho:o.op = .call { callee:=.builtin .copy,args:=#[d,s],argTypes:=#[48,48] }) (g n dCap:Nat) (xv:Value) (bs:List UInt8) (hd:a.eval d = .slice (some ⟨g,0,none⟩) n dCap) (hs:a.eval s=xv) (hr:RdB w xv bs) (hl:bs.length≤n)
  (cur:List Value) (hg:w.heap[g]?=some (.cells cur.toArray 5 (0,0))) (hc:cur.length=n)
  (h:∀w',w'.heap[g]?=some (.cells (bs.map b8++cur.drop bs.length).toArray 5 (0,0))→Kp (λb=>b=g) w w'→wpList Tryz.prog ops Q rest (a.put o.dst (goInt bs.length)) w') :
  wpList Tryz.prog ops Q (o::rest) a w:=by
 by_cases h0:bs=[]
 ·subst h0
  obtain⟨q,cap,e,_⟩:=hr
  refine wpList_copy_nothing hgd d s 48 48 ho 5 Tryz.underlying48 zxt (some ⟨g,0,none⟩) q n dCap 0 cap hd (hs.trans e) (by simp) ?_
  exact h w (by simpa using hg) (Kp.refl _ _)
 ·obtain⟨g2,o2,cap,e,hc2⟩:=hr.form h0
  refine wpList_copy_own hgd d s 48 48 ho 5 Tryz.underlying48 zxt g 0 n dCap ⟨g2,o2,none⟩ bs.length cap hd (hs.trans e) cur.toArray 5 hg (bs.map b8) (by rw[List.length_map];exact (Nat.min_eq_left hl).symm) hc2 (by simp;omega) (ziq _) ?_
  have e2:(bs.map b8).length=bs.length:=by simp
  rw[e2]
  refine h _ ?_ (Kp.setRow w g _ rfl)
  rw[setRow_heap w g _ _ _ _ hg]
  simp
def z4e (f:List UInt8):Array Value:=(f.map b8++List.replicate 8 (b8 77)).toArray
structure z2i (w:World)(base:Nat)(fs:List (List UInt8))(X O i:Nat)(va:Value)(al ol:List Value):Prop where
 blk:w.heap[X]?=some (.cells #[va,.slice none 0 0] 246 (0,0))
 rowA:w.ownsRow base 48 1 va i al
 at_:∀(j:Nat) u f,al[j]?=some u→fs[j]?=some f→∃g,u = .slice (some ⟨g,0,none⟩) (f.length+8) (f.length+8)∧base≤g∧w.heap[g]?=some (.cells (z4e f) 5 (0,0))
 rowO:w.heap[O]?=some (.cells ol.toArray 48 (0,0))
 lenO:ol.length=fs.length+2
 outs:∀(j:Nat) f,j<i→fs[j]?=some f→(ol[j]?=some (.slice none 0 0)∧f=[])∨∃g,al[j]?=some (.slice (some ⟨g,0,none⟩) (f.length+8) (f.length+8))∧ol[j]?=some (.slice (some ⟨g,0,none⟩) f.length (f.length+8))
 nils:∀j,i≤j→j<fs.length+2→ol[j]?=some (.slice none 0 0)
 low:base≤X∧base≤O∧X≠O
 vaO:va.ownBlock≠some O
theorem zpz (n:Nat):(madeCells #[Value.int .u8 0] n).toList.length=n:=by simp[madeCells]
section
variable {R:Ending→World→Prop}{w:World}
theorem z2i.more {w w2 w3:World}{base:Nat}{fs:List (List UInt8)}{X O i g:Nat}{va va':Value}{al ol:List Value}{f:List UInt8}(h:z2i w base fs X O i va al ol)(hg:w.heap.size≤g)(hbs:base≤w.heap.size)(hf:fs[i]?=some f)
  (k2:Kp (λb=>b=g) w w2) (hb:w2.heap[g]?=some (.cells (z4e f) 5 (0,0)))
  (k3:Kp (λb=>va.ownBlock=some b) w2 w3) (r3:w3.ownsRow base 48 1 va' (i+1) (al++[.slice (some ⟨g,0,none⟩) (f.length+8) (f.length+8)])) (hloc:va'.ownBlock=va.ownBlock∨∃b,va'.ownBlock=some b∧w2.heap.size≤b) :
  (f=[]→z2i (w3.setCell ⟨X,0,none⟩ va') base fs X O (i+1) va' (al++[.slice (some ⟨g,0,none⟩) (f.length+8) (f.length+8)]) ol)∧
  z2i ((w3.setCell ⟨X,0,none⟩ va').setCell ⟨O,i,none⟩ (.slice (some ⟨g,0,none⟩) f.length (f.length+8))) base fs X O (i+1) va' (al++[.slice (some ⟨g,0,none⟩) (f.length+8) (f.length+8)]) (ol.set i (.slice (some ⟨g,0,none⟩) f.length (f.length+8))):=by
 have lX:=zh h.blk
 have lO:=zh h.rowO
 have hall:al.length=i:=by simpa using h.rowA.1
 have nXa:va.ownBlock≠some X:=zjd h.blk h.rowA (by decide)
 have la:∀b,va.ownBlock=some b→b<w.heap.size:=λb e=>(h.rowA.lt b e).2
 have s2:=k2.size
 have s3:=k3.size
 have bX3:w3.heap[X]?=_:=(k3.block X (by omega) nXa).trans ((k2.block X lX (by omega)).trans h.blk)
 have bO3:w3.heap[O]?=_:=(k3.block O (by omega) h.vaO).trans ((k2.block O lO (by omega)).trans h.rowO)
 have bg3:w3.heap[g]?=_:=(k3.block g (zh hb) (λe=>by have:=la g e;omega)).trans hb
 have nXa':va'.ownBlock≠some X:=zjd bX3 r3 (by decide)
 have vaO':va'.ownBlock≠some O:=λe=>by
  rcases hloc with h1|⟨b,h1,h2⟩
  ·rw[h1]at e;exact h.vaO e
  ·rw[h1]at e;injection e with e;omega
 have kX:=Kp.setCell (S:=λb=>b=X) w3 ⟨X,0,none⟩ va' rfl
 have bX4:(w3.setCell ⟨X,0,none⟩ va').heap[X]?=some (.cells #[va',.slice none 0 0] 246 (0,0)):=by rw[zq bX3];rfl
 have bO4:=(kX.block O (zh bO3) (λe=>h.low.2.2 e.symm)).trans bO3
 have rA4:=zi r3 kX (λb e (e2:b=X)=>nXa' (by rw[← e2];exact e))
 have at4:∀(j:Nat) u f',(al++[Value.slice (some ⟨g,0,none⟩) (f.length+8) (f.length+8)])[j]?=some u→fs[j]?=some f'→∃g,u = .slice (some ⟨g,0,none⟩) (f'.length+8) (f'.length+8)∧base≤g∧g≠O∧(w3.setCell ⟨X,0,none⟩ va').heap[g]?=some (.cells (z4e f') 5 (0,0)):=λj u f' hu hf'=>by
  by_cases hj:j<al.length
  ·rw[List.getElem?_append_left hj]at hu
   obtain⟨g1,a1,a2,a3⟩:=h.at_ j u f' hu hf'
   have l1:=zh a3
   have n1:g1≠X:=λe=>by rw[e,h.blk]at a3;injection a3 with a3;injection a3 with _ a3;cases a3
   have n2:g1≠O:=λe=>by rw[e,h.rowO]at a3;injection a3 with a3;injection a3 with _ a3;cases a3
   refine⟨g1,a1,a2,n2,((kX.block g1 (by omega) n1).trans ((k3.block g1 (by omega) (λe=>?_)).trans (k2.block g1 l1 (by omega)))).trans a3⟩
   exact zjd a3 h.rowA (by decide) e
  ·have hj2:j=al.length:=by
    have:=(List.getElem?_eq_some_iff.1 hu).1
    simp at this
    omega
   subst hj2
   simp at hu
   rw[hall,hf]at hf'
   injection hf' with hf'
   subst hf' hu
   have n1:g≠X:=by omega
   exact⟨g,rfl,by omega,by omega,(kX.block g (zh bg3) n1).trans bg3⟩
 have fst:∀(j:Nat),j<i→(al++[Value.slice (some ⟨g,0,none⟩) (f.length+8) (f.length+8)])[j]?=al[j]?:=λj hj=>List.getElem?_append_left (by omega)
 have last:(al++[Value.slice (some ⟨g,0,none⟩) (f.length+8) (f.length+8)])[i]?=some (.slice (some ⟨g,0,none⟩) (f.length+8) (f.length+8)):=by rw[← hall];simp
 have hil:i<fs.length:=(List.getElem?_eq_some_iff.1 hf).1
 refine⟨λh0=>⟨bX4,rA4,λj u f' hu hf'=>?_,bO4,h.lenO,λj f' hj hf'=>?_,λj h1 h2=>h.nils j (by omega) h2,h.low,vaO'⟩,?_⟩
 ·obtain⟨g1,a1,a2,_,a3⟩:=at4 j u f' hu hf'
  exact⟨g1,a1,a2,a3⟩
 ·by_cases hji:j<i
  ·rw[fst j hji]
   exact h.outs j f' hji hf'
  ·have:j=i:=by omega
   subst this
   rw[hf]at hf'
   injection hf' with hf'
   subst hf'
   exact Or.inl ⟨h.nils j (Nat.le_refl _) (by omega),h0⟩
 ·have kO:=Kp.setCell (S:=λb=>b=O) (w3.setCell ⟨X,0,none⟩ va') ⟨O,i,none⟩ (.slice (some ⟨g,0,none⟩) f.length (f.length+8)) rfl
  refine⟨(kO.block X (zh bX4) h.low.2.2).trans bX4,zi rA4 kO (λb e (e2:b=O)=>vaO' (by rw[← e2];exact e)),λj u f' hu hf'=>?_,?_,by rw[List.length_set];exact h.lenO,λj f' hj hf'=>?_,λj h1 h2=>?_,h.low,vaO'⟩
  ·obtain⟨g1,a1,a2,n2,a3⟩:=at4 j u f' hu hf'
   exact⟨g1,a1,a2,(kO.block g1 (zh a3) n2).trans a3⟩
  ·rw[zq bO4]
   simp
  ·by_cases hji:j<i
   ·rw[fst j hji,List.getElem?_set_ne (by omega)]
    exact h.outs j f' hji hf'
   ·have:j=i:=by omega
    subst this
    rw[hf]at hf'
    injection hf' with hf'
    subst hf'
    refine Or.inr ⟨g,last,?_⟩
    rw[List.getElem?_set_self (by rw[h.lenO];omega)]
  ·rw[List.getElem?_set_ne (by omega)]
   exact h.nils j (by omega) h2
end
end
end Go.Proofs.YthbdpfccfcceiaaGreatDoor
