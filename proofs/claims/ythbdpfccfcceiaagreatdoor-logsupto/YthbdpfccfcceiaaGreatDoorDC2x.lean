/-
  Of the proof of logsUpto_card.
-/
import Derived.Test.YthbdpfccfcceiaaGreatDoorLA6x
import Derived.Test.YthbdpfccfcceiaaGreatDoorG6
namespace Go.Proofs.YthbdpfccfcceiaaGreatDoor
section
def zyi (y:YS)(rs:List Rc):YS:=rs.foldl didY y
theorem z3y (y:YS)(r:Rc):(didY y r).hor=znm y.hor r:=by
 unfold didY znm
 split<;>rfl
theorem z4y (y:YS)(r:Rc):(didY y r).now=zhk y.now r:=by
 unfold didY zhk
 split<;>rfl
theorem zko (t:Nat)(ht:t<4294967296):z4d (zxb t) 72 t []:=by
 have h1:=RS.one_cons 72 (fourB t++[])
 have h2:=RS.four_app t ht []
 have e:zxb t=72::(fourB t++[]):=by simp[zxb]
 refine Or.inl ⟨rfl,?_⟩
 unfold zw
 rw[e,h1]
 dsimp only
 rw[h2]
 exact⟨rfl,rfl,rfl,rfl⟩
theorem zhw {b:List UInt8}{k t:Nat}{ws:List W3}(hb:b.length≤400)(hr:z4d b k t ws)(r:List UInt8):zfc (zqb b++r) k t ws r:=by
 have hu:=zmj (u8 b.length::u8 (b.length / 256)::b) r
 rw[show (u8 b.length::u8 (b.length / 256)::b).length=2+b.length by simp;omega]at hu
 refine⟨by rw[List.length_append,zzd];omega,u8 b.length::u8 (b.length / 256)::b,?_,hr⟩
 rw[zrn _ hb]
 exact hu
theorem z32 {r:Rc}(h:zeu r)(ht:r.t<4294967296)(q:List UInt8):zfc (zqb (zqf r)++q) r.k r.t r.ws q:=by
 obtain⟨k,t,ws⟩:=r
 rcases h with ⟨h1,h2⟩|⟨h1,h2⟩
 ·have h1:k=72:=h1
  have h2:ws=[]:=h2
  subst h1 h2
  exact zhw (b:=zxb t) (by rw[z6e];omega) (zko t ht) q
 ·have h1:k=67:=h1
  subst h1
  exact ztq (t:=t) (ws:=ws) h2 ht q
theorem zi3 {h n:Int}{r:Rc}(hm:ztg h n r)(hn:n≤2000):(r.t:Int)≤2000∧zhk n r≤2000:=by
 unfold zhk
 rcases hm with ⟨h1,h2,h3⟩|⟨h1,h2,h3⟩
 ·rw[if_pos h1];omega
 ·rw[if_neg h1];omega
theorem zlj:∀{L:List Rc} {h n h' n':Int} {y:YS},zcg L h n h' n'→y.hor=h→y.now=n→n≤2000→zvf ((L.map zqf).flatMap zqb) y L [] (zyi y L)∧(zyi y L).hor=h'∧(zyi y L).now=n'∧n'≤2000
 |[],_,_,_,_,_,⟨e1,e2⟩,h1,h2,h3=>by
  subst e1 e2
  exact⟨⟨rfl,rfl⟩,h1,h2,h3⟩
 |r::L,h,n,h',n',y,⟨c1,c2,c3⟩,h1,h2,h3=>by
  obtain⟨m1,m2⟩:=zi3 c2 h3
  obtain⟨a,b⟩:=zlj (y:=didY y r) c3 (by rw[z3y,h1]) (by rw[z4y,h2]) m2
  refine⟨⟨_,?_,by rw[h1,h2];exact c2,a⟩,b⟩
  rw[List.map_cons,List.flatMap_cons]
  exact z32 c1 (by omega) _
theorem zcg.split:∀{A B:List Rc} {h n h' n':Int},zcg (A++B) h n h' n'→∃h1 n1,zcg A h n h1 n1∧zcg B h1 n1 h' n'
 |[],_,h,n,_,_,hc=>⟨h,n,⟨rfl,rfl⟩,hc⟩
 |_::_,_,_,_,_,_,⟨c1,c2,c3⟩=>by
  obtain⟨h1,n1,a,b⟩:=c3.split
  exact⟨h1,n1,⟨c1,c2,a⟩,b⟩
theorem zvy {i:Nat}(hi:i<4294967296)(r:List UInt8):z6d (zoc i++r)=some i:=by
 have hu:=zmj ([80,76,49]++fourB i) r
 rw[show (([80,76,49]:List UInt8)++fourB i).length=7 from rfl]at hu
 unfold z6d
 rw[show zoc i=z8c ([80,76,49]++fourB i) from rfl,hu]
 dsimp only
 rw[if_pos (by rfl)]
 congr 1
 exact znh i hi
theorem zfp {L:List Rc}{h n h' n':Int}{y:YS}{i:Nat}(hc:zcg L h n h' n')(h1:y.hor=h)(h2:y.now=n)(h3:n≤2000)(hL:L.length=4)(hi:i<4294967296):zxd (zoc i++(L.map zqf).flatMap zqb) i y (zyi y L) true:=by
 refine Or.inr ⟨zvy hi _,L,[],?_,by omega,λh=>by omega,by simp[hL]⟩
 rw[List.drop_append_of_le_length (by rw[ztd];omega),List.drop_eq_nil_of_le (by rw[ztd];omega),List.nil_append]
 exact (zlj hc h1 h2 h3).1
theorem zct (y:YS)(A B:List Rc):zyi y (A++B)=zyi (zyi y A) B:=by simp[zyi]
theorem zep {rs:List Rc}{h n:Int}(hc:zcg rs 0 0 h n):∀q,4*q≤rs.length→q<4294967296→zad ((List.range q).map (zkd (rs.map zqf))) 0 zjc (zyi zjc (rs.take (4*q)))∧∃h1 n1,zcg (rs.drop (4*q)) h1 n1 h n∧(zyi zjc (rs.take (4*q))).hor=h1∧(zyi zjc (rs.take (4*q))).now=n1∧n1≤2000
 |0,_,_=>⟨rfl,0,0,by simpa using hc,rfl,rfl,by omega⟩
 |q+1,hq,hq2=>by
  obtain⟨a,h1,n1,b,b1,b2,b3⟩:=zep hc q (by omega) (by omega)
  have e:rs.drop (4*q)=(rs.drop (4*q)).take 4++rs.drop (4*(q+1)):=by
   rw[show 4*(q+1)=4*q+4 by omega,← List.drop_drop,List.take_append_drop]
  rw[e]at b
  obtain⟨h2,n2,b4,b5⟩:=b.split
  have e2:rs.take (4*(q+1))=rs.take (4*q)++(rs.drop (4*q)).take 4:=by
   rw[show 4*(q+1)=4*q+4 by omega,List.take_add]
  have hl:((rs.drop (4*q)).take 4).length=4:=by rw[List.length_take,List.length_drop];omega
  have hf:=zfp (i:=q) b4 b1 b2 b3 hl (by omega)
  obtain⟨_,c1,c2,c3⟩:=zlj b4 b1 b2 b3
  rw[← zct,← e2]at hf c1 c2
  refine⟨?_,h2,n2,b5,c1,c2,c3⟩
  rw[List.range_succ,List.map_append]
  refine a.snoc ?_
  rw[List.length_map,List.length_range,Nat.zero_add]
  show zxd (zkd (rs.map zqf) q) q _ _ true
  unfold zkd
  rw[← List.map_drop,← List.map_take]
  exact hf
theorem zin {lg:List (List UInt8)}{m j:Nat}(hj:j+1<(zgb (zm lg) m).length):4*j+4<lg.length∧(zgb (zm lg) m)[j]?=some (zkd lg j):=by
 obtain⟨f1,a1,a2,_⟩:=z9i _ _ _ _ (List.getElem?_eq_getElem hj)
 have q1:=(List.getElem?_eq_some_iff.1 a1).1
 rw[z4c]at q1
 have h0:=List.getElem?_eq_getElem (l:=zgb (zm lg) m) (i:=j) (by omega)
 obtain⟨f0,b1,b2,b3⟩:=z9i _ _ _ _ h0
 rw[z6i lg j (by omega)]at b1
 injection b1 with b1
 subst b1
 refine⟨by omega,?_⟩
 rw[h0,b3,List.take_of_length_le]
 have e:(zm lg).take (j+1)=(zm lg).take j++[zkd lg j]:=zpi (z6i lg j (by omega))
 rw[e,zbe]at a2
 have:bytesOf [zkd lg j]=(zkd lg j).length:=by simp[bytesOf]
 omega
theorem zrx {lg:List (List UInt8)}{h n:Int}(hv:LgV lg h n)(hl:lg.length<1000000)(m:Nat):¬zhh (zgb (zm lg) m) zjc:=by
 rintro⟨i,f,y1,y2,hi,hlt,hr,hf⟩
 obtain⟨rs,rfl,hc⟩:=hv
 have hrl:rs.length<1000000:=by simpa using hl
 obtain⟨c1,c2⟩:=zin hlt
 rw[hi]at c2
 injection c2 with c2
 subst c2
 have c1':4*i+4<rs.length:=by simpa using c1
 have e:(zgb (zm (rs.map zqf)) m).take i=(List.range i).map (zkd (rs.map zqf)):=by
  apply List.ext_getElem?
  intro j
  rw[List.getElem?_take]
  by_cases hj:j<i
  ·rw[if_pos hj,(zin (m:=m) (lg:=rs.map zqf) (j:=j) (by omega)).2,List.getElem?_map,List.getElem?_range hj]
   rfl
  ·rw[if_neg hj,List.getElem?_eq_none]
   simp;omega
 rw[e]at hr
 obtain⟨a,h1,n1,b,b1,b2,b3⟩:=zep hc i (by omega) (by omega)
 have e1:=hr.uniq a
 subst e1
 have e3:rs.drop (4*i)=(rs.drop (4*i)).take 4++rs.drop (4*(i+1)):=by
  rw[show 4*(i+1)=4*i+4 by omega,← List.drop_drop,List.take_append_drop]
 rw[e3]at b
 obtain⟨h2,n2,b4,b5⟩:=b.split
 have hl4:((rs.drop (4*i)).take 4).length=4:=by rw[List.length_take,List.length_drop];omega
 have hf2:=zfp (i:=i) b4 b1 b2 b3 hl4 (by omega)
 unfold zkd at hf
 rw[← List.map_drop,← List.map_take]at hf
 have:=(hf.uniq hf2).2
 cases this
end
section
open Go.RowKit
section
variable {R:Ending→World→Prop}
set_option maxRecDepth 20000 in
set_option maxHeartbeats 2000000 in
theorem zc2 (w:World)(p:Nat)(e a b:Int)(st tt:ByteArray)(vl vm:Value)
  (hC:∀w2,Kp (λ_=>False) w w2→Calls Tryz.prog 57 #[.pointer (some ⟨p,0,none⟩),vl] w2 (λr w'=>r = .returned (.bool true)∧R (.returned (.bool true)) w')) :
  Calls Tryz.prog 31 #[.pointer (some ⟨p,0,none⟩),.agg #[.int .i64 18,.int .i64 e,.int .i64 a,.int .i64 b,.string st,.string tt,vl,vm]] w R:=by
 have HC:=ze hC
 clear hC
 go_enter Tryz.func31,Tryz.ntmps31
 go_wp2_with (first
  |(go_at_call 57;refine (HC.out _ (Kp.alloc _ _ _)).mono ?_;rintro r w'' ⟨rfl,hr⟩)
  |fail)
 exact hr
end
end
section
open Go.RowKit Go.Maps Go.Lib
theorem zo1 {lg:List (List UInt8)}(h:∀b∈lg,b.length≤400)(i:Nat):(zkd lg i).length≤1635:=by
 unfold zkd
 rw[List.length_append,ztd]
 have key:∀l:List (List UInt8),(∀b∈l,b.length≤400)→(l.flatMap zqb).length≤l.length*406:=by
  intro l
  induction l with
  |nil=>intro _;simp
  |cons b r ih=>
   intro h
   have h1:=ih (λx hx=>h x (by simp[hx]))
   have h2:=h b (by simp)
   have h3:=zzd b
   simp only[List.flatMap_cons,List.length_append,List.length_cons]
   omega
 have h1:=key ((lg.drop (4*i)).take 4) (λb hb=>h b (List.mem_of_mem_drop (List.mem_of_mem_take hb)))
 have h2:((lg.drop (4*i)).take 4).length≤4:=List.length_take_le _ _
 omega
theorem zaz {lg:List (List UInt8)}(h:∀b∈lg,b.length≤400){n:Nat}{f:List UInt8}(hf:f∈zgb (zm lg) n):f.length≤1635:=by
 obtain⟨q,hq⟩:=List.getElem?_of_mem hf
 obtain⟨f0,h1,_,rfl⟩:=z9i _ _ _ _ hq
 have hl:=(List.getElem?_eq_some_iff.1 h1).1
 rw[z4c]at hl
 rw[z6i lg q (by omega)]at h1
 injection h1 with h1
 subst h1
 have:=zo1 h q
 rw[List.length_take]
 omega
theorem z1q:∀{fs:List (List UInt8)} {n:Nat},(∀f∈fs,f≠[])→∀f∈zgb fs n,f≠[]
 |[],_,_,f,hf=>by simp[zgb]at hf
 |g::r,n,h,f,hf=>by
  unfold zgb at hf
  split at hf
  ·cases hf
  ·rcases List.mem_cons.1 hf with rfl|hf
   ·have:=h g (by simp)
    cases g with
    |nil=>exact absurd rfl this
    |cons x z=>
     cases n with
     |zero=>omega
     |succ m=>simp
   ·exact z1q (λx hx=>h x (List.mem_cons_of_mem _ hx)) f hf
theorem z5l:∀(fs:List (List UInt8)) (n:Nat),bytesOf (zgb fs n)≤bytesOf fs
 |[],_=>by simp[zgb]
 |g::r,n=>by
  unfold zgb
  split
  ·simp[bytesOf]
  ·rw[z2c,z2c,List.length_take]
   have:=z5l r (n-g.length)
   omega
theorem z9y (lg:List (List UInt8)):∀f∈zm lg,f≠[]:=λf hf e=>by
 obtain⟨q,hq⟩:=List.getElem?_of_mem hf
 have hl:=(List.getElem?_eq_some_iff.1 hq).1
 rw[z4c]at hl
 rw[z6i lg q (by omega)]at hq
 injection hq with hq
 have h1:(zkd lg q).length=0:=by rw[hq,e];rfl
 unfold zkd at h1
 rw[List.length_append,ztd]at h1
 omega
theorem zhf.fin {base:Nat}{w:World}{v:Value}{fs:List (List UInt8)}{lv:List Value}(h:zhf base w v fs lv)(hl:fs.length≤1100000)(hs:∀f∈fs,f.length≤1100000):FIn w v fs (λb=>b<w.heap.size):=by
 obtain⟨a,cap,e⟩:=zp h.row
 refine⟨a,cap,e,hl,λhne=>?_⟩
 obtain⟨g,cap2,cur,e2,hg,_⟩:=zib h.row (List.length_pos_iff.2 hne)
 have hlt:=zh hg
 rw[e]at e2
 injection e2 with e2 _ _
 subst e2
 refine⟨g,0,rfl,hlt,hlt,λi f hf=>?_⟩
 have hi:i<lv.length:=by rw[h.len];exact (List.getElem?_eq_some_iff.1 hf).1
 have hu:=List.getElem?_eq_getElem hi
 obtain⟨g1,hr,_,hg1,_,b,n,c,e3⟩:=h.at_ i _ f hu hf
 have hc:=World.ownsRow.cells h.row (g:=g) (by rw[e];rfl) i _ hu
 rw[zub]at hc
 rw[e3]at hc hr
 exact⟨b,n,c,g1,hc,hr,hg1,hs f (List.mem_of_getElem? hf)⟩
def z4i (kind b:Int)(ds ds':List (Nat × Nat)):Prop:=
 (kind=1→ds'.length=ds.length+1)∧(kind=19→z0b b 4≠0→ds'.length=ds.length+1)∧(kind≠1→kind≠18→kind≠19→ds'.length=ds.length)∧ds.length≤ds'.length
section
variable {own:Nat→Lab}{i:Nat}{w:World}{p nt:Nat}{ds:List (Nat × Nat)}{vL vP vK:Value}{bk:BO}
variable {R:Ending→World→Prop}
theorem zs1 (h:Inv own w p ds vL vP vK bk nt)(hi:i<ds.length)(e a b:Int)(st tt:ByteArray)(vl vm:Value)
  (hK:∀w' own',Kp (λb=>own b≠zt) w w'→(∀b,b<w.heap.size→own' b=own b)→Inv own' w' p ds vL vP vK bk (nt+1)→R (.returned (.bool true)) w') :
  Calls Tryz.prog 63 #[.pointer (some ⟨p,0,none⟩),zjb (ds[i]).1 (ds[i]).2,zkb 16 e a b st tt vl vm] w R:=
 z52 (h.duos i hi) e a b st tt vl vm (λw3 own3 k a d=>hK w3 own3 (k.mono (λ_ _ e=>zkm e)) a (h.touch hi k a d))
theorem zr1 (h:Inv own w p ds vL vP vK bk nt)(hi:i<ds.length)(hnt:nt<1000000)(e a b:Int)(ha:-9223372036854775808≤a∧a≤9223372036854775807)(hb:-9223372036854775808≤b∧b≤9223372036854775807)(st tt:ByteArray)(vl vm:Value)
  (hK:∀w' own' ds' vL',Kp (λb=>own b≠zt) w w'→(∀b,b<w.heap.size→own' b=own b)→((ds'=ds∧z0b b 4=0)∨∃q,ds'=ds++[q])→Inv own' w' p ds' vL' vP vK bk (nt+1)→R (.returned (.bool true)) w') :
  Calls Tryz.prog 63 #[.pointer (some ⟨p,0,none⟩),zjb (ds[i]).1 (ds[i]).2,zkb 19 e a b st tt vl vm] w R:=by
 obtain⟨s,y,hx,hy,ht,hI,hn⟩:=h.duos i hi
 refine zex w p _ _ e a b hb st tt vl vm ?_
 have hw:=zfd w (ds[i]).1 (ds[i]).2 19 e a b st tt vl vm
 generalize zeb w (ds[i]).1 (ds[i]).2 19 e a b st tt vl vm=w1 at hw ⊢
 obtain⟨vL',vT,vG,sv,lg,Y,hl,hg⟩:=hy.box hw
 obtain⟨f1,f2,f3⟩:=zmg (ht.small hI) ht.lgok
 have hsy:s.log.sy≤bytesOf (zm y.lg):=by rw[ht.lg];exact ht.sy
 refine ziw _ _ _ vG y.lg s.log.sy a w1 Y.store rfl (by rw[← ht.syn];rfl) (hg.lgIn Y.rowG) (ht.small hI) ht.lgok hsy ha (λv' lv' w2 hf' k2=>⟨v',rfl,kpF k2,?_⟩)
 have k02:=hw.trans k2 (λ_ _ h=>h)
 have hfl:=zde (zm y.lg) (zie s.log.sy (bytesOf (zm y.lg)) a)
 have hfb:=z5l (zm y.lg) (zie s.log.sy (bytesOf (zm y.lg)) a)
 have hsm:∀f∈zgb (zm y.lg) (zie s.log.sy (bytesOf (zm y.lg)) a),f.length≤1100000:=λf hf=>by
  have:=zaz (λb hb=>(ht.lgok b hb).2) hf
  omega
 have hne:∀f∈zgb (zm y.lg) (zie s.log.sy (bytesOf (zm y.lg)) a),f≠[]:=z1q (z9y _)
 have hnd:=zrx hI.lgv (by have:=ht.small hI;omega) (zie s.log.sy (bytesOf (zm y.lg)) a)
 generalize zgb (zm y.lg) (zie s.log.sy (bytesOf (zm y.lg)) a)=fs at hf' hfl hfb hsm hne hnd
 have h0:0<w2.heap.size:=Nat.lt_of_lt_of_le (Nat.lt_of_le_of_lt (Nat.zero_le _) (zh h.book.world)) k02.size
 have hfin:=hf'.fin (by omega) hsm
 have I2:=h.same k02 (λ_ _=>rfl)
 have fin:∀w3,Kp (λ_=>False) w2 w3→∀w' own' ds' vL',Kp (λb=>own b≠zt) w3 w'→(∀b,b<w3.heap.size→own' b=own b)→((ds'=ds∧z0b b 4=0)∨∃q,ds'=ds++[q])→Inv own' w' p ds' vL' vP vK bk (nt+1)→R (.returned (.bool true)) w':=λw3 k3 w' own' ds' vL' k' a' hd I=>by
  have k03:=k02.trans k3 (λ_ _ h=>h)
  exact hK w' own' ds' vL' ((kpF k03).trans k' (λ_ _ h=>h)) (λb hb=>a' b (Nat.lt_of_lt_of_le hb k03.size)) hd I
 refine⟨zdk I2 hnt v' fs hfin (λw' own' ds' vL' k' a' hd I=>⟨rfl,fin w2 (Kp.refl _ _) w' own' ds' vL' k' a' (Or.inr ?_) I⟩),λx q hx=>zns v' fs hfin hne (by omega) h0 x hx (λw3 v3 fs3 hfin3 k3=>⟨v3,rfl,?_⟩)⟩
 ·exact hd.elim (λe=>absurd e.2 hnd) id
 ·exact zdk (I2.same k3 (λ_ _=>rfl)) hnt v3 fs3 hfin3 (λw' own' ds' vL' k' a' hd I=>⟨rfl,fin w3 k3 w' own' ds' vL' k' a' (hd.imp (λe=>⟨e.1,q⟩) id) I⟩)
theorem zmp (h:Inv own w p ds vL vP vK bk nt)(h0:0<ds.length)(hnt:nt<1000000)(kind e a b:Int)(hk:15≤kind∧kind≤19∧kind≠18)(he:-9223372036854775808≤e∧e≤9223372036854775807)(ha:-9223372036854775808≤a∧a≤9223372036854775807)(hb:-9223372036854775808≤b∧b≤9223372036854775807)(st tt:ByteArray)(vl vm:Value)
  (hK:∀w' own' ds' vL' bk',Kp (λb=>own b≠zt) w w'→(∀b,b<w.heap.size→own' b=own b)→z4i kind b ds ds'→(kind≠19→ds'=ds∧vL'=vL)→Inv own' w' p ds' vL' vP vK bk' (nt+1)→R (.returned (.bool true)) w') :
  Calls Tryz.prog 31 #[.pointer (some ⟨p,0,none⟩),.agg #[.int .i64 kind,.int .i64 e,.int .i64 a,.int .i64 b,.string st,.string tt,vl,vm]] w R:=by
 have K:∀w2,Kp (λ_=>False) w w2→∀w' own' ds' vL' bk',Kp (λb=>own b≠zt) w2 w'→(∀b,b<w2.heap.size→own' b=own b)→z4i kind b ds ds'→(kind≠19→ds'=ds∧vL'=vL)→Inv own' w' p ds' vL' vP vK bk' (nt+1)→R (.returned (.bool true)) w':=λw2 k w' own' ds' vL' bk' k' a' hd hs I=>
  hK w' own' ds' vL' bk' ((kpF k).trans k' (λ_ _ h=>h)) (λb hb=>a' b (Nat.lt_of_lt_of_le hb k.size)) hd hs I
 have same:kind≠19→z4i kind b ds ds:=λh=>⟨λh=>by omega,λh2=>absurd h2 h,λ_ _ _=>rfl,Nat.le_refl _⟩
 rcases (by omega:kind=15∨kind=16∨kind=17∨kind=19) with rfl|rfl|rfl|rfl
 ·exact zul h h0 hnt 15 e a b (by omega) he st tt vl vm (λw2 i hi k=>zfz (h.same k (λ_ _=>rfl)) hi hnt e a b st tt vl vm (λw' own' bk' k' a' I=>⟨rfl,K w2 k w' own' ds vL bk' k' a' (same (by omega)) (λ_=>⟨rfl,rfl⟩) I⟩))
 ·exact zul h h0 hnt 16 e a b (by omega) he st tt vl vm (λw2 i hi k=>zs1 (h.same k (λ_ _=>rfl)) hi e a b st tt vl vm (λw' own' k' a' I=>⟨rfl,K w2 k w' own' ds vL bk k' a' (same (by omega)) (λ_=>⟨rfl,rfl⟩) I⟩))
 ·exact zul h h0 hnt 17 e a b (by omega) he st tt vl vm (λw2 i hi k=>zez (h.same k (λ_ _=>rfl)) hi hnt e a b ha st tt vl vm (λw' own' bk' k' a' I=>⟨rfl,K w2 k w' own' ds vL bk' k' a' (same (by omega)) (λ_=>⟨rfl,rfl⟩) I⟩))
 ·exact zul h h0 hnt 19 e a b (by omega) he st tt vl vm (λw2 i hi k=>zr1 (h.same k (λ_ _=>rfl)) hi hnt e a b ha hb st tt vl vm (λw' own' ds' vL' k' a' hd I=>⟨rfl,K w2 k w' own' ds' vL' bk k' a' ⟨λh=>by omega,λ_ hp=>by
   rcases hd with ⟨_,h1⟩|⟨q,rfl⟩
   ·exact absurd h1 hp
   ·simp,λ_ _ h=>absurd rfl h,by
   rcases hd with ⟨rfl,_⟩|⟨q,rfl⟩
   ·exact Nat.le_refl _
   ·simp⟩ (λh=>absurd rfl h) I⟩))
theorem zyr (h:Inv own w p ds vL vP vK bk nt)(hnt:nt<1000000)(e a b:Int)(st tt:ByteArray)(vl vm:Value)(fs:List (List UInt8))(hv:FIn w vl fs (λb=>b<w.heap.size))
  (hK:∀w' own' ds' vL',Kp (λb=>own b≠zt) w w'→(∀b,b<w.heap.size→own' b=own b)→z4i 18 b ds ds'→Inv own' w' p ds' vL' vP vK bk (nt+1)→R (.returned (.bool true)) w') :
  Calls Tryz.prog 31 #[.pointer (some ⟨p,0,none⟩),.agg #[.int .i64 18,.int .i64 e,.int .i64 a,.int .i64 b,.string st,.string tt,vl,vm]] w R:=by
 refine zc2 w p e a b st tt vl vm (λw2 k=>zdk (h.same k (λ_ _=>rfl)) hnt vl fs ((hv.kp k (λ_ _ e=>e)).imp (λb e=>Nat.lt_of_lt_of_le e k.size)) (λw' own' ds' vL' k' a' hd I=>⟨rfl,?_⟩))
 refine hK w' own' ds' vL' ((kpF k).trans k' (λ_ _ h=>h)) (λb hb=>a' b (Nat.lt_of_lt_of_le hb k.size)) ⟨λh=>by omega,λh=>by omega,λ_ h=>absurd rfl h,?_⟩ I
 rcases hd with ⟨rfl,_⟩|⟨q,rfl⟩
 ·exact Nat.le_refl _
 ·simp
end
end
end Go.Proofs.YthbdpfccfcceiaaGreatDoor
