/-
  Of the proof of logsUpto_card.
-/
import Derived.Test.YthbdpfccfcceiaaGreatDoorR3x
namespace Go.Proofs.YthbdpfccfcceiaaGreatDoor
section
open Go.RowKit
theorem z3l (x:YV)(y:List YV):zo (x::y)=[.string x.key,.int .i64 x.t,.bool x.gone,.string x.s]++zo y:=by simp[zo]
theorem zgn:∀(l:List YV) (i:Nat) (_hi:i<l.length) (y:YV),((((zo l).set (i*4) (.string y.key)).set (i*4+1) (.int .i64 y.t)).set (i*4+2) (.bool y.gone)).set (i*4+3) (.string y.s)=zo (l.set i y)
 |a::r,0,_,y=>by simp[zo]
 |a::r,i+1,hi,y=>by
  have ih:=zgn r i (by simpa using hi) y
  have e:∀o,(i+1)*4+o - [Value.string a.key,Value.int .i64 a.t,Value.bool a.gone,Value.string a.s].length=i*4+o:=λo=>by simp;omega
  have e0:=e 0
  simp only[Nat.add_zero]at e0
  have st:∀(X:List Value) (o:Nat) (v:Value),([Value.string a.key,Value.int .i64 a.t,Value.bool a.gone,Value.string a.s]++X).set ((i+1)*4+o) v=[Value.string a.key,Value.int .i64 a.t,Value.bool a.gone,Value.string a.s]++X.set (i*4+o) v:=λX o v=>by
   rw[List.set_append_right _ _ (by simp;omega),e o]
  have st0:=λX v=>st X 0 v
  simp only[Nat.add_zero]at st0
  rw[z3l,st0,st,st,st,ih,List.set_cons_succ,z3l]
def z0c (s:YS)(j:Nat)(t:YT):YS:={ s with txs:=s.txs.set j t }
section
variable {own own':Nat→Lab}{c:Nat}{w w':World}{p:Nat}{s:YS}{vL vT vG:Value}{sv lg:List Value}
variable {R:Ending→World→Prop}
theorem YR.setL (h:YR own c w p s vL vT vG sv lg)(j:Nat)(hj:j<s.txs.length)(hsv:j<sv.length)(l':List YV)(hb:∀b,b<w.heap.size→own b≠⟨c,4,j,eb⟩→w'.heap[b]?=w.heap[b]?)
  (hrow:w'.ownsRow 0 193 4 sv[j] l'.length (zo l')):YR own c w' p (z0c s j { s.txs[j] with l:=l' }) vL vT vG sv lg:=by
 have lp:=zh h.store
 refine⟨h.ownP,(hb p lp (by rw[h.ownP];simp)).trans h.store,?_,h.ownL,by simp[z0c,h.len],?_,h.ownT,λi hi hj'=>?_,h.ownX,?_,h.ownG⟩
 ·exact zl h.rowL (λb e=>hb b (h.rowL.lt b e).2 (by rw[h.ownL b e];simp))
 ·have hlen:(z0c s j { s.txs[j] with l:=l' }).txs.length=s.txs.length:=by simp[z0c]
  have hcells:zob ((z0c s j { s.txs[j] with l:=l' }).txs.zip sv)=zob (s.txs.zip sv):=by
   simp only[z0c]
   rw[z1i s.txs sv j _ hsv]
   unfold zob
   have hz:j<(s.txs.zip sv).length:=by simp;omega
   have:((s.txs.zip sv).set j ({ s.txs[j] with l:=l' },sv[j])).map (λq=>[Value.bool q.1.over,Value.int .i64 q.1.sees,q.2])=(s.txs.zip sv).map (λq=>[Value.bool q.1.over,Value.int .i64 q.1.sees,q.2]):=by
    apply List.ext_getElem?
    intro k
    rw[List.getElem?_map,List.getElem?_map,List.getElem?_set]
    split
    ·rename_i e
     subst e
     simp[List.getElem?_eq_getElem hz]
    ·rfl
   rw[List.flatMap_def,this,← List.flatMap_def]
  rw[hlen,hcells]
  exact zl h.rowT (λb e=>hb b (h.rowT.lt b e).2 (by rw[h.ownT b e];simp))
 ·have hi':i<s.txs.length:=by simpa [z0c] using hi
  by_cases e:i=j
  ·subst e
   simp only[z0c,List.getElem_set_self]
   exact hrow
  ·have hl:(z0c s j { s.txs[j] with l:=l' }).txs[i]=s.txs[i]:=by
    simp only[z0c];rw[List.getElem_set_ne (Ne.symm e)]
   rw[hl]
   exact zl (h.rowX i hi' hj') (λb eb'=>hb b ((h.rowX i hi' hj').lt b eb').2 (by rw[h.ownX i hj' b eb'];simp;omega))
 ·exact zl h.rowG (λb e=>hb b (h.rowG.lt b e).2 (by rw[h.ownG b e];simp))
def zfl (w:World)(g o:Nat)(y:YV):World:=((((w.setCell ⟨g,o,none⟩ (.string y.key)).setCell ⟨g,o+1,none⟩ (.int .i64 y.t)).setCell ⟨g,o+2,none⟩ (.bool y.gone)).setCell ⟨g,o+3,none⟩ (.string y.s))
theorem zeo (w:World)(g o:Nat)(y:YV):Kp (λb=>b=g) w (zfl w g o y):=
 (((Kp.setCell w _ _ (S:=λb=>b=g) rfl).trans (Kp.setCell (S:=λb=>b=g) _ _ _ rfl) (λ_ _ h=>h)).trans (Kp.setCell (S:=λb=>b=g) _ _ _ rfl) (λ_ _ h=>h)).trans (Kp.setCell (S:=λb=>b=g) _ _ _ rfl) (λ_ _ h=>h)
theorem zd0 {base:Nat}{v:Value}{l:List YV}(h:w.ownsRow base 193 4 v l.length (zo l))(i:Nat)(hi:i<l.length)(g cap:Nat)(hv:v = .slice (some ⟨g,0,none⟩) l.length cap)(y:YV) :
  (zfl w g (i*4) y).ownsRow base 193 4 v (l.set i y).length (zo (l.set i y)):=by
 rcases h.2 with ⟨_,h0⟩|⟨g',cap',cur,hv',hb,hg,hn,hm,hcs,ht⟩
 ·omega
 ·rw[hv]at hv';cases hv'
  refine⟨by rw[zjf],Or.inr ⟨g,cap,(((cur.setIfInBounds (i*4) (.string y.key)).setIfInBounds (i*4+1) (.int .i64 y.t)).setIfInBounds (i*4+2) (.bool y.gone)).setIfInBounds (i*4+3) (.string y.s),by rw[List.length_set];exact hv,hb,?_,by rw[List.length_set];exact hn,hm,by simpa using hcs,?_⟩⟩
  ·unfold zfl
   exact zq (zq (zq (zq hg _) _) _) _
  ·rw[List.length_set]
   simp only[Array.toList_setIfInBounds,List.take_set]
   rw[ht]
   exact zgn l i hi y
set_option maxRecDepth 20000 in
set_option maxHeartbeats 1000000 in
theorem zzh (h:YR own c w p s vL vT vG sv lg)(hB:YB s)(tx:Int)(key val:ByteArray)(gone:Bool)(hkl:key.size≤maxLen)(hvl:val.size≤maxLen)
  (h0:zab s tx=false→∀w',Kp (λ_=>False) w w'→R (.returned (.int .i64 2)) w')
  (h1:zab s tx=true→(zu key && decide (val.size≤20))=false→∀w',Kp (λ_=>False) w w'→R (.returned (.int .i64 1)) w')
  (hbad:zab s tx=false∨(zu key && decide (val.size≤20))=false) :
  Calls Tryz.prog 106 #[.pointer (some ⟨p,0,none⟩),.int .i64 tx,.agg #[.string key,.int .i64 0,.bool gone,.string val]] w R:=by
 have hk0:Kp (λ_=>False) w (w.alloc (.cells #[.string key,.int .i64 0,.bool gone,.string val] 193)):=Kp.alloc _ _ _
 have H:Hid (YR own c (w.alloc (.cells #[.string key,.int .i64 0,.bool gone,.string val] 193)) p s vL vT vG sv lg):=h.kept hk0
 have HN:Hid (s.txs.length<4611686018427387904):=by have:=hB.txs;show _<_;omega
 have HK:Hid _:=hkl
 have HV:Hid _:=hvl
 cases ht:zab s tx with
 |false=>
  have HR:=h0 ht _ hk0
  clear h h0 h1 hkl hvl hB hbad hk0
  go_enter Tryz.func106,Tryz.ntmps106
  go_wp2_with (first
   |(go_at_call 156;refine zwc H.out HN.out tx ?_)
   |go_in)
  exact HR
 |true=>
  have hb:(zu key && decide (val.size≤20))=false:=hbad.resolve_left (by rw[ht];simp)
  have HR:=h1 ht hb _ hk0
  cases hke:zu key with
  |false=>
   clear h h0 h1 hkl hvl hB hbad hk0 hb
   go_enter Tryz.func106,Tryz.ntmps106
   go_wp2_with (first
    |(go_at_call 156;refine zwc H.out HN.out tx ?_)
    |(go_at_call 151;refine (z8b _ _ HK.out).mono ?_;rintro e w' ⟨rfl,rfl⟩)
    |go_in)
   exact HR
  |true=>
   have h2:(20:Int)<val.size:=by rw[hke]at hb;simp at hb;omega
   have h3:(val.size:Int)≤9223372036854775807:=by have:=HV.out;unfold maxLen at this;omega
   clear h h0 h1 hkl hvl hB hbad hk0 hb
   go_enter Tryz.func106,Tryz.ntmps106
   go_wp2_with (first
    |(go_at_call 156;refine zwc H.out HN.out tx ?_)
    |(go_at_call 151;refine (z8b _ _ HK.out).mono ?_;rintro e w' ⟨rfl,rfl⟩)
    |go_in)
   exact HR
set_option maxRecDepth 20000 in
set_option maxHeartbeats 1000000 in
theorem z9p (h:YR own c w p s vL vT vG sv lg)(hB:YB s)(j:Nat)(hj:j<s.txs.length)(ht:zab s ((j:Int)+1)=true)(key val:ByteArray)(gone:Bool)(hk:zu key=true)(hvl:val.size≤20)(i:Nat)(hi:zyb (s.txs[j]).l key=some i)
  (hR:∀w',Kp (λb=>(own b).c=c) w w'→YR own c w' p (z0c s j { s.txs[j] with l:=(s.txs[j]).l.set i ⟨key,0,gone,val⟩ }) vL vT vG sv lg→R (.returned (.int .i64 0)) w') :
  Calls Tryz.prog 106 #[.pointer (some ⟨p,0,none⟩),.int .i64 ((j:Int)+1),.agg #[.string key,.int .i64 0,.bool gone,.string val]] w R:=by
 have hk0:Kp (λ_=>False) w (w.alloc (.cells #[.string key,.int .i64 0,.bool gone,.string val] 193)):=Kp.alloc _ _ _
 have hY:=h.kept hk0
 have H:Hid (YR own c (w.alloc (.cells #[.string key,.int .i64 0,.bool gone,.string val] 193)) p s vL vT vG sv lg):=hY
 have HN:Hid (s.txs.length<4611686018427387904):=by have:=hB.txs;show _<_;omega
 have hkey8:=z1d key hk
 have HK:Hid (key.size≤maxLen):=by show _≤_;unfold maxLen;omega
 have hsv:j<sv.length:=h.len ▸ hj
 obtain⟨g,cap,hv,k0,k1,k2,kf,hg⟩:=hY.txAt j hj
 have hrow:=hY.rowX j hj hsv
 have HROW:Hid ((w.alloc (.cells #[.string key,.int .i64 0,.bool gone,.string val] 193)).ownsRow 0 193 4 sv[j] (s.txs[j]).l.length (zo (s.txs[j]).l)):=hrow
 have hil:=z0g hi
 have HI:Hid _:=hi
 have HXL:Hid ((s.txs[j]).l.length<1000000):=by have:=hB.x j hj;show _<_;omega
 rcases hrow.2 with ⟨_,h0⟩|⟨gx,capx,cur,hvx,hbx,hgx,hnx,hmx,hcsx,htx⟩
 ·omega
 ·have c3:(w.alloc (.cells #[.string key,.int .i64 0,.bool gone,.string val] 193)).cell? ⟨p,3,none⟩=some vT:=zg hY.store 3
  rw[hv]at c3
  rw[hvx]at k2 HROW
  have hj1:(j:Int)<s.txs.length:=by omega
  have hj2:(j:Int)≤1000000000000:=by have:=hB.txs;omega
  have hi1:(i:Int)<(s.txs[j]).l.length:=by omega
  have hi2:(i:Int)≤1000000000000:=by have:=hB.x j hj;omega
  have hv1:¬(20:Int)<val.size:=by omega
  have m0:∀o,o<4→((w.alloc (.cells #[.string key,.int .i64 0,.bool gone,.string val] 193)).cell? ⟨gx,i*4+o,none⟩).isSome=true:=λo ho=>by
   rw[zg hgx,Array.getElem?_eq_getElem (by omega)];rfl
  have mf:∀o,(w.alloc (.cells #[.string key,.int .i64 0,.bool gone,.string val] 193)).frozen? ⟨gx,o,none⟩=false:=zx hgx
  obtain⟨x0,e0⟩:=Option.isSome_iff_exists.1 (m0 0 (by omega))
  obtain⟨x1,e1⟩:=Option.isSome_iff_exists.1 (m0 1 (by omega))
  obtain⟨x2,e2⟩:=Option.isSome_iff_exists.1 (m0 2 (by omega))
  obtain⟨x3,e3⟩:=Option.isSome_iff_exists.1 (m0 3 (by omega))
  have b0:(w.alloc (.cells #[.string key,.int .i64 0,.bool gone,.string val] 193)).cell? ⟨w.heap.size,0,none⟩=some (.string key):=by go_simp
  have b1:(w.alloc (.cells #[.string key,.int .i64 0,.bool gone,.string val] 193)).cell? ⟨w.heap.size,1,none⟩=some (.int .i64 0):=by go_simp
  have b2:(w.alloc (.cells #[.string key,.int .i64 0,.bool gone,.string val] 193)).cell? ⟨w.heap.size,2,none⟩=some (.bool gone):=by go_simp
  have b3:(w.alloc (.cells #[.string key,.int .i64 0,.bool gone,.string val] 193)).cell? ⟨w.heap.size,3,none⟩=some (.string val):=by go_simp
  have hlx:own gx=⟨c,4,j,eb⟩:=h.ownX j hsv gx (by rw[hvx];rfl)
  have HR:=hR (zfl (w.alloc (.cells #[.string key,.int .i64 0,.bool gone,.string val] 193)) gx (i*4) ⟨key,0,gone,val⟩).drew ((((hk0.own_of (λ_ h=>h.elim)).trans (zeo _ gx (i*4) ⟨key,0,gone,val⟩) (λb hb e=>by rw[e,hlx])).trans (Kp.drew (λb=>(own b).c=c) _) (λ_ _ h=>h)))
   ((hY.setL j hj hsv _ (w':=zfl (w.alloc (.cells #[.string key,.int .i64 0,.bool gone,.string val] 193)) gx (i*4) ⟨key,0,gone,val⟩) (λb hb hne=>(zeo _ gx (i*4) ⟨key,0,gone,val⟩).block b hb (λe=>hne (by rw[e];exact hlx))) (zd0 hrow i hil gx capx hvx _)).kept (Kp.drew _ _))
  have HRR:Hid _:=HR
  clear h hY hB k0 k1 kf hrow hi hbx hgx hnx hmx hcsx htx m0 hvx hk0 hv hR HR
  go_enter Tryz.func106,Tryz.ntmps106
  go_wp2_with (first
   |(go_at_call 156;refine zwc H.out HN.out _ ?_)
   |(go_at_call 151;refine (z8b _ _ HK.out).mono ?_;rintro e w' ⟨rfl,rfl⟩)
   |(go_at_call 159;refine zve g (j*3) key (s.txs[j]).l _ _ HXL.out k2 HROW.out (λhn=>by rw[HI.out]at hn;cases hn) (λi' hi'=>?_);rw[HI.out]at hi';injection hi' with hi';subst hi')
   |go_in)
  simp only[Nat.add_zero]at e0
  generalize hW:w.alloc (.cells #[.string key,.int .i64 0,.bool gone,.string val] 193)=W at *
  have mf0:=mf (i*4)
  have mf1:=mf (i*4+1)
  have mf2:=mf (i*4+2)
  have mf3:=mf (i*4+3)
  clear mf hW
  go_region
  all_goals
   go_wp2_with fail
   exact HRR.out
end
end
section
open Go.RowKit
theorem zvj:(Tryz.prog.info? 193).map (λi=>(i.zero,i.size,i.bytes))=some (some (.agg #[.string ⟨#[]⟩,.int .i64 0,.bool false,.string ⟨#[]⟩]),4,48):=by kernel_rfl
theorem zxe (w:World)(x y z u:Value)(t:TypeId):∀j q,[x,y,z,u][j]?=some q→(w.alloc (.cells #[x,y,z,u] t)).cell? ((⟨w.heap.size,0,none⟩:Addr).add j)=some q:=by
 intro j q hj
 match j,hj with
 |0,hj=>simp at hj;subst hj;simp[Addr.add]
 |1,hj=>simp at hj;subst hj;simp[Addr.add]
 |2,hj=>simp at hj;subst hj;simp[Addr.add]
 |3,hj=>simp at hj;subst hj;simp[Addr.add]
theorem z2l:∀(l:List (YT × Value)) (j:Nat) (hj:j<l.length) (v:Value),(zob l).set (j*3+2) v=zob (l.set j (l[j].1,v))
 |a::r,0,_,v=>by simp[zob]
 |a::r,j+1,hj,v=>by
  have ih:=z2l r j (by simpa using hj) v
  have e:∀x y,zob (x::y)=[.bool x.1.over,.int .i64 x.1.sees,x.2]++zob y:=λx y=>by simp[zob]
  rw[e,List.set_append_right _ _ (by simp;omega)]
  simp only[List.set_cons_succ]
  rw[e]
  congr 1
  have:(j+1)*3+2 - [Value.bool a.1.over,Value.int .i64 a.1.sees,a.2].length=j*3+2:=by simp;omega
  rw[this,ih]
  simp
theorem zjl {α β:Type}:∀(l:List α) (m:List β) (j:Nat) (x:α) (y:β),(l.set j x).zip (m.set j y)=(l.zip m).set j (x,y)
 |[],m,j,x,y=>by simp
 |a::r,[],j,x,y=>by simp
 |a::r,b::m,0,x,y=>by simp
 |a::r,b::m,j+1,x,y=>by simp[zjl r m j x y]
theorem zsy (q:List (YT × Value))(j:Nat)(hj:j<q.length)(l':List YV)(v:Value):zob (q.set j ({ q[j].1 with l:=l' },v))=zob (q.set j (q[j].1,v)):=by
 unfold zob
 have:(q.set j ({ q[j].1 with l:=l' },v)).map (λq=>[Value.bool q.1.over,Value.int .i64 q.1.sees,q.2])=(q.set j (q[j].1,v)).map (λq=>[Value.bool q.1.over,Value.int .i64 q.1.sees,q.2]):=by
  apply List.ext_getElem?
  intro k
  rw[List.getElem?_map,List.getElem?_map,List.getElem?_set,List.getElem?_set]
  split
  ·rfl
  ·rfl
 rw[List.flatMap_def,this,← List.flatMap_def]
section
variable {own own':Nat→Lab}{c:Nat}{w w':World}{p:Nat}{s:YS}{vL vT vG:Value}{sv lg:List Value}
variable {R:Ending→World→Prop}
theorem YR.addL (h:YR own c w p s vL vT vG sv lg)(j:Nat)(hj:j<s.txs.length)(hsv:j<sv.length)(g cap:Nat)(hv:vT = .slice (some ⟨g,0,none⟩) s.txs.length cap)(y:YV){w3:World}{v':Value}(hk:Kp (λb=>sv[j].ownBlock=some b) w w3)
  (hrow:w3.ownsRow 0 193 4 v' ((s.txs[j]).l.length+1) (zo (s.txs[j]).l++[.string y.key,.int .i64 y.t,.bool y.gone,.string y.s])) (hloc:v'.ownBlock=sv[j].ownBlock∨∃b,v'.ownBlock=some b∧w.heap.size≤b) :
  YR (λb=>if v'.ownBlock=some b then ⟨c,4,j,eb⟩ else own b) c (w3.setCell ⟨g,j*3+2,none⟩ v') p (z0c s j { s.txs[j] with l:=(s.txs[j]).l++[y] }) vL vT vG (sv.set j v') lg∧
  (∀b,b<w.heap.size→(λb=>if v'.ownBlock=some b then (⟨c,4,j,eb⟩:Lab) else own b) b=own b):=by
 have hout:∀b,b<w.heap.size→(λb=>if v'.ownBlock=some b then (⟨c,4,j,eb⟩:Lab) else own b) b=own b:=λb hb=>by
  by_cases e:v'.ownBlock=some b
  ·simp only[e,if_true]
   rcases hloc with hl|⟨b',hb',hge⟩
   ·exact (h.ownX j hsv b (hl ▸ e)).symm
   ·rw[hb']at e;cases e;omega
  ·simp[e]
 refine⟨?_,hout⟩
 have lp:=zh h.store
 have hg:=h.ownT g (by rw[hv];rfl)
 have old:∀b,b<w.heap.size→own b≠⟨c,4,j,eb⟩→b≠g→(w3.setCell ⟨g,j*3+2,none⟩ v').heap[b]?=w.heap[b]?:=λb hb h1 h2=>by
  rw[Below.heap_setCell w3 _ _ b h2];exact hk.block b hb (λe=>h1 (h.ownX j hsv b e))
 have hvg:v'.ownBlock≠some g:=λe=>by
  rcases hloc with hl|⟨b,hb,hge⟩
  ·have:=h.ownX j hsv g (hl ▸ e);rw[hg]at this;simp at this
  ·rw[hb]at e;cases e
   have:=(h.rowT.lt g (by rw[hv];rfl)).2
   omega
 have hz:j<(s.txs.zip sv).length:=by simp;omega
 refine⟨(hout p lp).trans h.ownP,?_,?_,?_,by simp[z0c,h.len],?_,?_,?_,?_,?_,?_⟩
 ·exact (old p lp (by rw[h.ownP];simp) (zpb (own:=own) (by rw[h.ownP,hg];simp))).trans h.store
 ·exact zl h.rowL (λb e=>old b (h.rowL.lt b e).2 (by rw[h.ownL b e];simp) (zpb (own:=own) (by rw[h.ownL b e,hg];simp)))
 ·exact λb e=>(hout b (h.rowL.lt b e).2).trans (h.ownL b e)
 ·have hlen:(z0c s j { s.txs[j] with l:=(s.txs[j]).l++[y] }).txs.length=s.txs.length:=by simp[z0c]
  have hcells:zob ((z0c s j { s.txs[j] with l:=(s.txs[j]).l++[y] }).txs.zip (sv.set j v'))=(zob (s.txs.zip sv)).set (j*3+2) v':=by
   rw[z2l _ j hz]
   simp only[z0c]
   rw[zjl]
   have:=zsy (s.txs.zip sv) j hz ((s.txs[j]).l++[y]) v'
   simpa only[List.getElem_zip] using this
  have h3:w3.ownsRow 0 260 3 vT s.txs.length (zob (s.txs.zip sv)):=zl h.rowT (λb e=>hk.block b (h.rowT.lt b e).2 (λe'=>by have h1:=h.ownX j hsv b e';rw[h.ownT b e]at h1;simp at h1))
  rcases h3.2 with ⟨_,h0⟩|⟨g',cap',cur,hv',hb',hg',hn,hm,hcs,ht⟩
  ·omega
  ·rw[hv]at hv';cases hv'
   refine⟨by rw[hlen,hcells,List.length_set];exact h.rowT.1,Or.inr ⟨g,cap,cur.setIfInBounds (j*3+2) v',by rw[hlen];exact hv,hb',zq hg' _,by rw[hlen];exact hn,hm,by simpa using hcs,?_⟩⟩
   rw[hlen,hcells,← ht,Array.toList_setIfInBounds,List.take_set]
 ·exact λb e=>(hout b (h.rowT.lt b e).2).trans (h.ownT b e)
 ·intro i hi hj'
  have hi':i<s.txs.length:=by simpa [z0c] using hi
  by_cases e:i=j
  ·subst e
   simp only[z0c,List.getElem_set_self,List.length_append,List.length_cons,List.length_nil,Nat.zero_add]
   have e1:zo ((s.txs[i]).l++[y])=zo (s.txs[i]).l++[.string y.key,.int .i64 y.t,.bool y.gone,.string y.s]:=by simp[zo]
   rw[e1]
   exact zl hrow (λb eb'=>Below.heap_setCell w3 _ _ b (λe'=>hvg (by rw[eb',e'])))
  ·have hs':i<sv.length:=by simpa using hj'
   have hl:(z0c s j { s.txs[j] with l:=(s.txs[j]).l++[y] }).txs[i]=s.txs[i]:=by
    simp only[z0c];rw[List.getElem_set_ne (Ne.symm e)]
   rw[hl,List.getElem_set_ne (Ne.symm e)]
   exact zl (h.rowX i hi' hs') (λb eb'=>old b ((h.rowX i hi' hs').lt b eb').2 (by rw[h.ownX i hs' b eb'];simp;omega) (zpb (own:=own) (by rw[h.ownX i hs' b eb',hg];simp)))
 ·intro i hj' b eb'
  by_cases e:i=j
  ·subst e
   simp only[List.getElem_set_self]at eb'
   simp[eb']
  ·have hs':i<sv.length:=by simpa using hj'
   rw[List.getElem_set_ne (Ne.symm e)]at eb'
   exact (hout b ((h.rowX i (h.len ▸ hs') hs').lt b eb').2).trans (h.ownX i hs' b eb')
 ·exact zl h.rowG (λb e=>old b (h.rowG.lt b e).2 (by rw[h.ownG b e];simp) (zpb (own:=own) (by rw[h.ownG b e,hg];simp)))
 ·exact λb e=>(hout b (h.rowG.lt b e).2).trans (h.ownG b e)
set_option maxRecDepth 20000 in
set_option maxHeartbeats 1000000 in
theorem zes (h:YR own c w p s vL vT vG sv lg)(hB:YB s)(j:Nat)(hj:j<s.txs.length)(ht:zab s ((j:Int)+1)=true)(key val:ByteArray)(gone:Bool)(hk:zu key=true)(hvl:val.size≤20)(hi:zyb (s.txs[j]).l key=none)(h10:(s.txs[j]).l.length=10)
  (hR:∀w',Kp (λ_=>False) w w'→R (.returned (.int .i64 3)) w') :
  Calls Tryz.prog 106 #[.pointer (some ⟨p,0,none⟩),.int .i64 ((j:Int)+1),.agg #[.string key,.int .i64 0,.bool gone,.string val]] w R:=by
 have hk0:Kp (λ_=>False) w (w.alloc (.cells #[.string key,.int .i64 0,.bool gone,.string val] 193)):=Kp.alloc _ _ _
 have hY:=h.kept hk0
 have H:Hid (YR own c (w.alloc (.cells #[.string key,.int .i64 0,.bool gone,.string val] 193)) p s vL vT vG sv lg):=hY
 have HN:Hid (s.txs.length<4611686018427387904):=by have:=hB.txs;show _<_;omega
 have hkey8:=z1d key hk
 have HK:Hid (key.size≤maxLen):=by show _≤_;unfold maxLen;omega
 have hsv:j<sv.length:=h.len ▸ hj
 obtain⟨g,cap,hv,k0,k1,k2,kf,hg⟩:=hY.txAt j hj
 have hrow:=hY.rowX j hj hsv
 obtain⟨a1,cap1,hv1,_⟩:=zr hrow
 have HROW:Hid ((w.alloc (.cells #[.string key,.int .i64 0,.bool gone,.string val] 193)).ownsRow 0 193 4 sv[j] (s.txs[j]).l.length (zo (s.txs[j]).l)):=hrow
 have HI:Hid _:=hi
 have HXL:Hid ((s.txs[j]).l.length<1000000):=by have:=hB.x j hj;show _<_;omega
 have c3:(w.alloc (.cells #[.string key,.int .i64 0,.bool gone,.string val] 193)).cell? ⟨p,3,none⟩=some vT:=zg hY.store 3
 rw[hv]at c3
 rw[hv1]at k2 HROW
 have hj1:(j:Int)<s.txs.length:=by omega
 have hj2:(j:Int)≤1000000000000:=by have:=hB.txs;omega
 have hvl1:¬(20:Int)<val.size:=by omega
 have HR:=hR _ hk0
 have hl10:(((s.txs[j]).l.length:Int) == 10)=true:=by rw[h10];rfl
 clear h hY hB k0 k1 kf hrow hi hk0 hv hR h10 hv1
 go_enter Tryz.func106,Tryz.ntmps106
 go_wp2_with (first
  |(go_at_call 156;refine zwc H.out HN.out _ ?_)
  |(go_at_call 151;refine (z8b _ _ HK.out).mono ?_;rintro e w' ⟨rfl,rfl⟩)
  |(go_at_call 159;refine zve g (j*3) key (s.txs[j]).l _ _ HXL.out k2 HROW.out (λ_=>?_) (λi' hi'=>by rw[HI.out]at hi';cases hi'))
  |go_in)
 exact HR
set_option maxRecDepth 20000 in
set_option maxHeartbeats 1000000 in
theorem zrt (h:YR own c w p s vL vT vG sv lg)(hB:YB s)(j:Nat)(hj:j<s.txs.length)(ht:zab s ((j:Int)+1)=true)(key val:ByteArray)(gone:Bool)(hk:zu key=true)(hvl:val.size≤20)(hi:zyb (s.txs[j]).l key=none)(h10:(s.txs[j]).l.length<10)
  (hR:∀w' own' sv',Kp (λb=>(own b).c=c) w w'→(∀b,b<w.heap.size→own' b=own b)→YR own' c w' p (z0c s j { s.txs[j] with l:=(s.txs[j]).l++[⟨key,0,gone,val⟩] }) vL vT vG sv' lg→R (.returned (.int .i64 0)) w') :
  Calls Tryz.prog 106 #[.pointer (some ⟨p,0,none⟩),.int .i64 ((j:Int)+1),.agg #[.string key,.int .i64 0,.bool gone,.string val]] w R:=by
 have hk0:Kp (λ_=>False) w (w.alloc (.cells #[.string key,.int .i64 0,.bool gone,.string val] 193)):=Kp.alloc _ _ _
 have hY:=h.kept hk0
 have H:Hid (YR own c (w.alloc (.cells #[.string key,.int .i64 0,.bool gone,.string val] 193)) p s vL vT vG sv lg):=hY
 have HN:Hid (s.txs.length<4611686018427387904):=by have:=hB.txs;show _<_;omega
 have hkey8:=z1d key hk
 have HK:Hid (key.size≤maxLen):=by show _≤_;unfold maxLen;omega
 have hsv:j<sv.length:=h.len ▸ hj
 obtain⟨g,cap,hv,k0,k1,k2,kf,hg⟩:=hY.txAt j hj
 have hrow:=hY.rowX j hj hsv
 obtain⟨a1,cap1,hv1,_⟩:=zr hrow
 have HROW:Hid ((w.alloc (.cells #[.string key,.int .i64 0,.bool gone,.string val] 193)).ownsRow 0 193 4 sv[j] (s.txs[j]).l.length (zo (s.txs[j]).l)):=hrow
 have HI:Hid _:=hi
 have HXL:Hid ((s.txs[j]).l.length<10):=h10
 have c3:(w.alloc (.cells #[.string key,.int .i64 0,.bool gone,.string val] 193)).cell? ⟨p,3,none⟩=some vT:=zg hY.store 3
 rw[hv]at c3
 rw[hv1]at k2 HROW
 have hj1:(j:Int)<s.txs.length:=by omega
 have hj2:(j:Int)≤1000000000000:=by have:=hB.txs;omega
 have hvl1:¬(20:Int)<val.size:=by omega
 have kf2:=kf (j*3+2)
 have hl10:(((s.txs[j]).l.length:Int) == 10)=false:=by simp;omega
 have b0:(w.alloc (.cells #[.string key,.int .i64 0,.bool gone,.string val] 193)).cell? ⟨w.heap.size,0,none⟩=some (.string key):=by go_simp
 have b1:(w.alloc (.cells #[.string key,.int .i64 0,.bool gone,.string val] 193)).cell? ⟨w.heap.size,1,none⟩=some (.int .i64 0):=by go_simp
 have b2:(w.alloc (.cells #[.string key,.int .i64 0,.bool gone,.string val] 193)).cell? ⟨w.heap.size,2,none⟩=some (.bool gone):=by go_simp
 have b3:(w.alloc (.cells #[.string key,.int .i64 0,.bool gone,.string val] 193)).cell? ⟨w.heap.size,3,none⟩=some (.string val):=by go_simp
 have HR:Hid _:=hR
 have HV:Hid _:=hv
 have HV1:Hid _:=hv1
 obtain⟨i0,hi0,hz0,hz1,hz2⟩:=info_parts zvj
 clear h hY hB k0 k1 kf hrow hi hv hR h10 hv1
 go_enter Tryz.func106,Tryz.ntmps106
 go_wp2_with (first
  |(go_at_call 156;refine zwc H.out HN.out _ ?_)
  |(go_at_call 151;refine (z8b _ _ HK.out).mono ?_;rintro e w' ⟨rfl,rfl⟩)
  |(go_at_call 159;refine zve g (j*3) key (s.txs[j]).l _ _ (by have:=HXL.out;omega) k2 HROW.out (λ_=>?_) (λi' hi'=>by rw[HI.out]at hi';cases hi'))
  |go_in)
 generalize hW:w.alloc (.cells #[.string key,.int .i64 0,.bool gone,.string val] 193)=W at *
 have hws:w.heap.size≤W.heap.size:=hk0.size
 clear hW
 have hkA:Kp (λb=>(Value.slice a1 (s.txs[j]).l.length cap1).ownBlock=some b) W (W.alloc (.cells #[.string key,.int .i64 0,.bool gone,.string val] 193)).drew:=(Kp.alloc _ _ _).trans (Kp.drew (λb=>(Value.slice a1 (s.txs[j]).l.length cap1).ownBlock=some b) _) (λ_ _ h=>h)
 have hrow2:(W.alloc (.cells #[.string key,.int .i64 0,.bool gone,.string val] 193)).drew.ownsRow 0 193 4 (.slice a1 (s.txs[j]).l.length cap1) (s.txs[j]).l.length (zo (s.txs[j]).l):=zi HROW.out (S:=λ_=>False) ((Kp.alloc _ _ _).trans (Kp.drew (λ_=>False) _) (λ_ _ h=>h)) (λ_ _ h=>h)
 have hlg:g<W.heap.size:=World.block_lt_of_cell? W _ k2
 have hgn:(Value.slice a1 (s.txs[j]).l.length cap1).ownBlock≠some g:=λe=>by
  have h1:=H.out.ownX j hsv g (by rw[HV1.out];exact e)
  rw[hg]at h1;simp at h1
 have HGN:Hid _:=hgn
 have HLG:Hid _:=hlg
 have hs2:(W.alloc (.cells #[.string key,.int .i64 0,.bool gone,.string val] 193)).drew.heap.size=W.heap.size+1:=by simp
 clear hgn
 go_region_law (refine zmd rfl (.tmp 57) (.tmp 59) 74 rfl 0 193 i0 (.agg #[.string ⟨#[]⟩,.int .i64 0,.bool false,.string ⟨#[]⟩]) 4 48 Tryz.underlying74 hi0 hz0 hz1 hz2 rfl (by decide) (.slice a1 (s.txs[j]).l.length cap1) (s.txs[j]).l.length (zo (s.txs[j]).l) (by simp[Act.eval]) hrow2 ⟨W.heap.size,0,none⟩ 1 1 [.string key,.int .i64 0,.bool gone,.string val] (by simp[Act.eval]) rfl (zxe _ _ _ _ _ _) (by simp[Value.oneCell']) (by have:=HXL.out;unfold maxLen;omega) (by have:=HXL.out;omega) (Nat.zero_le _) ?_;intro v' w3 hown' hgrow hloc;have hk3:=hkA.trans (Kp.of_grown (S:=λb=>(Value.slice a1 (s.txs[j]).l.length cap1).ownBlock=some b) hgrow (λ_ h=>h)) (λ_ _ h=>h);have k3:=(hk3.cell (a:=⟨g,j*3+2,none⟩) HLG.out HGN.out).trans k2;have g3:=(hk3.frozen (a:=⟨g,j*3+2,none⟩) HLG.out HGN.out).trans kf2;have HY:Hid _:=H.out.addL j hj hsv g cap HV.out ⟨key,0,gone,val⟩ (by rw[HV1.out];exact hk3) hown' (by rw[HV1.out];exact hloc.imp id (λh=>⟨_,h,by rw[hs2];omega⟩));obtain⟨a',cap',rfl,hcap'⟩:=zr hown';clear hcap' hgrow hloc hown')
 all_goals
  have HRF:Hid _:=HR.out _ _ _ (((hk0.own_of (λ_ h=>h.elim)).trans (hk3.mono (S':=λb=>(own b).c=c) (λb _ e=>by rw[H.out.ownX j hsv b (by rw[HV1.out];exact e)])) (λ_ _ h=>h)).trans (Kp.setCell (S:=λb=>b=g) w3 ⟨g,j*3+2,none⟩ (.slice a' ((s.txs[j]).l.length+1) cap') rfl) (λb hb e=>by rw[e,hg])) (λb hb=>HY.out.2 b (Nat.lt_of_lt_of_le hb hws)) HY.out.1
  clear HY hk3 hrow2 hkA HR
  go_wp2
  exact HRF.out
end
end
end Go.Proofs.YthbdpfccfcceiaaGreatDoor
