/-
  Of the proof of logsUpto_card.
-/
import Derived.Test.YthbdpfccfcceiaaGreatDoorR8x
namespace Go.Proofs.YthbdpfccfcceiaaGreatDoor
section
open Go.RowKit
theorem zom:(Tryz.prog.info? 5).map (λi=>(i.zero,i.size,i.bytes))=some (some (.int .u8 0),1,1):=by kernel_rfl
section
variable {R:Ending→World→Prop}
end
end
section
open Go.RowKit
section
variable {R:Ending→World→Prop}
end
end
section
open Go.RowKit Go.Maps
def zzg (l:List Int)(t:Int):Bool:=match l.getLast? with|some m=>decide (t<m)|none=>false
theorem zoe {w:World}{v:Value}{l:List Int}(h:w.ownsRow 0 3 1 v l.length (l.map (Value.int .i64)))(hl:l≠[]) :
  ∃g cap,v = .slice (some ⟨g,0,none⟩) l.length cap∧∀j,j<l.length→w.cell? ⟨g,j,none⟩=some (.int .i64 (l.getD j 0)):=by
 rcases h.2 with ⟨_,h0⟩|⟨g,cap,cur,e,_,hg,hn,_,hcs,htk⟩
 ·exact absurd (List.eq_nil_of_length_eq_zero h0) hl
 ·refine⟨g,cap,e,λj hj=>?_⟩
  rw[zg hg]
  have:(l.map (Value.int .i64))[j]?=cur.toList[j]?:=by
   rw[← htk,List.getElem?_take];simp[hj]
  rw[List.getElem?_map,List.getElem?_eq_getElem hj]at this
  rw[← Array.getElem?_toList,← this]
  simp[List.getD,List.getElem?_eq_getElem hj]
section
variable {own own':Nat→Lab}{c:Nat}{w w':World}{p:Nat}{s:XS}{mo ph mv mm:Nat}{pt mw:Int→Nat}{sl:ByteArray→Value}
theorem zgy (h:XR own c w p s mo ph mv mm pt mw sl)(key:ByteArray)(hlen:key.size≤8)(hl:(s.mom key).length<1000000)(t:Int) :
  Calls Tryz.prog 125 #[.pointer (some ⟨ph,0,none⟩),.string key,.int .i64 t] w λe w'=>e = .returned (.bool (zzg (s.mom key) t))∧w'=w:=by
 have c1:w.cell? ⟨ph,1,none⟩=some (.map (some mm)):=zg h.hist 1
 by_cases hm:s.mom key=[]
 ·refine zos ph mm s.nm _ key t w c1 h.moms hlen none 0 (by rw[zcc,if_pos hm];rfl) ⟨by rw[hm];rfl,rfl⟩
 ·obtain⟨g,cap,hv,hc⟩:=zoe (h.row key hm) hm
  obtain⟨len,hlen'⟩:∃len,(s.mom key).length=len+1:=⟨(s.mom key).length-1,by have:=List.length_pos_iff.2 hm;omega⟩
  refine zoq ph mm s.nm _ key t w c1 h.moms hlen g len cap (by rw[zcc,if_neg hm,hv,hlen'];rfl) (by omega) _ (hc len (by omega)) ⟨?_,rfl⟩
  unfold zzg
  rw[List.getLast?_eq_getElem?,hlen']
  simp only[Nat.add_sub_cancel]
  rw[List.getElem?_eq_getElem (by omega)]
  simp[List.getD,List.getElem?_eq_getElem (show len<(s.mom key).length by omega)]
theorem zzq {g:ByteArray→Option (ByteArray × Bool)}{key v:Value}(h:z3b (λk=>(g k).map z4b) key=some v):∃(k:ByteArray) (x:Value),key = .string k∧v=(λv:Value=>v) x:=by
 cases key<;>simp[z3b]at h
 exact⟨_,v,rfl,rfl⟩
def zjk (s:XS)(t:XT):Prop:=∃k,(t.wr k).isSome=true∧zzg (s.mom k) t.sees=true
variable {R:Ending→World→Prop}
set_option maxRecDepth 20000 in
set_option maxHeartbeats 1000000 in
theorem znj (h:XR own c w p s mo ph mv mm pt mw sl)(tx:Int)(t:XT)(e:s.txs tx=some t)(hkeys:∀k,(t.wr k).isSome=true→k.size≤8)(hmom:∀k,(s.mom k).length<1000000)
  (h0:¬zjk s t→∀w',Kp (λ_=>False) w w'→R (.returned (.bool false)) w')
  (h1:zjk s t→∀w',Kp (λ_=>False) w w'→R (.returned (.bool true)) w') :
  Calls Tryz.prog 71 #[.pointer (some ⟨p,0,none⟩),.pointer (some ⟨pt tx,0,none⟩)] w R:=by
 have c1:w.cell? ⟨pt tx,1,none⟩=some (.map (some (mw tx))):=zg (h.tx tx t e) 1
 have hw:=h.wr tx t e
 have H0:Hid _:=h0
 have H1:Hid _:=h1
 clear h0 h1
 go_enter Tryz.func71,Tryz.ntmps71
 go_wp2_with (first
  |(at_range;refine z7g _ rfl _ 130 rfl 9 138 zdd Tryz.underlying130 (mw tx) t.nw _ rfl hw ?_;intro w0 hrg0 hg0 hs0)
  |go_in)
 go_frame
 go_loopw [5] (λ_ wr=>∃(left:Value→Bool) (cnt:Nat),z0d wr Tryz.prog 9 (mw tx) w.heap.size t.nw (z3b λk=>(t.wr k).map z4b) left cnt∧Kp (λ_=>False) w wr∧∀k,(t.wr k).isSome=true→left (.string k)=false→zzg (s.mom k) t.sees=false)
  (λ_ wr=>wr.rangeLeft (mw tx) w.heap.size)
 case atStart=>exact⟨_,_,hrg0,Kp.of_grown hg0 (λ_ h=>by cases h),λk hk hl=>by rw[zcc]at hl;rw[Option.isSome_map,hk]at hl;cases hl⟩
 case round=>
  obtain⟨left,cnt,hrg,hkp,hdone⟩:=hrel
  have HD:Hid _:=hdone
  clear hdone
  go_wp2_with (first
   |(at_next;refine zrh _ rfl _ rfl 9 zdd Value.string (λv:Value=>v) (mw tx) w.heap.size t.nw _ left cnt (λkey v hv=>?inv) rfl hrg ?_ ?_)
   |go_in)
  case inv=>exact zzq hv
  ·intro _ hl0
   go_wp2
   refine H0.out (λ⟨k,hk1,hk2⟩=>?_) _ hkp
   rw[HD.out k hk1 (hl0 _)]at hk2;cases hk2
  ·intro k v w1 cnt1 hlk hfk left' hrg1 hl1 hl2 hlt hg1 hs1 hen
   have hks:(t.wr k).isSome=true:=by
    rw[zcc]at hfk
    cases hq:t.wr k with
    |none=>rw[hq]at hfk;cases hfk
    |some _=>rfl
   have hkp1:Kp (λ_=>False) w w1:=hkp.trans (Kp.of_grown (S:=λb=>b=w.heap.size) hg1 (λb hb=>by cases hb;rfl)) (λb hb e=>by omega)
   have hx:=h.kept hkp1
   have d0:w1.cell? ⟨p,0,none⟩=some (.pointer (some ⟨ph,0,none⟩)):=zg hx.store 0
   have d1:w1.cell? ⟨pt tx,0,none⟩=some (.int .i64 t.sees):=zg (hx.tx tx t e) 0
   clear hfk hlk
   have hcall:Hid (∀W:World,W=w1.drew→Calls Tryz.prog 125 #[.pointer (some ⟨ph,0,none⟩),.string k,.int .i64 t.sees] W λe w'=>e = .returned (.bool (zzg (s.mom k) t.sees))∧w'=W):=λW hW=>by
    subst hW;exact zgy (hx.kept (Kp.drew _ _)) k (hkeys k hks) (hmom k) t.sees
   have hrg2:z0d w1.drew Tryz.prog 9 (mw tx) w.heap.size t.nw (z3b λk=>(t.wr k).map z4b) left' cnt1:=hrg1.of_block rfl rfl
   have hkp2:Kp (λ_=>False) w w1.drew:=hkp1.trans (Kp.drew _ _) (λ_ _ h=>h)
   cases hch:zzg (s.mom k) t.sees
   ·rw[hch]at hcall
    go_wp2_with fail
    go_region_with (go_at_call 125;refine (hcall.out _ rfl).mono ?_;rintro e w' ⟨rfl,rfl⟩)
    all_goals
     clear d0 d1 hen
     go_wp2_with fail
     go_roundw
     case rel=>
      refine⟨left',cnt1,hrg2,hkp2,λk' hk' hl'=>?_⟩
      by_cases ek:k'=k
      ·subst ek;exact hch
      ·exact HD.out k' hk' (by rw[← hl2 _ (λe=>ek (by injection e))];exact hl')
     case measure=>rw[hrg2.left_eq,hrg.left_eq];exact hlt
   ·rw[hch]at hcall
    go_wp2_with fail
    go_region_with (go_at_call 125;refine (hcall.out _ rfl).mono ?_;rintro e w' ⟨rfl,rfl⟩)
    all_goals
     clear d0 d1 hen
     go_wp2_with fail
     exact H1.out ⟨k,hks,hch⟩ _ hkp2
end
end
section
open Go.RowKit Go.Maps
section
variable {own own':Nat→Lab}{c:Nat}{w w':World}{p:Nat}{s:XS}{mo ph mv mm:Nat}{pt mw:Int→Nat}{sl:ByteArray→Value}
theorem zrz (g:ByteArray→Int→Option (ByteArray × Bool))(k:ByteArray)(m:Int)(v:ByteArray × Bool):(λa b=>((zbf g k m (some v)) a b).map z4b)=zbf (λa b=>(g a b).map z4b) k m (some (z4b v)):=by
 funext a b
 by_cases e:a=k∧b=m
 ·simp[zbf,e]
 ·simp[zbf,e]
theorem z7z (mom:ByteArray→List Int)(sl:ByteArray→Value)(key:ByteArray)(t:Int)(v':Value) :
  zhe (z3b λk=>if mom k=[] then none else some (sl k)) (.string key) v' (z3b λk=>if (zhb mom key (mom key++[t])) k=[] then none else some (zhb sl key v' k)):=by
 have:(λk=>if (zhb mom key (mom key++[t])) k=[] then none else some (zhb sl key v' k))=zhb (λk=>if mom k=[] then none else some (sl k)) key (some v'):=by
  funext k
  by_cases e:k=key
  ·subst e;simp[zhb]
  ·simp[zhb,e]
 rw[this];exact zkk _ _ _
variable {R:Ending→World→Prop}
theorem za4 (h:XR own c w p s mo ph mv mm pt mw sl)(key val:ByteArray)(g:Bool)(t:Int)(hlen:key.size≤8)(hwt:(Lit.int .i64 t).wf=true)(hl:(s.mom key).length<1000000)(hnm:s.nm<1000000)(hnv:s.nv<1000000)
  (hR:∀w' own' sl' nv' nm',Kp (λb=>b=mv∨b=mm∨own b=⟨c,7,0,key⟩) w w'→(∀b,b<w.heap.size→own' b=own b)→nv'≤s.nv+1→nm'≤s.nm+1→
   XR own' c w' p { s with mom:=zhb s.mom key (s.mom key++[t]),ver:=zbf s.ver key t (some (val,g)),nv:=nv',nm:=nm' } mo ph mv mm pt mw sl'→R (.returned (.tuple #[])) w') :
  Calls Tryz.prog 79 #[.pointer (some ⟨ph,0,none⟩),.string key,.int .i64 t,.agg #[.string val,.bool g]] w R:=by
 have c0:w.cell? ⟨ph,0,none⟩=some (.map (some mv)):=zg h.hist 0
 have c1:w.cell? ⟨ph,1,none⟩=some (.map (some mm)):=zg h.hist 1
 have hne:mv≠mm:=zfb (own:=own) (by rw[h.ownV,h.ownM];simp)
 -- the slice that is there
 obtain⟨v,hv,hrow,hvo⟩:∃v,((z3b λk=>if s.mom k=[] then none else some (sl k)) (.string key)).getD (.slice none 0 0)=v∧w.ownsRow 0 3 1 v (s.mom key).length ((s.mom key).map (Value.int .i64))∧∀b,v.ownBlock=some b→own b=⟨c,7,0,key⟩:=by
  by_cases hm:s.mom key=[]
  ·exact⟨.slice none 0 0,by rw[zcc,if_pos hm];rfl,by rw[hm];exact World.ownsRow_nil w 0 3 1,λb hb=>by simp[Value.ownBlock]at hb⟩
  ·exact⟨sl key,by rw[zcc,if_neg hm];rfl,h.row key hm,h.ownR key hm⟩
 have hvp:v.ownBlock≠some ph:=λe=>by have:=hvo ph e;rw[h.ownH]at this;simp at this
 have hp:zhe (zkf λk m=>(s.ver k m).map z4b) (.agg #[.string key,.int .i64 t]) (.agg #[.string val,.bool g]) (zkf λk m=>((zbf s.ver key t (some (val,g))) k m).map z4b):=by
  rw[zrz];exact z5z _ _ _ _
 refine zc1 ph mv mm s.nm s.nv _ _ key val g t w c0 c1 h.moms h.vers hne hnm hnv hlen hwt v (s.mom key) hv hrow hl hvp hp (λw' v' hk hvers hmoms hrow' hloc=>?_)
 have hk':Kp (λb=>b=mv∨b=mm∨own b=⟨c,7,0,key⟩) w w':=hk.mono (λb _ hb=>hb.imp id (λhb=>hb.imp id (hvo b)))
 have hmoms':=hmoms _ (z7z s.mom sl key t v')
 generalize hnvE:(if (zkf (λk m=>Option.map z4b (s.ver k m)) (Value.agg #[Value.string key,Value.int IntKind.i64 t])).isSome=true then s.nv else s.nv+1)=nv' at hvers
 generalize hnmE:(if (z3b (λk=>if s.mom k=[] then none else some (sl k)) (Value.string key)).isSome=true then s.nm else s.nm+1)=nm' at hmoms'
 have b1:nv'≤s.nv+1:=by rw[← hnvE];split<;>omega
 have b2:nm'≤s.nm+1:=by rw[← hnmE];split<;>omega
 have old:∀b,b<w.heap.size→own b≠⟨c,3,0,eb⟩→own b≠⟨c,4,0,eb⟩→own b≠⟨c,7,0,key⟩→w'.heap[b]?=w.heap[b]?:=λb hb e1 e2 e3=>
  hk'.block b hb (λhb=>by
   rcases hb with hb|hb|hb
   ·exact e1 (by rw[hb,h.ownV])
   ·exact e2 (by rw[hb,h.ownM])
   ·exact e3 hb)
 have lp:=zh h.store;have lh:=zh h.hist;have lo:=h.opn.lt;have lv:=h.vers.lt;have lm:=h.moms.lt
 -- the labels: the new slice's block
 have hout:∀b,b<w.heap.size→(λb=>if v'.ownBlock=some b then (⟨c,7,0,key⟩:Lab) else own b) b=own b:=λb hb=>by
  by_cases e:v'.ownBlock=some b
  ·simp only[e,if_true]
   rcases hloc with hl|⟨b',hb',hge⟩
   ·exact (hvo b (hl ▸ e)).symm
   ·rw[hb']at e;cases e;omega
  ·simp[e]
 refine hR w' (λb=>if v'.ownBlock=some b then ⟨c,7,0,key⟩ else own b) (zhb sl key v') nv' nm' hk' hout b1 b2
  ⟨(hout p lp).trans h.ownP,(hout mo lo).trans h.ownO,(hout ph lh).trans h.ownH,(hout mv lv).trans h.ownV,(hout mm lm).trans h.ownM,?_,?_,?_,?_,?_,?_,hvers,hmoms',?_,?_,h.log.frame (λb hlt _ hk=>old b hlt (λe=>by rw[e]at hk;simp at hk) (λe=>by rw[e]at hk;simp at hk) (λe=>by rw[e]at hk;simp at hk)) (λb hlt _ _=>hout b hlt),h.bks.frame (λb hlt _ hk=>old b hlt (λe=>by rw[e]at hk;simp at hk) (λe=>by rw[e]at hk;simp at hk) (λe=>by rw[e]at hk;simp at hk)) (λb hlt _ _=>hout b hlt)⟩
 ·exact (old p lp (by rw[h.ownP];simp) (by rw[h.ownP];simp) (by rw[h.ownP];simp)).trans h.store
 ·exact (old ph lh (by rw[h.ownH];simp) (by rw[h.ownH];simp) (by rw[h.ownH];simp)).trans h.hist
 ·exact h.opn.of_block (old mo lo (by rw[h.ownO];simp) (by rw[h.ownO];simp) (by rw[h.ownO];simp))
 ·intro n t1 e1
  exact⟨(hout _ (zh (h.tx n t1 e1))).trans (h.ownT n t1 e1).1,(hout _ (h.wr n t1 e1).lt).trans (h.ownT n t1 e1).2⟩
 ·intro n t1 e1
  have hl:=(h.ownT n t1 e1).1
  exact (old _ (zh (h.tx n t1 e1)) (by rw[hl];simp) (by rw[hl];simp) (by rw[hl];simp)).trans (h.tx n t1 e1)
 ·intro n t1 e1
  have hl:=(h.ownT n t1 e1).2
  exact (h.wr n t1 e1).of_block (old _ (h.wr n t1 e1).lt (by rw[hl];simp) (by rw[hl];simp) (by rw[hl];simp))
 ·intro k hk b e
  by_cases ek:k=key
  ·subst ek
   rw[zxc]at e
   simp[e]
  ·rw[z1b _ ek]at e
   have hm:s.mom k≠[]:=by simpa [zhb,ek] using hk
   exact (hout b ((h.row k hm).lt b e).2).trans (h.ownR k hm b e)
 ·intro k hk
  by_cases ek:k=key
  ·subst ek
   simp only[zxc,List.length_append,List.length_cons,List.length_nil,Nat.zero_add,List.map_append,List.map_cons,List.map_nil]
   exact hrow'
  ·have hm:s.mom k≠[]:=by simpa [zhb,ek] using hk
   simp only[z1b _ ek]
   have h0:=h.row k hm
   refine⟨h0.1,?_⟩
   rcases h0.2 with h1|⟨g,cap,cur,e,hg0,hg,r⟩
   ·exact Or.inl h1
   ·have hl:=h.ownR k hm g (by rw[e];rfl)
    exact Or.inr ⟨g,cap,cur,e,hg0,(old g (zh hg) (by rw[hl];simp) (by rw[hl];simp) (by rw[hl];simp[ek])).trans hg,r⟩
end
end
section
open Go.RowKit Go.Maps
def zqd (s:XS)(t:XT)(left:Value→Bool)(nv nm:Nat):XS:=
 { s with now:=s.now+1,mom:=λk=>if ((t.wr k).isSome && !left (.string k))=true then s.mom k++[s.now+1] else s.mom k,ver:=λk m=>if m=s.now+1∧((t.wr k).isSome && !left (.string k))=true then t.wr k else s.ver k m,nv:=nv,nm:=nm }
theorem zsu (s:XS)(t:XT)(left:Value→Bool)(h:∀k,left (.string k)=(t.wr k).isSome):zqd s t left s.nv s.nm={ s with now:=s.now+1 }:=by
 have:∀k,((t.wr k).isSome && !left (.string k))=false:=λk=>by rw[h k];cases (t.wr k).isSome<;>rfl
 simp[zqd,this]
theorem zew (s:XS)(t:XT)(left left':Value→Bool)(nv nm nv' nm':Nat)(k:ByteArray)(v:ByteArray × Bool)(hk:t.wr k=some v)(hl:left (.string k)=true)(hl1:left' (.string k)=false)(hl2:∀z,z≠.string k→left' z=left z) :
  { zqd s t left nv nm with mom:=zhb (zqd s t left nv nm).mom k ((zqd s t left nv nm).mom k++[s.now+1]),ver:=zbf (zqd s t left nv nm).ver k (s.now+1) (some v),nv:=nv',nm:=nm' }=zqd s t left' nv' nm':=by
 have hne:∀a:ByteArray,a≠k→Value.string a≠Value.string k:=λa ha e=>ha (by injection e)
 simp only[zqd,XS.mk.injEq,true_and,and_true]
 refine⟨?_,?_⟩
 ·funext a
  by_cases e:a=k
  ·subst e;simp[zhb,hk,hl,hl1]
  ·simp[zhb,e,hl2 _ (hne a e)]
 ·funext a m
  by_cases e:a=k
  ·subst e
   by_cases em:m=s.now+1
   ·subst em;simp[zbf,hk,hl1]
   ·simp[zbf,em]
  ·simp[zbf,e,hl2 _ (hne a e)]
section
variable {own own':Nat→Lab}{c:Nat}{w w':World}{p:Nat}{s:XS}{mo ph mv mm:Nat}{pt mw:Int→Nat}{sl:ByteArray→Value}
theorem XR.tick (h:XR own c w p s mo ph mv mm pt mw sl)(n:Int):XR own c (w.setCell ⟨p,2,none⟩ (.int .i64 n)) p { s with now:=n } mo ph mv mm pt mw sl:=by
 have hb:∀b,b≠p→(w.setCell ⟨p,2,none⟩ (.int .i64 n)).heap[b]?=w.heap[b]?:=λb hb=>Below.heap_setCell w _ _ b hb
 refine⟨h.ownP,h.ownO,h.ownH,h.ownV,h.ownM,?_,?_,?_,h.ownT,?_,?_,?_,?_,h.ownR,λk hk=>?_,h.log.frame (λb _ _ hk=>hb b (zaj h.ownP hk (by omega))) (λ_ _ _ _=>rfl),h.bks.frame (λb _ _ hk=>hb b (zsl h.ownP hk (by omega))) (λ_ _ _ _=>rfl)⟩
 ·rw[zq h.store];rfl
 ·exact (hb ph (zfb (own:=own) (by rw[h.ownH,h.ownP];simp))).trans h.hist
 ·exact h.opn.of_block (hb mo (zfb (own:=own) (by rw[h.ownO,h.ownP];simp)))
 ·intro n t e
  exact (hb _ (zfb (own:=own) (by rw[(h.ownT n t e).1,h.ownP];simp))).trans (h.tx n t e)
 ·intro n t e
  exact (h.wr n t e).of_block (hb _ (zfb (own:=own) (by rw[(h.ownT n t e).2,h.ownP];simp)))
 ·exact h.vers.of_block (hb mv (zfb (own:=own) (by rw[h.ownV,h.ownP];simp)))
 ·exact h.moms.of_block (hb mm (zfb (own:=own) (by rw[h.ownM,h.ownP];simp)))
 ·have h0:=h.row k hk
  refine⟨h0.1,?_⟩
  rcases h0.2 with h1|⟨g,cap,cur,e,hg0,hg,r⟩
  ·exact Or.inl h1
  ·exact Or.inr ⟨g,cap,cur,e,hg0,(hb g (zfb (own:=own) (by rw[h.ownR k hk g (by rw[e];rfl),h.ownP];simp))).trans hg,r⟩
theorem XR.setHor (h:XR own c w p s mo ph mv mm pt mw sl)(n:Int):XR own c (w.setCell ⟨p,1,none⟩ (.int .i64 n)) p { s with hor:=n } mo ph mv mm pt mw sl:=by
 have hb:∀b,b≠p→(w.setCell ⟨p,1,none⟩ (.int .i64 n)).heap[b]?=w.heap[b]?:=λb hb=>Below.heap_setCell w _ _ b hb
 refine⟨h.ownP,h.ownO,h.ownH,h.ownV,h.ownM,?_,?_,?_,h.ownT,?_,?_,?_,?_,h.ownR,λk hk=>?_,h.log.frame (λb _ _ hk=>hb b (zaj h.ownP hk (by omega))) (λ_ _ _ _=>rfl),h.bks.frame (λb _ _ hk=>hb b (zsl h.ownP hk (by omega))) (λ_ _ _ _=>rfl)⟩
 ·rw[zq h.store];rfl
 ·exact (hb ph (zfb (own:=own) (by rw[h.ownH,h.ownP];simp))).trans h.hist
 ·exact h.opn.of_block (hb mo (zfb (own:=own) (by rw[h.ownO,h.ownP];simp)))
 ·intro n t e
  exact (hb _ (zfb (own:=own) (by rw[(h.ownT n t e).1,h.ownP];simp))).trans (h.tx n t e)
 ·intro n t e
  exact (h.wr n t e).of_block (hb _ (zfb (own:=own) (by rw[(h.ownT n t e).2,h.ownP];simp)))
 ·exact h.vers.of_block (hb mv (zfb (own:=own) (by rw[h.ownV,h.ownP];simp)))
 ·exact h.moms.of_block (hb mm (zfb (own:=own) (by rw[h.ownM,h.ownP];simp)))
 ·have h0:=h.row k hk
  refine⟨h0.1,?_⟩
  rcases h0.2 with h1|⟨g,cap,cur,e,hg0,hg,r⟩
  ·exact Or.inl h1
  ·exact Or.inr ⟨g,cap,cur,e,hg0,(hb g (zfb (own:=own) (by rw[h.ownR k hk g (by rw[e];rfl),h.ownP];simp))).trans hg,r⟩
variable {R:Ending→World→Prop}
set_option maxRecDepth 20000 in
set_option maxHeartbeats 400000 in
theorem zps (p mo n:Nat)(f:Value→Option Value)(tx:Int)(w:World)(c2:w.cell? ⟨p,7,none⟩=some (.map (some mo)))(hown:fmap w Tryz.prog 3 mo n f)(hwx:(Lit.int .i64 tx).wf=true)(hf:f (.int .i64 tx)=none)
  (hR:R (.returned (.tuple #[.int .i64 0,.int .i64 2])) w) :
  Calls Tryz.prog 36 #[.pointer (some ⟨p,0,none⟩),.int .i64 tx] w R:=by
 have hkey:Hid _:=keyOf_int_mk Tryz.underlying3 hwx
 go_enter Tryz.func36,Tryz.ntmps36
 go_wp2_with (first
  |(at_lookup;refine z8 _ rfl _ _ 99 rfl 3 129 zld Tryz.underlying99 (zdf _) mo n f rfl hown (.int .i64 tx) _ rfl hkey.out _ hf ?_)
  |go_in)
 exact hR
theorem z4q (s:XS)(tx:Int)(pt:Int→Nat):zog (zpc λn=>(s.txs n).map λ_=>Value.pointer (some ⟨pt n,0,none⟩)) (.int .i64 tx) (zpc λn=>((zwb s.txs tx none) n).map λ_=>Value.pointer (some ⟨pt n,0,none⟩)):=by
 rw[zsm];exact zlm _ _
theorem zlo {txs:Int→Option XT}{tx:Int}:∀n t,(zwb txs tx none) n=some t→txs n=some t:=λn t e=>by
 by_cases en:n=tx
 ·subst en;rw[z6g]at e;cases e
 ·rw[zji _ en]at e;exact e
set_option maxRecDepth 20000 in
set_option maxHeartbeats 400000 in
theorem zno (h:XR own c w p s mo ph mv mm pt mw sl)(tx:Int)(hwx:(Lit.int .i64 tx).wf=true)(t:XT)(e:s.txs tx=some t)(hnw:t.nw=0)
  (hR:∀w',Kp (λb=>(own b).c=c) w w'→XR own c w' p { s with txs:=zwb s.txs tx none,nopen:=s.nopen-1 } mo ph mv mm pt mw sl→R (.returned (.tuple #[.int .i64 t.sees,.int .i64 0])) w') :
  Calls Tryz.prog 36 #[.pointer (some ⟨p,0,none⟩),.int .i64 tx] w R:=by
 have hkey:Hid _:=keyOf_int_mk Tryz.underlying3 hwx
 have c2:w.cell? ⟨p,7,none⟩=some (.map (some mo)):=zg h.store 7
 have d0:w.cell? ⟨pt tx,0,none⟩=some (.int .i64 t.sees):=zg (h.tx tx t e) 0
 have d1:w.cell? ⟨pt tx,1,none⟩=some (.map (some (mw tx))):=zg (h.tx tx t e) 1
 have hw:=h.wr tx t e
 rw[hnw]at hw
 have hf:(zpc λn=>(s.txs n).map λ_=>Value.pointer (some ⟨pt n,0,none⟩)) (.int .i64 tx)=some (.pointer (some ⟨pt tx,0,none⟩)):=by rw[zrc,e];rfl
 have H:Hid (XR own c w p s mo ph mv mm pt mw sl):=h
 have hopn:=h.opn
 have nT:pt tx≠mo:=zfb (own:=own) (by rw[(h.ownT tx t e).1,h.ownO];simp)
 have HR:Hid _:=hR
 have hg:Hid _:=z4q s tx pt
 clear h hR
 go_enter Tryz.func36,Tryz.ntmps36
 go_wp2_with (first
  |(at_lookup;refine z8 _ rfl _ _ 99 rfl 3 129 zld Tryz.underlying99 (zdf _) mo s.nopen _ rfl hopn (.int .i64 tx) _ rfl hkey.out _ hf ?_)
  |(at_len;refine zuf _ rfl _ 130 rfl 9 138 Tryz.underlying130 (mw tx) 0 _ rfl hw ?_)
  |(at_delete;refine zhg _ rfl _ _ 99 3 rfl 129 zld Tryz.underlying99 mo s.nopen _ rfl hopn (.int .i64 tx) _ rfl hkey.out hg.out ?_;intro w1 hown1 hturn1;have d0':w1.cell? ⟨pt tx,0,none⟩=some (.int .i64 t.sees):=(World.cell?_of_block (w:=w) (zlb hturn1 _ nT)).trans d0)
  |go_in)
 rw[hf]at hown1
 exact HR.out w1 (Kp.of_turned hturn1 (by rw[H.out.ownO])) (H.out.reopen (λb hb=>zlb hturn1 b hb) _ _ hown1 zlo)
end
end
section
open Go.RowKit Go.Maps
def zvb (s:XS)(k:ByteArray)(t:Int):ByteArray × Bool:=
 match ((s.mom k).filter (λm=>decide (m≤t))).getLast? with
 |none=>(eb,false)
 |some m=>match s.ver k m with|some v=>(v.1,!v.2)|none=>(eb,true)
theorem zng:∀(l:List Int) (t:Int),l.Pairwise (·<·)→l.filter (λm=>decide (m≤t))=l.take (l.countP (λm=>decide (m≤t)))
 |[],_,_=>rfl
 |x::r,t,h=>by
  obtain⟨h1,h2⟩:=List.pairwise_cons.1 h
  by_cases hx:x≤t
  ·rw[List.filter_cons_of_pos (by simpa using hx),List.countP_cons_of_pos (by simpa using hx),List.take_succ_cons,zng r t h2]
  ·have hr:∀y∈r,¬y≤t:=λy hy=>by have:=h1 y hy;omega
   have e1:r.filter (λm=>decide (m≤t))=[]:=by
    rw[List.filter_eq_nil_iff];intro y hy;simpa using hr y hy
   have e2:r.countP (λm=>decide (m≤t))=0:=by
    rw[List.countP_eq_zero];intro y hy;simpa using hr y hy
   rw[List.filter_cons_of_neg (by simpa using hx),List.countP_cons_of_neg (by simpa using hx),e1,e2];rfl
section
variable {own own':Nat→Lab}{c:Nat}{w w':World}{p:Nat}{s:XS}{mo ph mv mm:Nat}{pt mw:Int→Nat}{sl:ByteArray→Value}
variable {R:Ending→World→Prop}
theorem z3j (h:XR own c w p s mo ph mv mm pt mw sl)(key:ByteArray)(t:Int)(hlen:key.size≤8)(hl:(s.mom key).length<1000000)(hs:(s.mom key).Pairwise (·<·))(hw:∀m∈s.mom key,(Lit.int .i64 m).wf=true∧(s.ver key m).isSome=true)
  (hR:∀w',Kp (λ_=>False) w w'→R (.returned (.tuple #[.string (zvb s key t).1,.bool (zvb s key t).2])) w') :
  Calls Tryz.prog 91 #[.pointer (some ⟨ph,0,none⟩),.string key,.int .i64 t] w R:=by
 have c0:w.cell? ⟨ph,0,none⟩=some (.map (some mv)):=zg h.hist 0
 have c1:w.cell? ⟨ph,1,none⟩=some (.map (some mm)):=zg h.hist 1
 by_cases hm:s.mom key=[]
 ·have hv:zvb s key t=(eb,false):=by simp[zvb,hm]
  rw[hv]at hR
  exact zkt ph mm s.nm _ key t w c1 h.moms hlen none 0 (by rw[zcc,if_pos hm];rfl) (hR w (Kp.refl _ _))
 ·obtain⟨g,cap,hv,hc⟩:=zoe (h.row key hm) hm
  have hf:((z3b λk=>if s.mom k=[] then none else some (sl k)) (.string key)).getD (.slice none 0 0) = .slice (some ⟨g,0,none⟩) (s.mom key).length cap:=by rw[zcc,if_neg hm,hv];rfl
  have hft:=zng (s.mom key) t hs
  by_cases h0:(s.mom key).countP (λm=>decide (m≤t))=0
  ·have hval:zvb s key t=(eb,false):=by simp[zvb,hft,h0]
   rw[hval]at hR
   exact zvv ph mm s.nm _ key t w c1 h.moms hlen g cap (s.mom key) hf hl hc hs h0 (λq=>hR _ (Kp.drewN _ _ _))
  ·obtain⟨idx,hidx⟩:∃idx,(s.mom key).countP (λm=>decide (m≤t))=idx+1:=⟨_,(Nat.succ_pred_eq_of_ne_zero h0).symm⟩
   have hle:idx+1≤(s.mom key).length:=by rw[← hidx];exact List.countP_le_length
   have hmem:(s.mom key).getD idx 0∈s.mom key:=by
    simp only[List.getD,List.getElem?_eq_getElem (show idx<(s.mom key).length by omega),Option.getD_some]
    exact List.getElem_mem _
   obtain⟨hwf,hsome⟩:=hw _ hmem
   obtain⟨v,hv'⟩:=Option.isSome_iff_exists.1 hsome
   have hlast:((s.mom key).filter (λm=>decide (m≤t))).getLast?=some ((s.mom key).getD idx 0):=by
    rw[hft,hidx,List.getLast?_eq_getElem?,List.length_take,Nat.min_eq_left hle,Nat.add_sub_cancel,List.getElem?_take]
    simp[List.getD,List.getElem?_eq_getElem (show idx<(s.mom key).length by omega)]
   have hval:zvb s key t=(v.1,!v.2):=by simp only[zvb,hlast,hv']
   rw[hval]at hR
   exact zwv ph mv mm s.nm s.nv _ _ key t w c0 c1 h.moms h.vers hlen g cap (s.mom key) hf hl hc hs idx hidx _ rfl hwf v.1 v.2 (by rw[zol,hv'];rfl) hR
def zuc (s:XS)(t:XT)(k:ByteArray):ByteArray × Bool:=match t.wr k with|some v=>(v.1,!v.2)|none=>zvb s k t.sees
structure zxf (s:XS)(k:ByteArray):Prop where
 len:(s.mom k).length<1000000
 up:(s.mom k).Pairwise (·<·)
 ver:∀m∈s.mom k,(Lit.int .i64 m).wf=true∧(s.ver k m).isSome=true
set_option maxRecDepth 20000 in
set_option maxHeartbeats 1000000 in
theorem z4n (h:XR own c w p s mo ph mv mm pt mw sl)(tx:Int)(t:XT)(e:s.txs tx=some t)(key:ByteArray)(hlen:key.size≤8)(hm:zxf s key)
  (hR:∀w',Kp (λ_=>False) w w'→R (.returned (.tuple #[.string (zuc s t key).1,.bool (zuc s t key).2])) w') :
  Calls Tryz.prog 155 #[.pointer (some ⟨p,0,none⟩),.pointer (some ⟨pt tx,0,none⟩),.string key] w R:=by
 have hkey:Hid _:=WideMaps.keyOf_string_mk Tryz.underlying9 (show key.size≤maxLen by unfold maxLen;omega)
 have d0:w.cell? ⟨pt tx,0,none⟩=some (.int .i64 t.sees):=zg (h.tx tx t e) 0
 have d1:w.cell? ⟨pt tx,1,none⟩=some (.map (some (mw tx))):=zg (h.tx tx t e) 1
 have d3:w.cell? ⟨p,0,none⟩=some (.pointer (some ⟨ph,0,none⟩)):=zg h.store 0
 have hw:=h.wr tx t e
 cases ek:t.wr key with
 |some v=>
  have hv:zuc s t key=(v.1,!v.2):=by simp[zuc,ek]
  rw[hv]at hR
  have HR:Hid _:=hR
  have hf:(z3b λk=>(t.wr k).map z4b) (.string key)=some (.agg #[.string v.1,.bool v.2]):=by rw[zcc,ek];rfl
  obtain⟨x,y⟩:=v
  clear hR hv h
  go_enter Tryz.func155,Tryz.ntmps155
  go_wp2_with (first
   |(at_lookup;refine z8 _ rfl _ _ 130 rfl 9 138 zdd Tryz.underlying130 (zil _) (mw tx) t.nw _ rfl hw (.string key) _ rfl hkey.out _ hf ?_)
   |go_in)
  go_region
  all_goals
   try go_wp2_with fail
   exact HR.out _ ((Kp.alloc _ _ _).trans (Kp.drew (λ_=>False) _) (λ_ _ h=>h))
 |none=>
  have hv:zuc s t key=zvb s key t.sees:=by simp[zuc,ek]
  rw[hv]at hR
  have HR:Hid _:=hR
  have hf:(z3b λk=>(t.wr k).map z4b) (.string key)=none:=by rw[zcc,ek];rfl
  have H:Hid (XR own c w p s mo ph mv mm pt mw sl):=h
  clear hR hv h
  go_enter Tryz.func155,Tryz.ntmps155
  go_wp2_with (first
   |(at_lookup;refine z8 _ rfl _ _ 130 rfl 9 138 zdd Tryz.underlying130 (zil _) (mw tx) t.nw _ rfl hw (.string key) _ rfl hkey.out _ hf ?_)
   |go_in)
  have hkw:Kp (λ_=>False) w (w.alloc (Obj.cells #[Value.string ByteArray.empty,Value.bool false] 138)):=Kp.alloc _ _ _
  generalize w.alloc (Obj.cells #[Value.string ByteArray.empty,Value.bool false] 138)=W at hkw ⊢
  have hx:=H.out.kept hkw
  have a0:W.cell? ⟨pt tx,0,none⟩=some (.int .i64 t.sees):=zg (hx.tx tx t e) 0
  have a3:W.cell? ⟨p,0,none⟩=some (.pointer (some ⟨ph,0,none⟩)):=zg hx.store 0
  have hxd:Hid (XR own c W.drew p s mo ph mv mm pt mw sl):=hx.kept (Kp.drew _ _)
  have hkd:Hid (Kp (λ_=>False) w W.drew):=hkw.trans (Kp.drew _ _) (λ_ _ h=>h)
  clear hx hkw hw hf d0 d1 d3
  go_region_with (go_at_call 91;refine z3j hxd.out key t.sees hlen hm.len hm.up hm.ver (λw1 hk1=>?_))
  all_goals
   go_wp2_with fail
   go_ret2
   exact HR.out _ (hkd.out.trans hk1 (λ_ _ h=>h))
end
end
end Go.Proofs.YthbdpfccfcceiaaGreatDoor
