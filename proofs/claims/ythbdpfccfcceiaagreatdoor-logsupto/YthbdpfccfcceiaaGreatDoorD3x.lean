/-
  Of the proof of logsUpto_card.
-/
import Derived.Test.YthbdpfccfcceiaaGreatDoorY1x
import Derived.Maps.AppendAt
import Derived.Lib.AppendStr
import Derived.Laws.AppendOwn
import Derived.Deep.RegionLaw
import Derived.Conc.Own4
namespace Go.Proofs.YthbdpfccfcceiaaGreatDoor
section
open Go.RowKit Go.Lib
theorem zon:(Tryz.prog.info? 5).map (λi=>(i.zero,i.size,i.bytes))=some (some (.int .u8 0),1,1):=by kernel_rfl
theorem ziq (bs:List UInt8):∀u∈bs.map b8,u.oneCell'=true:=λu hu=>by
 obtain⟨x,_,rfl⟩:=List.mem_map.1 hu;rfl
theorem zht (s:ByteArray):strCells s=s.data.toList.map b8:=by simp[strCells,b8]
theorem zub (g o j:Nat):(⟨g,o,none⟩:Addr).add j=⟨g,o+j,none⟩:=by unfold Addr.add;split<;>simp_all
theorem BR.lt {base:Nat}{w:World}{v:Value}{bs:List UInt8}(h:BR base w v bs):∀b,v.ownBlock=some b→base≤b∧b<w.heap.size:=World.ownsRow.lt h
theorem BR.kp {S:Nat→Prop}{base:Nat}{w w':World}{v:Value}{bs:List UInt8}(h:BR base w v bs)(hk:Kp S w w')(hs:∀b,v.ownBlock=some b→¬S b):BR base w' v bs:=by
 refine⟨h.1,?_⟩
 rcases h.2 with h0|⟨g,cap,cur,rfl,hb,hg,r⟩
 ·exact Or.inl h0
 ·exact Or.inr ⟨g,cap,cur,rfl,hb,(hk.block g (Array.getElem?_eq_some_iff.1 hg).1 (hs g rfl)).trans hg,r⟩
theorem BR.kept {base:Nat}{w w':World}{v:Value}{bs:List UInt8}(h:BR base w v bs)(hk:Kp (λ_=>False) w w'):BR base w' v bs:=h.kp hk (λ_ _ e=>e)
theorem BR.mono {base base':Nat}{w:World}{v:Value}{bs:List UInt8}(h:BR base w v bs)(hb:base'≤base):BR base' w v bs:=
 ⟨h.1,h.2.imp id (λ⟨g,cap,cur,e1,e2,e3⟩=>⟨g,cap,cur,e1,Nat.le_trans hb e2,e3⟩)⟩
theorem RdB.kp {S:Nat→Prop}{w w':World}{v:Value}{bs:List UInt8}(h:RdB w v bs)(hk:Kp S w w')(hs:∀b,v.ownBlock=some b→¬S b):RdB w' v bs:=by
 obtain⟨p,cap,rfl,h1⟩:=h
 refine⟨p,cap,rfl,λhb=>?_⟩
 obtain⟨g,o,rfl,hc⟩:=h1 hb
 exact⟨g,o,rfl,λj hj=>(hk.cell (a:=⟨g,o+j,none⟩) (World.block_lt_of_cell? w _ (hc j hj)) (hs g rfl)).trans (hc j hj)⟩
theorem RdB.kept {w w':World}{v:Value}{bs:List UInt8}(h:RdB w v bs)(hk:Kp (λ_=>False) w w'):RdB w' v bs:=h.kp hk (λ_ _ e=>e)
theorem RdB.form {w:World}{v:Value}{bs:List UInt8}(h:RdB w v bs)(hb:bs≠[]):∃g o cap,v = .slice (some ⟨g,o,none⟩) bs.length cap∧∀j u,(bs.map b8)[j]?=some u→w.cell? ((⟨g,o,none⟩:Addr).add j)=some u:=by
 obtain⟨p,cap,rfl,h1⟩:=h
 obtain⟨g,o,rfl,hc⟩:=h1 hb
 refine⟨g,o,cap,rfl,λj u hu=>?_⟩
 rw[List.getElem?_map]at hu
 have hj:j<bs.length:=by
  rcases Nat.lt_or_ge j bs.length with h|h
  ·exact h
  ·rw[List.getElem?_eq_none h]at hu;cases hu
 rw[List.getElem?_eq_getElem hj]at hu
 rw[zub,hc j hj]
 simp only[List.getD,List.getElem?_eq_getElem hj]
 simpa using hu
theorem zsb {ops:Array Oper}{rest:List Oper}{o:Oper}{a:Act}{Q:Exit→Act→World→Prop}(w:World)(hgd:o.guard=none)(s x:Operand)
  (ho:o.op = .call { callee:=.builtin .append,args:=#[s,x],argTypes:=#[48,48] })
  (base:Nat) (v:Value) (bs:List UInt8) (hs:a.eval s=v) (hown:BR base w v bs) (xv:Value) (news:List UInt8) (hx:a.eval x=xv) (hr:RdB w xv news) (hne:news≠[])
  (hl:bs.length+news.length≤1000000000) (hbase:base≤w.heap.size)
  (h:∀v' w',BR base w' v' (bs++news)→Kp (λb=>v.ownBlock=some b) w w'→(v'.ownBlock=v.ownBlock∨v'.ownBlock=some w.heap.size)→wpList Tryz.prog ops Q rest (a.put o.dst v') w') :
  wpList Tryz.prog ops Q (o::rest) a w:=by
 obtain⟨i0,hi,hz0,hz1,hz2⟩:=info_parts zon
 obtain⟨g,of,cap,rfl,hc⟩:=hr.form hne
 refine wpList_append_own_at _ hgd s x 48 ho base 5 i0 (.int .u8 0) 1 1 Tryz.underlying48 hi hz0 hz1 hz2 rfl (by decide) v bs.length (bs.map b8) hs hown ⟨g,of,none⟩ news.length cap (news.map b8) hx (by simp) hc (ziq _) (by unfold maxLen;omega) (by omega) hbase (λv' w' h1 h2 _ h4=>?_)
 refine h v' w' ?_ (Kp.of_grown h2 (λ_ e=>e)) h4
 unfold BR
 rw[List.length_append,List.map_append]
 exact h1
theorem Kp.cellv {w0 w1:World}{v x:Value}{a:Addr}{n:Nat}(hk:Kp (λb=>v.ownBlock=some b) w0 w1)(hne:∀b,v.ownBlock=some b→b<n)(hn:n≤a.block)(h:w0.cell? a=some x):w1.cell? a=some x:=
 (hk.cell (World.block_lt_of_cell? w0 _ h) (λe=>by have:=hne _ e;omega)).trans h
theorem zpd {P:Program}{ops:Array Oper}{o:Oper}{a:Act}{w:World}{K:Act→World→Prop}{Q:Exit→Act→World→Prop}{E:Prop}
  (hg : o.guard = none) (f : FuncId) (fn : Func) (args : Array Operand) (ats : Array TypeId) (hop : o.op = .call { callee := .value (.func f), args, argTypes := ats }) (hf : P.funcs[f]? = some fn) (hname : (fn.name == "runtime.NumGoroutine") = false) (hb : fn.body.isNone = false)
  (vs:Array Value) (hvs:args.map a.eval=vs) (hc:Calls P f vs w (λe w'=>∃v,e = .returned v∧K (a.put o.dst v) w')) :
  if Region.wanted o (yielded ops a.tmps)=true then Oper.wp P o a w K Q else E:=by
 have hw:Region.wanted o (yielded ops a.tmps)=true:=by simp[Region.wanted,hg]
 rw[if_pos hw]
 subst hvs
 unfold Oper.wp
 rw[Conc.run_call_body hop hf hname hb,Oper.upon_enter]
 refine hc.mono λe w' hh=>?_
 obtain⟨v,rfl,h⟩:=hh
 exact h
theorem zvr {ops:Array Oper}{o:Oper}{a:Act}{w:World}{K:Act→World→Prop}{Q:Exit→Act→World→Prop}{E:Prop}(hg:o.guard=none)(s x:Operand)
  (hop:o.op = .call { callee:=.builtin .append,args:=#[s,x],argTypes:=#[48,48] })
  (base:Nat) (v:Value) (bs:List UInt8) (hs:a.eval s=v) (hown:BR base w v bs) (xv:Value) (news:List UInt8) (hx:a.eval x=xv) (hr:RdB w xv news) (hne:news≠[])
  (hl:bs.length+news.length≤1000000000) (hbase:base≤w.heap.size)
  (hK:∀v' w',BR base w' v' (bs++news)→Kp (λb=>v.ownBlock=some b) w w'→(v'.ownBlock=v.ownBlock∨v'.ownBlock=some w.heap.size)→K (a.put o.dst v') w') :
  if Region.wanted o (yielded ops a.tmps)=true then Oper.wp Tryz.prog o a w K Q else E:=by
 have hw:Region.wanted o (yielded ops a.tmps)=true:=by simp[Region.wanted,hg]
 rw[if_pos hw]
 obtain⟨i0,hi,hz0,hz1,hz2⟩:=info_parts zon
 obtain⟨g,of,cap,rfl,hc⟩:=hr.form hne
 obtain⟨v',w',hrun,r1,r2,_,r4⟩:=run_append_own_at (P:=Tryz.prog) w base 48 o.type 5 i0 (.int .u8 0) 1 1 Tryz.underlying48 hi hz0 hz1 hz2 rfl (by decide) v bs.length (bs.map b8) hown ⟨g,of,none⟩ news.length cap (news.map b8) (by simp) hc (ziq _) (by unfold maxLen;omega) (by omega) hbase
 unfold Oper.wp
 simp[execOp,hop,resolve,invoke,builtin,hs,hx,hrun,Result.andThen]
 refine hK v' w' ?_ (Kp.of_grown r2 (λ_ e=>e)) r4
 unfold BR
 rw[List.length_append,List.map_append]
 exact r1
theorem zt0 {ops:Array Oper}{rest:List Oper}{o:Oper}{a:Act}{Q:Exit→Act→World→Prop}(w:World)(hgd:o.guard=none)(s x:Operand)
  (ho:o.op = .call { callee:=.builtin .append,args:=#[s,x],argTypes:=#[48,9] })
  (base:Nat) (v:Value) (bs:List UInt8) (hs:a.eval s=v) (hown:BR base w v bs) (t:ByteArray) (hx:a.eval x = .string t)
  (hl:bs.length+t.size≤1000000000) (hbase:base≤w.heap.size)
  (h:∀v' w',BR base w' v' (bs++t.data.toList)→Kp (λb=>v.ownBlock=some b) w w'→wpList Tryz.prog ops Q rest (a.put o.dst v') w') :
  wpList Tryz.prog ops Q (o::rest) a w:=by
 obtain⟨i0,hi,hz0,hz1,hz2⟩:=info_parts zon
 refine wpList_append_own_string _ hgd s x 48 9 ho base 5 i0 Tryz.underlying48 Tryz.underlying9 hi hz0 hz1 hz2 v bs.length (bs.map b8) hs hown t hx (by unfold maxLen;omega) (by omega) hbase (λv' w' h1 h2 _=>?_)
 refine h v' w' ?_ (Kp.of_grown h2 (λ_ e=>e))
 unfold BR
 rw[zht]at h1
 rw[List.length_append,List.map_append,show t.data.toList.length=t.size by simp]
 exact h1
theorem z7e (w:World)(cs:Array Value)(bs:List UInt8)(hc:cs.toList=bs.map b8)(hl:bs.length≤1000000):BR w.heap.size (w.alloc (.cells cs 5)) (.slice (some ⟨w.heap.size,0,none⟩) bs.length bs.length) bs:=by
 have hs:cs.size=bs.length:=by rw[← Array.length_toList,hc];simp
 exact⟨by simp,Or.inr ⟨w.heap.size,bs.length,cs,rfl,Nat.le_refl _,heap_alloc_new w _,Nat.le_refl _,by unfold maxLen;omega,by omega,by rw[hc,Nat.mul_one,List.take_of_length_le (by simp)]⟩⟩
theorem zml (w:World)(n:Nat)(hn:w.heap.size=n)(cs:Array Value)(bs:List UInt8)(hc:cs.toList=bs.map b8)(hl:bs.length≤1000000):BR n (w.alloc (.cells cs 5)) (.slice (some ⟨n,0,none⟩) bs.length bs.length) bs:=by
 subst hn;exact z7e w cs bs hc hl
section
variable {R:Ending→World→Prop}
theorem z3q (n:Nat):(fourB n).map b8=[.int .u8 ((n:Int) % 256),.int .u8 ((n:Int) / 256 % 256),.int .u8 ((n:Int) / 65536 % 256),.int .u8 ((n:Int) / 16777216 % 256)]:=by
 simp only[fourB,List.map_cons,List.map_nil,b8,z2d]
 simp
set_option maxRecDepth 20000 in
set_option maxHeartbeats 1000000 in
theorem zih (base:Nat)(v:Value)(bs:List UInt8)(n:Nat)(w:World)(hv:BR base w v bs)(hn:n<4294967296)(hl:bs.length≤100000000)(hbase:base≤w.heap.size)
  (hR:∀v' w',BR base w' v' (bs++fourB n)→Kp (λb=>v.ownBlock=some b) w w'→R (.returned v') w') :
  Calls Tryz.prog 140 #[v,.int .u32 n] w R:=by
 have HR:=ze hR
 have HV:=ze hv
 have HL:=ze hl
 have HB:=ze hbase
 clear hR hv hl hbase
 go_enter Tryz.func140,Tryz.ntmps140
 go_wp2_with (first
  |(at_builtin;refine zsb _ rfl _ _ rfl base v bs rfl (HV.out.kept (Kp.alloc _ _ _)) _ (fourB n) rfl (BR.rd (z7e w _ (fourB n) (by rw[z3q,show ((n:Int) / 16777216 % 256)=(n:Int) / 16777216 by omega]) (by rw[zmb];omega))) (by simp[fourB]) (by rw[zmb];have:=HL.out;omega) (by have:=HB.out;simp;omega) ?_;intro v' w' hv' hk' hloc)
  |go_in)
 exact HR.out v' w' hv' ((Kp.alloc _ _ _).trans hk' (λb hb e=>e))
set_option maxRecDepth 20000 in
set_option maxHeartbeats 1000000 in
theorem ztr (base:Nat)(v:Value)(bs:List UInt8)(w:World)(hT:Tab w)(hv:BR base w v bs)(hl:bs.length≤100000000)(hbase:base≤w.heap.size)
  (hR:∀v' w',BR base w' v' (z8c bs)→Kp (λb=>v.ownBlock=some b) w w'→R (.returned v') w') :
  Calls Tryz.prog 176 #[v] w R:=by
 have HR:=ze hR
 have HV:=ze hv
 have HL:=ze hl
 have HB:=ze hbase
 have HT:=ze hT
 clear hR hv hl hbase hT
 go_enter Tryz.func176,Tryz.ntmps176
 go_wp2_with (first
  |(go_at_call 204;refine (zxn v bs _ HT.out (by have:=HL.out;omega) HV.out.rd).mono ?_;rintro e w' ⟨rfl,rfl⟩)
  |(go_at_call 140;refine zih base v bs (z5c bs) _ HV.out (zph bs) HL.out HB.out ?_;intro v1 w1 hv1 hk1)
  |go_in)
 exact HR.out v1 w1 hv1 hk1
theorem zzt {v v1:Value}{n b:Nat}(h:v1.ownBlock=v.ownBlock∨v1.ownBlock=some n)(e:v1.ownBlock=some b)(hb:b<n):v.ownBlock=some b:=by
 rcases h with h|h
 ·rw[← h];exact e
 ·rw[h]at e;cases e;omega
set_option maxRecDepth 20000 in
set_option maxHeartbeats 1000000 in
theorem zpj (base:Nat)(v:Value)(bs:List UInt8)(t:ByteArray)(w:World)(hv:BR base w v bs)(ht:t.size≤255)(hl:bs.length≤100000000)(hbase:base≤w.heap.size)
  (hR:∀v' w',BR base w' v' (bs++zac t)→Kp (λb=>v.ownBlock=some b) w w'→R (.returned v') w') :
  Calls Tryz.prog 210 #[v,.string t] w R:=by
 have HR:=ze hR
 have HV:=ze hv
 have HL:=ze hl
 have HB:=ze hbase
 have HS:=ze ht
 have ht':(t.size:Int)≤255:=by omega
 clear hR hv hl hbase ht
 go_enter Tryz.func210,Tryz.ntmps210
 go_wp2_with (first
  |(at_builtin;refine zsb _ rfl _ _ rfl base v bs rfl (HV.out.kept (Kp.alloc _ _ _)) _ [u8 t.size] rfl (BR.rd (z7e w _ [u8 t.size] (by have:=HS.out;simp[b8,z2d];omega) (by simp))) (by simp) (by have:=HL.out;simp;omega) (by have:=HB.out;simp;omega) ?_;intro v1 w1 hv1 hk1 hloc1;have HV1:=ze hv1;have HK1:=ze hk1;have HL1:=ze hloc1;clear hv1 hk1 hloc1)
  |(at_builtin;refine zt0 _ rfl _ _ rfl base v1 _ rfl HV1.out t rfl (by have:=HL.out;have:=HS.out;simp;omega) (by have:=HB.out;have:=HK1.out.size;simp at this;omega) ?_;intro v2 w2 hv2 hk2)
  |go_in)
 refine HR.out v2 w2 ?_ (((Kp.alloc _ _ _).trans HK1.out (λb hb e=>e)).trans hk2 (λb hb e=>zzt HL1.out e (by simp;omega)))
 rw[List.append_assoc]at hv2
 exact hv2
set_option maxRecDepth 20000 in
set_option maxHeartbeats 1000000 in
theorem zyl (base:Nat)(v:Value)(bs:List UInt8)(val:ByteArray)(g:Bool)(w:World)(hv:BR base w v bs)(ht:val.size≤255)(hl:bs.length≤10000000)(hbase:base≤w.heap.size)
  (hR:∀v' w',BR base w' v' (bs++zlg (val,g))→Kp (λb=>v.ownBlock=some b) w w'→R (.returned v') w') :
  Calls Tryz.prog 209 #[v,.agg #[.string val,.bool g]] w R:=by
 have HR:=ze hR
 have HL:=ze hl
 have HS:=ze ht
 have HV:Hid (BR base (w.alloc (.cells #[.string val,.bool g] 138)) v bs):=hv.kept (Kp.alloc _ _ _)
 have HB:Hid (base≤(w.alloc (.cells #[.string val,.bool g] 138)).heap.size):=by show base≤_;simp;omega
 have HK:Hid (Kp (λb=>v.ownBlock=some b) w (w.alloc (.cells #[.string val,.bool g] 138))):=Kp.alloc _ _ _
 have HV0:Hid (∀b,v.ownBlock=some b→b<w.heap.size):=λb e=>(hv.lt b e).2
 clear hR hv hl hbase ht
 cases g
 ·have c0:(w.alloc (.cells #[.string val,.bool false] 138)).cell? ⟨w.heap.size,0,none⟩=some (.string val):=by go_simp
  have hsz:(w.alloc (.cells #[.string val,.bool false] 138)).heap.size=w.heap.size+1:=by simp
  go_enter Tryz.func209,Tryz.ntmps209
  go_wp2_with fail
  generalize w.alloc (.cells #[.string val,.bool false] 138)=W at *
  go_region_law (first
   |(refine zvr rfl _ _ rfl base v bs (by simp[Act.eval]) (HV.out.kept ((Kp.drew _ _).trans (Kp.alloc _ _ _) (λ_ _ h=>h))) (.slice (some ⟨w.heap.size+1,0,none⟩) 1 1) [0] (by simp[Act.eval]) (BR.rd (zml W.drew (w.heap.size+1) (by simp[hsz]) #[.int .u8 0] [0] rfl (by simp))) (by simp) (by have:=HL.out;simp;omega) (by have:=HB.out;simp;omega) ?_;intro v1 w1 hv1 hk1 hloc1;have HV1:=ze hv1;have HK1:=ze hk1;have c1:w1.cell? ⟨w.heap.size,0,none⟩=some (.string val):=hk1.cellv HV0.out (Nat.le_refl _) (by go_simp);have HL1:=ze hloc1;clear hv1 hk1 hloc1)
   |(refine zpd rfl 210 _ _ _ rfl Tryz.func210 (by kernel_rfl) (by kernel_rfl) _ (by simp[Act.eval];rfl) ?_;refine zpj base v1 _ val _ HV1.out HS.out (by have:=HL.out;simp;omega) (by have:=HB.out;have:=HK1.out.size;simp at *;omega) ?_;intro v2 w2 hv2 hk2;refine⟨_,rfl,?_⟩))
  all_goals
   clear c1
   go_wp2
   go_ret
   refine HR.out v2 w2 ?_ ((HK.out.trans (((Kp.drew (λb=>v.ownBlock=some b) _).trans (Kp.alloc (λb=>v.ownBlock=some b) _ _) (λ_ _ h=>h)).trans HK1.out (λb hb e=>e)) (λ_ _ h=>h)).trans hk2 (λb hb e=>zzt HL1.out e (by simp[hsz];omega)))
   rw[List.append_assoc]at hv2
   exact hv2
 ·go_enter Tryz.func209,Tryz.ntmps209
  go_wp2_with (first
   |(at_builtin;refine zsb _ rfl _ _ rfl base v bs rfl (HV.out.kept (Kp.alloc _ _ _)) _ [1] rfl (BR.rd (zml _ _ (by simp) _ [1] rfl (by simp))) (by simp) (by have:=HL.out;simp;omega) (by have:=HB.out;simp at this ⊢;omega) ?_;intro v1 w1 hv1 hk1 hloc1;have HV1:=ze hv1;have HK1:=ze hk1;clear hv1 hk1 hloc1)
   |go_in)
  exact HR.out v1 w1 HV1.out (HK.out.trans ((Kp.alloc (λb=>v.ownBlock=some b) _ _).trans HK1.out (λb hb e=>e)) (λ_ _ h=>h))
end
end
section
open Go.RowKit Go.Lib
def z5f (x:ByteArray × ByteArray × Bool):List Value:=[.string x.1,.string x.2.1,.bool x.2.2]
def RdW (w:World)(v:Value)(ws:List (ByteArray × ByteArray × Bool)):Prop:=
 ∃p cap,v = .slice p ws.length cap∧(ws≠[]→∃g,p=some ⟨g,0,none⟩∧∀j x,ws[j]?=some x→w.cell? ⟨g,j*3,none⟩=some (.string x.1)∧w.cell? ⟨g,j*3+1,none⟩=some (.string x.2.1)∧w.cell? ⟨g,j*3+2,none⟩=some (.bool x.2.2))
theorem RdW.kp {S:Nat→Prop}{w w':World}{v:Value}{ws:List (ByteArray × ByteArray × Bool)}(h:RdW w v ws)(hk:Kp S w w')(hs:∀b,v.ownBlock=some b→¬S b):RdW w' v ws:=by
 obtain⟨p,cap,rfl,h1⟩:=h
 refine⟨p,cap,rfl,λhb=>?_⟩
 obtain⟨g,rfl,hc⟩:=h1 hb
 refine⟨g,rfl,λj x hj=>?_⟩
 obtain⟨a,b,c⟩:=hc j x hj
 have hn:=hs g rfl
 exact⟨(hk.cell (World.block_lt_of_cell? w _ a) hn).trans a,(hk.cell (World.block_lt_of_cell? w _ b) hn).trans b,(hk.cell (World.block_lt_of_cell? w _ c) hn).trans c⟩
theorem RdW.kept {w w':World}{v:Value}{ws:List (ByteArray × ByteArray × Bool)}(h:RdW w v ws)(hk:Kp (λ_=>False) w w'):RdW w' v ws:=h.kp hk (λ_ _ e=>e)
section
variable {R:Ending→World→Prop}
theorem zeh {w:World}{a:Addr}{x:Value}(h:w.cell? a=some x)(o:Obj):(w.alloc o).cell? a=some x:=((Kp.alloc (λ_=>False) w o).cell (World.block_lt_of_cell? _ _ h) (λe=>e)).trans h
theorem Kp.cellb {base:Nat}{w w0 w1:World}{v x:Value}{bs:List UInt8}{a:Addr}(hk:Kp (λb=>v.ownBlock=some b) w0 w1)(hv:BR base w v bs)(hlt:a.block<base)(h:w0.cell? a=some x):w1.cell? a=some x:=
 (hk.cell (World.block_lt_of_cell? _ _ h) (λe=>by have:=(hv.lt _ e).1;omega)).trans h
set_option maxRecDepth 20000 in
set_option maxHeartbeats 1000000 in
theorem zmu (t:Nat)(v:Value)(w:World)(ht:t<4294967296)
  (hR:∀v' w',BR w.heap.size w' v' (zxb t)→Kp (λ_=>False) w w'→R (.returned v') w') :
  Calls Tryz.prog 177 #[.agg #[.int .u8 72,.int .i64 t,v]] w R:=by
 have HR:=ze hR
 have hsz:(w.alloc (.cells #[.int .u8 72,.int .i64 t,v] 110)).heap.size=w.heap.size+1:=by simp
 have HV:Hid (BR (w.heap.size+1) ((w.alloc (.cells #[.int .u8 72,.int .i64 t,v] 110)).alloc (.cells #[.int .u8 72] 5)) (.slice (some ⟨w.heap.size+1,0,none⟩) 1 1) [72]):=zml _ _ hsz #[.int .u8 72] [72] rfl (by simp)
 have HK:Hid (Kp (λ_=>False) w ((w.alloc (.cells #[.int .u8 72,.int .i64 t,v] 110)).alloc (.cells #[.int .u8 72] 5))):=(Kp.alloc _ _ _).trans (Kp.alloc _ _ _) (λ_ _ h=>h)
 have c0:((w.alloc (.cells #[.int .u8 72,.int .i64 t,v] 110)).alloc (.cells #[.int .u8 72] 5)).cell? ⟨w.heap.size,0,none⟩=some (.int .u8 72):=by go_simp
 clear hR hsz
 go_enter Tryz.func177,Tryz.ntmps177
 go_wp2_with (first
  |(go_at_call 140;refine zih (w.heap.size+1) _ [72] t _ HV.out ht (by simp) (by simp) ?_;intro v1 w1 hv1 hk1;have HV1:=ze hv1;have HK1:=ze hk1;have d0:w1.cell? ⟨w.heap.size,0,none⟩=some (.int .u8 72):=hk1.cell (a:=⟨w.heap.size,0,none⟩) (World.block_lt_of_cell? _ _ c0) (by simp[Value.ownBlock]) |>.trans c0;clear hv1 hk1)
  |go_in)
 refine HR.out v1 w1 (BR.mono (base:=w.heap.size+1) HV1.out (by omega)) (HK.out.trans HK1.out (λb hb e=>?_))
 simp[Value.ownBlock]at e;omega
theorem z3x (ws:List (ByteArray × ByteArray × Bool))(k:Nat)(x:ByteArray × ByteArray × Bool)(h:ws[k]?=some x):(ws.take (k+1)).flatMap z9b=(ws.take k).flatMap z9b++(zac x.1++zlg (x.2.1,x.2.2)):=by
 obtain⟨hk,rfl⟩:=List.getElem?_eq_some_iff.1 h
 rw[List.take_succ_eq_append_getElem hk,List.flatMap_append]
 simp[z9b]
set_option maxRecDepth 20000 in
set_option maxHeartbeats 2000000 in
theorem zwp (t:Nat)(wv:Value)(ws:List (ByteArray × ByteArray × Bool))(w:World)(ht:t<4294967296)(hw:RdW w wv ws)(hne:ws≠[])(hn:ws.length≤255)(hs:∀x∈ws,x.1.size≤255∧x.2.1.size≤255)
  (hR:∀v' w',BR w.heap.size w' v' (zbb t ws)→Kp (λ_=>False) w w'→R (.returned v') w') :
  Calls Tryz.prog 177 #[.agg #[.int .u8 67,.int .i64 t,wv]] w R:=by
 obtain⟨pw,cap,rfl,hw1⟩:=hw
 obtain⟨g,rfl,hc⟩:=hw1 hne
 have HR:=ze hR
 have HC:=ze hc
 have HS:=ze hs
 have hn':(ws.length:Int)≤255:=by omega
 have HN:=ze hn
 have hsz:(w.alloc (.cells #[.int .u8 67,.int .i64 t,.slice (some ⟨g,0,none⟩) ws.length cap] 110)).heap.size=w.heap.size+1:=by simp
 have HV:Hid (BR (w.heap.size+1) ((w.alloc (.cells #[.int .u8 67,.int .i64 t,.slice (some ⟨g,0,none⟩) ws.length cap] 110)).alloc (.cells #[.int .u8 67] 5)) (.slice (some ⟨w.heap.size+1,0,none⟩) 1 1) [67]):=zml _ _ hsz #[.int .u8 67] [67] rfl (by simp)
 have HK:Hid (Kp (λ_=>False) w ((w.alloc (.cells #[.int .u8 67,.int .i64 t,.slice (some ⟨g,0,none⟩) ws.length cap] 110)).alloc (.cells #[.int .u8 67] 5))):=(Kp.alloc _ _ _).trans (Kp.alloc _ _ _) (λ_ _ h=>h)
 have c0:((w.alloc (.cells #[.int .u8 67,.int .i64 t,.slice (some ⟨g,0,none⟩) ws.length cap] 110)).alloc (.cells #[.int .u8 67] 5)).cell? ⟨w.heap.size,0,none⟩=some (.int .u8 67):=by go_simp
 have c2:((w.alloc (.cells #[.int .u8 67,.int .i64 t,.slice (some ⟨g,0,none⟩) ws.length cap] 110)).alloc (.cells #[.int .u8 67] 5)).cell? ⟨w.heap.size,2,none⟩=some (.slice (some ⟨g,0,none⟩) ws.length cap):=by go_simp
 clear hR hsz hc hs hw1 hn
 go_enter Tryz.func177,Tryz.ntmps177
 go_wp2_with (first
  |(go_at_call 140;refine zih (w.heap.size+1) _ [67] t _ HV.out ht (by simp) (by simp) ?_;intro v1 w1 hv1 hk1;have HV1:=ze hv1;have HK1:=ze hk1;have d0:w1.cell? ⟨w.heap.size,0,none⟩=some (.int .u8 67):=hk1.cell (a:=⟨w.heap.size,0,none⟩) (World.block_lt_of_cell? _ _ c0) (by simp[Value.ownBlock]) |>.trans c0;have d2:w1.cell? ⟨w.heap.size,2,none⟩=some (.slice (some ⟨g,0,none⟩) ws.length cap):=hk1.cell (a:=⟨w.heap.size,2,none⟩) (World.block_lt_of_cell? _ _ c2) (by simp[Value.ownBlock]) |>.trans c2;clear hv1 hk1)
  |(at_builtin;refine zsb _ rfl _ _ rfl (w.heap.size+1) v1 _ rfl (HV1.out.kept (Kp.alloc _ _ _)) _ [u8 ws.length] rfl (BR.rd (z7e _ _ [u8 ws.length] (by have:=HN.out;simp[b8,z2d];omega) (by simp))) (by simp) (by simp[zmb]) (by have:=HK1.out.size;simp at this ⊢;omega) ?_;intro v2 w2 hv2 hk2 hloc2;have HV2:=ze hv2;have HK2:=ze hk2;have e2:w2.cell? ⟨w.heap.size,2,none⟩=some (.slice (some ⟨g,0,none⟩) ws.length cap):=hk2.cellb HV1.out (Nat.lt_succ_self _) (zeh d2 _);clear hv2 hk2 hloc2)
  |go_in)
 have HK2':Hid (Kp (λ_=>False) w w2):=((HK.out.trans HK1.out (λb hb e=>by simp[Value.ownBlock]at e;omega)).trans ((Kp.alloc _ _ _).trans HK2.out (λb hb e=>e)) (λb hb e=>by have:=(HV1.out.lt _ e).1;omega))
 go_loopw [3,27] (λv3 v27 wr=>∃k:Nat,k≤ws.length∧v27 = .int .i64 k∧BR (w.heap.size+1) wr v3 ([67]++fourB t++[u8 ws.length]++(ws.take k).flatMap z9b)∧Kp (λ_=>False) w wr) (λ_ v27 _=>ws.length-(intOf v27).toNat)
 case atStart=>exact⟨0,Nat.zero_le _,rfl,by simpa using HV2.out,HK2'.out⟩
 case round=>
  obtain⟨k,hk,rfl,hrow,hkp⟩:=hrel
  by_cases hlt:k<ws.length
  ·obtain⟨x,hx⟩:∃x,ws[k]?=some x:=⟨ws[k],List.getElem?_eq_getElem hlt⟩
   obtain⟨a0,a1,a2⟩:=HC.out k x hx
   have b0:wr.cell? ⟨g,k*3,none⟩=some (.string x.1):=(hkp.cell (World.block_lt_of_cell? _ _ a0) (λe=>e)).trans a0
   have b1:wr.cell? ⟨g,k*3+1,none⟩=some (.string x.2.1):=(hkp.cell (World.block_lt_of_cell? _ _ a1) (λe=>e)).trans a1
   have b2:wr.cell? ⟨g,k*3+2,none⟩=some (.bool x.2.2):=(hkp.cell (World.block_lt_of_cell? _ _ a2) (λe=>e)).trans a2
   obtain⟨key,val,gone⟩:=x
   have HX:=ze (HS.out _ (List.mem_of_getElem? hx))
   have HT:=ze (z3x ws k _ hx)
   have HROW:=ze hrow
   have HKP:=ze hkp
   have HLEN:Hid (([67]++fourB t++[u8 ws.length]++(ws.take k).flatMap z9b).length≤1000000):=by
    have h1:=zfi z9b 513 (ws.take k) (λx hx=>Nat.le_trans (zwg x) (by have:=HS.out x (List.mem_of_mem_take hx);omega))
    have h2:(ws.take k).length≤255:=by have:=HN.out;simp;omega
    have h3:(ws.take k).length*513≤255*513:=Nat.mul_le_mul_right _ h2
    show _≤_
    simp only[List.length_append,List.length_cons,List.length_nil,zmb]
    omega
   have HLEN2:Hid (([67]++fourB t++[u8 ws.length]++(ws.take k).flatMap z9b++zac key).length≤10000000):=by
    have h1:key.size≤255:=HX.out.1
    have h2:=HLEN.out
    show _≤_
    rw[List.length_append,zud]
    omega
   clear hrow hkp a0 a1 a2 hx
   go_wp2_with fail
   have d0:(wr.alloc (.cells #[.string key,.string val,.bool gone] 153)).cell? ⟨wr.heap.size,0,none⟩=some (.string key):=by go_simp
   have d1:(wr.alloc (.cells #[.string key,.string val,.bool gone] 153)).cell? ⟨wr.heap.size,1,none⟩=some (.string val):=by go_simp
   have d2':(wr.alloc (.cells #[.string key,.string val,.bool gone] 153)).cell? ⟨wr.heap.size,2,none⟩=some (.bool gone):=by go_simp
   have HW:Hid (Kp (λ_=>False) w (wr.alloc (.cells #[.string key,.string val,.bool gone] 153)).drew):=(HKP.out.trans (Kp.alloc _ _ _) (λ_ _ h=>h)).trans (Kp.drew _ _) (λ_ _ h=>h)
   have HB:Hid (BR (w.heap.size+1) (wr.alloc (.cells #[.string key,.string val,.bool gone] 153)).drew u3 ([67]++fourB t++[u8 ws.length]++(ws.take k).flatMap z9b)):=HROW.out.kept ((Kp.alloc _ _ _).trans (Kp.drew _ _) (λ_ _ h=>h))
   have HO:Hid (∀b,u3.ownBlock=some b→b<wr.heap.size):=λb e=>(HROW.out.lt b e).2
   have HSZ:Hid (w.heap.size+1≤(wr.alloc (.cells #[.string key,.string val,.bool gone] 153)).drew.heap.size):=by have:=HKP.out.size;show _≤_;simp;omega
   generalize wr.alloc (.cells #[.string key,.string val,.bool gone] 153)=W at d0 d1 d2' HW HB HSZ ⊢
   go_region_law (first
    |(refine zpd rfl 210 _ _ _ rfl Tryz.func210 (by kernel_rfl) (by kernel_rfl) _ (by simp[Act.eval];rfl) ?_;refine zpj (w.heap.size+1) u3 _ key _ HB.out HX.out.1 (by have:=HLEN.out;omega) HSZ.out ?_;intro v4 w4 hv4 hk4;have HV4:=ze hv4;have HK4:=ze hk4;have d14:w4.cell? ⟨wr.heap.size,1,none⟩=some (.string val):=hk4.cellv HO.out (Nat.le_refl _) d1;have d24:w4.cell? ⟨wr.heap.size,2,none⟩=some (.bool gone):=hk4.cellv HO.out (Nat.le_refl _) d2';clear hv4 hk4;refine⟨_,rfl,?_⟩)
    |(refine zpd rfl 209 _ _ _ rfl Tryz.func209 (by kernel_rfl) (by kernel_rfl) _ (by simp[Act.eval];rfl) ?_;refine zyl (w.heap.size+1) v4 _ val gone _ HV4.out HX.out.2 HLEN2.out (Nat.le_trans HSZ.out HK4.out.size) ?_;intro v5 w5 hv5 hk5;have HV5:=ze hv5;have HK5:=ze hk5;clear hv5 hk5;refine⟨_,rfl,?_⟩))
   all_goals
    clear d14 d24 d0 d1 d2'
    go_wp2_with fail
    refine⟨⟨k+1,by omega,by go_num,?_,?_⟩,by simp[intOf];omega⟩
    ·have h:=HV5.out
     rw[HT.out]
     rw[List.append_assoc _ (zac key)]at h
     rw[← List.append_assoc]
     exact h
    ·exact (HW.out.trans HK4.out (λb hb e=>by have:=(HB.out.lt b e).1;omega)).trans HK5.out (λb hb e=>by have:=(HV4.out.lt b e).1;omega)
  ·have hk':k=ws.length:=by omega
   subst hk'
   go_wp2_with fail
   refine HR.out _ _ (BR.mono (base:=w.heap.size+1) ?_ (by omega)) hkp
   rw[List.take_length]at hrow
   simpa [zbb] using hrow
def zbh (w:World)(r:Value)(body:List UInt8):Prop:=
 (∃(t:Nat) (v:Value),t<4294967296∧r = .agg #[.int .u8 72,.int .i64 t,v]∧v.oneCell'=true∧body=zxb t)∨
 (∃(t:Nat) (wv:Value) (ws:List (ByteArray × ByteArray × Bool)),t<4294967296∧r = .agg #[.int .u8 67,.int .i64 t,wv]∧wv.oneCell'=true∧RdW w wv ws∧ws≠[]∧ws.length≤255∧(∀x∈ws,x.1.size≤255∧x.2.1.size≤255)∧body=zbb t ws)
theorem zlu (r:Value)(body:List UInt8)(w:World)(h:zbh w r body)
  (hR:∀v' w',BR w.heap.size w' v' body→Kp (λ_=>False) w w'→R (.returned v') w') :
  Calls Tryz.prog 177 #[r] w R:=by
 rcases h with ⟨t,v,ht,rfl,_,rfl⟩|⟨t,wv,ws,ht,rfl,_,hw,hne,hn,hs,rfl⟩
 ·exact zmu t v w ht hR
 ·exact zwp t wv ws w ht hw hne hn hs hR
theorem zbh.kept {w w':World}{r:Value}{body:List UInt8}(h:zbh w r body)(hk:Kp (λ_=>False) w w'):zbh w' r body:=by
 rcases h with h|⟨t,wv,ws,ht,e,h1,hw,r⟩
 ·exact Or.inl h
 ·exact Or.inr ⟨t,wv,ws,ht,e,h1,hw.kept hk,r⟩
theorem zbh.kp {S:Nat→Prop}{w w':World}{k t:Int}{rv:Value}{body:List UInt8}(h:zbh w (.agg #[.int .u8 k,.int .i64 t,rv]) body)(hk:Kp S w w')(hs:∀b,rv.ownBlock=some b→¬S b):zbh w' (.agg #[.int .u8 k,.int .i64 t,rv]) body:=by
 rcases h with h|⟨t',wv,ws,ht,e,h1,hw,r⟩
 ·exact Or.inl h
 ·refine Or.inr ⟨t',wv,ws,ht,e,h1,hw.kp hk ?_,r⟩
  have e2:rv=wv:=by simp at e;exact e.2.2
  rw[← e2];exact hs
theorem zq2 (n:Nat)(h:n<65536):[u8 n,u8 (n / 256)].map b8=[.int .u8 ((n:Int) % 256),.int .u8 ((n:Int) / 256)]:=by
 simp only[List.map_cons,List.map_nil,b8,z2d]
 have:n / 256 % 256=n / 256:=by omega
 rw[this];simp
theorem zbh.ne {w:World}{r:Value}{body:List UInt8}(h:zbh w r body):body≠[]:=by
 rcases h with ⟨t,v,_,_,_,rfl⟩|⟨t,wv,ws,_,_,_,_,_,_,_,rfl⟩
 ·simp[zxb]
 ·simp[zbb]
theorem BR.form {base:Nat}{w:World}{v:Value}{bs:List UInt8}(h:BR base w v bs)(hne:bs≠[]):∃g cap,v = .slice (some ⟨g,0,none⟩) bs.length cap:=by
 rcases h.2 with ⟨_,h0⟩|⟨g,cap,cur,rfl,_⟩
 ·exact absurd (List.eq_nil_of_length_eq_zero h0) hne
 ·exact⟨g,cap,rfl⟩
set_option maxRecDepth 20000 in
set_option maxHeartbeats 1000000 in
theorem zhm (v:Value)(bs:List UInt8)(k:Int)(t:Int)(rv:Value)(body:List UInt8)(w:World)(hT:Tab w)(_h1c:rv.oneCell'=true)(hr:zbh w (.agg #[.int .u8 k,.int .i64 t,rv]) body)(hb:body.length≤60000)(hv:BR 0 w v bs)(hl:bs.length≤100000000)
  (hR:∀v' w',BR 0 w' v' (bs++zqb body)→Kp (λb=>v.ownBlock=some b) w w'→(v'.ownBlock=v.ownBlock∨∃b,v'.ownBlock=some b∧w.heap.size≤b)→R (.returned v') w') :
  Calls Tryz.prog 132 #[v,.agg #[.int .u8 k,.int .i64 t,rv]] w R:=by
 have HR:=ze hR
 have HV:=ze hv
 have HL:=ze hl
 have HT:=ze hT
 have HB:=ze hb
 have HRC:=ze hr
 have hb':(body.length:Int)≤60000:=by omega
 clear hR hv hl hT hb hr
 go_enter Tryz.func132,Tryz.ntmps132
 go_wp2_with (first
  |(go_at_call 177;refine zlu _ body _ (HRC.out.kept (Kp.alloc _ _ _)) ?_;intro v1 w1 hv1 hk1;have HV1:=ze hv1;have HK1:=ze hk1;obtain⟨g1,cap1,rfl⟩:=hv1.form HRC.out.ne;clear hv1 hk1)
  |(at_builtin;refine zsb _ rfl _ _ rfl w1.heap.size _ [u8 body.length,u8 (body.length / 256)] rfl (z7e w1 _ _ (by rw[zq2 _ (by have:=HB.out;omega)]) (by simp)) _ body rfl (HV1.out.rd.kept (Kp.alloc _ _ _)) HRC.out.ne (by have:=HB.out;simp;omega) (by simp) ?_;intro v2 w2 hv2 hk2 hloc2;have HV2:=ze hv2;have HK2:Hid (Kp (λ_=>False) w1 w2):=(Kp.alloc (λ_=>False) _ _).trans hk2 (λb hb e=>by simp[Act.eval,Value.ownBlock]at e;omega);clear hv2 hk2 hloc2)
  |(go_at_call 176;refine ztr w1.heap.size v2 _ _ ((HT.out.kept (Kp.alloc _ _ _)).kept HK1.out |>.kept HK2.out) HV2.out (by have:=HB.out;simp;omega) HK2.out.size ?_;intro v3 w3 hv3 hk3;have HV3:=ze hv3;have HK3:Hid (Kp (λ_=>False) w1 w3):=HK2.out.trans hk3 (λb hb e=>by have:=(HV2.out.lt b e).1;omega);clear hv3 hk3)
  |(at_builtin;refine zsb _ rfl _ _ rfl 0 v bs rfl (HV.out.kept (((Kp.alloc _ _ _).trans HK1.out (λ_ _ h=>h)).trans HK3.out (λ_ _ h=>h))) v3 _ rfl HV3.out.rd (by simp[z8c]) (by have:=HB.out;have:=HL.out;rw[zbg];simp;omega) (Nat.zero_le _) ?_;intro v4 w4 hv4 hk4 hloc4)
  |go_in)
 refine HR.out v4 w4 hv4 ((((Kp.alloc _ _ _).trans HK1.out (λ_ _ h=>h.elim)).trans HK3.out (λ_ _ h=>h.elim)).trans hk4 (λ_ _ h=>h)) (hloc4.imp id (λh=>⟨_,h,?_⟩))
 have h1:=HK1.out.size
 have h2:=HK3.out.size
 simp at h1
 omega
end
end
end Go.Proofs.YthbdpfccfcceiaaGreatDoor
