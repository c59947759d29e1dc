/-
  Of the proof of logsUpto_card.
-/
import Derived.Test.YthbdpfccfcceiaaGreatDoorL2x
namespace Go.Proofs.YthbdpfccfcceiaaGreatDoor
open Go.RowKit Go.Sort
section
variable {R:Ending→World→Prop}
structure zig (w:World)(v:Value)(l:List YV)(a:Option Addr)(cap:Nat):Prop where
 val:v = .slice a l.length cap
 cell:∀j (hj:j<l.length),∃g,a=some ⟨g,0,none⟩∧w.cell? ⟨g,j*4,none⟩=some (.string l[j].key)
theorem zqi {w:World}{base e:Nat}{v:Value}{l:List YV}(h:w.ownsRow base e 4 v l.length (zo l)):∃a cap,zig w v l a cap:=by
 rcases zxh h with ⟨rfl,rfl⟩|⟨g,cap,hv⟩
 ·exact⟨none,0,rfl,λj hj=>by simp at hj⟩
 ·exact⟨some ⟨g,0,none⟩,cap,hv.val,λj hj=>⟨g,rfl,hv.c0 j hj⟩⟩
theorem zig.kept {w w':World}{v:Value}{l:List YV}{a:Option Addr}{cap:Nat}(h:zig w v l a cap)(hk:Kp (λ_=>False) w w'):zig w' v l a cap:=
 ⟨h.val,λj hj=>by
  obtain⟨g,e,hc⟩:=h.cell j hj
  exact⟨g,e,(hk.cell (World.block_lt_of_cell? w _ hc) (λe=>e)).trans hc⟩⟩
theorem z9q (a b:ByteArray):leB a b=!ltB b a:=by
 unfold leB ltB
 rw[bytesLess_eq,bytesLess_eq,Bool.eq_iff_iff]
 simp only[Bool.or_eq_true,decide_eq_true_eq,beq_iff_eq,Bool.not_eq_true',decide_eq_false_iff_not]
 rw[List.not_lt,List.le_iff_lt_or_eq]
theorem z4g (a b:ByteArray):ltB a b=true↔blt a b:=by
 unfold ltB blt
 rw[bytesLess_eq,decide_eq_true_eq,Lib.toList_data,Lib.toList_data]
def z6b (l m:List YV)(f t:ByteArray)(i:Nat)(ks:List ByteArray):Prop:=∀k,k∈ks↔(∃y∈(l++m).take i,y.key=k)∧inR f t k=true
theorem z6b.step {l m:List YV}{f t:ByteArray}{i:Nat}{ks ks':List ByteArray}(h:z6b l m f t i ks)(hi:i<(l++m).length)(h':∀k,k∈ks'↔k∈ks∨(k=((l++m)[i]).key∧inR f t k=true)):z6b l m f t (i+1) ks':=by
 intro k
 rw[h' k,h k,List.take_succ_eq_append_getElem hi]
 constructor
 ·rintro (⟨⟨y,hy,e⟩,h2⟩|⟨rfl,h2⟩)
  ·exact⟨⟨y,List.mem_append_left _ hy,e⟩,h2⟩
  ·exact⟨⟨_,List.mem_append_right _ (by simp),rfl⟩,h2⟩
 ·rintro⟨⟨y,hy,e⟩,h2⟩
  rw[List.mem_append,List.mem_singleton]at hy
  rcases hy with hy|rfl
  ·exact Or.inl ⟨⟨y,hy,e⟩,h2⟩
  ·exact Or.inr ⟨e.symm,h2⟩
theorem z6b.skip {l m:List YV}{f t:ByteArray}{i:Nat}{ks:List ByteArray}(h:z6b l m f t i ks)(hi:i<(l++m).length)(hs:inR f t ((l++m)[i]).key=false∨((l++m)[i]).key∈ks):z6b l m f t (i+1) ks:=
 h.step hi (λk=>by
  constructor
  ·exact Or.inl
  ·rintro (h1|⟨rfl,h2⟩)
   ·exact h1
   ·rcases hs with h3|h3
    ·rw[h3]at h2;cases h2
    ·exact h3)
theorem zsf {f t k:ByteArray}(h:Op.bytesLess k.toList f.toList=true):inR f t k=false:=by
 have:leB f k=false:=by rw[z9q];unfold ltB;rw[h];rfl
 simp[inR,this]
theorem zze {f t k:ByteArray}(h:¬Op.bytesLess k.toList t.toList=true):inR f t k=false:=by
 have:ltB k t=false:=by simpa [ltB] using h
 simp[inR,this]
theorem z1g {f t k:ByteArray}(h:¬Op.bytesLess k.toList f.toList=true)(h':Op.bytesLess k.toList t.toList=true):inR f t k=true:=by
 have h1:leB f k=true:=by rw[z9q];unfold ltB;simpa using h
 have h2:ltB k t=true:=h'
 simp[inR,h1,h2]
theorem zmi {ks:List ByteArray}{a:Nat}{kk k:ByteArray}:k∈ks.take a++[kk]++ks.drop a↔k∈ks∨k=kk:=by
 rw[List.mem_append,List.mem_append,List.mem_singleton]
 constructor
 ·rintro ((h|h)|h)
  ·exact Or.inl (List.mem_of_mem_take h)
  ·exact Or.inr h
  ·exact Or.inl (List.mem_of_mem_drop h)
 ·rintro (h|h)
  ·rw[← List.take_append_drop a ks,List.mem_append]at h
   exact h.elim (λh=>Or.inl (Or.inl h)) Or.inr
  ·exact Or.inl (Or.inr h)
theorem zgg {ks:List ByteArray}{a:Nat}{kk:ByteArray}(hs:ks.Pairwise blt)(ha:a≤ks.length)(hlo:∀j (hj:j<ks.length),j<a→ltB ks[j] kk=true)(hup:∀j (hj:j<ks.length),a≤j→blt kk ks[j]):(ks.take a++[kk]++ks.drop a).Pairwise blt:=by
 have h0:=hs
 rw[← List.take_append_drop a ks,List.pairwise_append]at h0
 obtain⟨h1,h2,h3⟩:=h0
 have up:∀x∈ks.drop a,blt kk x:=λx hx=>by
  obtain⟨j,hj,rfl⟩:=List.getElem_of_mem hx
  rw[List.getElem_drop]
  exact hup (a+j) (by rw[List.length_drop]at hj;omega) (by omega)
 have lo:∀x∈ks.take a,blt x kk:=λx hx=>by
  obtain⟨j,hj,rfl⟩:=List.getElem_of_mem hx
  rw[List.getElem_take]
  rw[List.length_take]at hj
  exact (z4g _ _).1 (hlo j (by omega) (by omega))
 rw[List.pairwise_append,List.pairwise_append]
 refine⟨⟨h1,by simp,λx hx y hy=>?_⟩,h2,λx hx y hy=>?_⟩
 ·simp at hy;subst hy;exact lo x hx
 ·rw[List.mem_append,List.mem_singleton]at hx
  rcases hx with hx|rfl
  ·exact h3 x hx y hy
  ·exact up y hy
theorem z7x {ks:List ByteArray}{a j:Nat}{kk ka:ByteArray}(hs:ks.Pairwise blt)(hal:a<ks.length)(hj:j<ks.length)(hja:a≤j)(hka:ks[a]=ka)(hc:Op.bytesLess ka.toList kk.toList=false)(he:(ka.toList == kk.toList)=false):blt kk ks[j]:=by
 have h1:blt kk ka:=by
  have hne:kk≠ka:=λe=>by subst e;simp at he
  rcases zro hne with h|h
  ·exact h
  ·have:=(z4g ka kk).2 h
   unfold ltB at this
   rw[hc]at this;cases this
 by_cases e:j=a
 ·subst e;rw[hka];exact h1
 ·exact zxg h1 (hka ▸ (List.pairwise_iff_getElem.1 hs) a j hal hj (by omega))
theorem zoi {w4:World}{base a:Nat}{v4:Value}{ks:List ByteArray}{kk:ByteArray}(ha:a≤ks.length)(h:w4.ownsRow base 9 1 v4 (a+1+(ks.length-a)) ((ks.take a).map Value.string++[.string kk]++(ks.drop a).map Value.string)) :
  w4.ownsRow base 9 1 v4 (ks.take a++[kk]++ks.drop a).length ((ks.take a++[kk]++ks.drop a).map Value.string):=by
 have e1:(ks.take a++[kk]++ks.drop a).length=a+1+(ks.length-a):=by simp;omega
 have e2:(ks.take a++[kk]++ks.drop a).map Value.string=(ks.take a).map Value.string++[.string kk]++(ks.drop a).map Value.string:=by simp
 rw[e1,e2];exact h
theorem zhj {P:Program}(w:World){ops:Array Oper}{rest:List Oper}{o:Oper}{a:Act}{Q:Exit→Act→World→Prop}(hgd:o.guard=none)(s x:Operand)(t:TypeId)
  (ho:o.op = .call { callee:=.builtin .append,args:=#[s,x],argTypes:=#[t,t] }) (e:TypeId) (i:TypeInfo) (ht:P.underlying t=some (.slice e)) (hi:P.info? e=some i) (a0:Option Addr) (n cap c:Nat) (hs:a.eval s = .slice a0 n cap) (hnc:n≤cap) (hx:a.eval x = .slice none 0 c)
  (h:wpList P ops Q rest (a.put o.dst (.slice a0 n cap)) w):wpList P ops Q (o::rest) a w:=by
 refine wpList_plain hgd λK hK=>?_
 have hr:(Builtin.append_ #[t,t] o.type #[.slice a0 n cap,.slice none 0 c]).run P w = .ok (.slice a0 n cap) w:=by
  cases a0<;>simp[Builtin.append_,run_underlying ht,sizeOf,typeInfo,hi,Builtin.lenOf,Builtin.firstCells,hnc,storeCells]
 unfold Oper.wp execOp
 simp only[ho,resolve,invoke,builtin,Sem.run_bind,Sem.run_pure,Result.andThen_ok,List.map_toArray,List.map_cons,List.map_nil,hs,hx,hr]
 exact hK _ _ h
set_option maxRecDepth 20000 in
set_option maxHeartbeats 16000000 in
theorem zpm (l m:List YV)(vl vm:Value)(al am:Option Addr)(cl cm:Nat)(f t:ByteArray)(w:World)(hl:l.length<1000000)(hm:m.length<1000000)(hvl:zig w vl l al cl)(hvm:zig w vm m am cm)
  (hR:∀w' v (ks:List ByteArray),Kp (λ_=>False) w w'→w'.ownsRow w.heap.size 9 1 v ks.length (ks.map Value.string)→ks.Pairwise blt→(∀k,k∈ks↔(∃y∈l++m,y.key=k)∧inR f t k=true)→ks.length≤l.length+m.length→R (.returned v) w') :
  Calls Tryz.prog 153 #[vl,vm,.string f,.string t] w R:=by
 have HR:Hid _:=hR
 have HL:Hid (l.length<1000000∧m.length<1000000):=⟨hl,hm⟩
 have HVL:Hid (zig w vl l al cl):=hvl
 have HVM:Hid (zig w vm m am cm):=hvm
 have e1:=hvl.val
 have e2:=hvm.val
 subst e1;subst e2
 obtain⟨i0,hi,hz0,hz1,hz2⟩:=info_parts zrl
 have hl':(l.length:Int)≤1000000:=by omega
 have hm':(m.length:Int)≤1000000:=by omega
 clear hR hl hm hvl hvm
 go_enter Tryz.func153,Tryz.ntmps153
 go_wp2
 go_loopw [9,10] (λv9 v10 wr=>∃(i:Nat) (ks:List ByteArray),i≤l.length+m.length∧v10 = .int .i64 i∧Kp (λ_=>False) w wr∧wr.ownsRow w.heap.size 9 1 v9 ks.length (ks.map Value.string)∧ks.Pairwise blt∧z6b l m f t i ks∧ks.length≤i)
  (λ_ v10 _=>l.length+m.length-(intOf v10).toNat)
 case atStart=>exact⟨0,[],Nat.zero_le _,rfl,Kp.refl _ _,World.ownsRow_nil _ _ _ _,List.Pairwise.nil,λk=>(by simp),Nat.le_refl _⟩
 case round=>
  obtain⟨i,ks,hile,rfl,hkp,hrow,hsort,hmem,hlen⟩:=hrel
  have HK:Hid (Kp (λ_=>False) w wr):=hkp
  have HS:Hid _:=hsort
  have HM:Hid (z6b l m f t i ks):=hmem
  have HE:Hid _:=hlen
  clear hsort hmem hlen
  by_cases hlt:i<l.length+m.length
  ·have hi6:(i:Int)≤2000000:=by have:=HL.out;omega
   have hltS:(i:Int)<(l.length:Int)+(m.length:Int):=by omega
   obtain⟨kk,hkk⟩:∃kk,((l++m)[i]'(by simp;omega)).key=kk:=⟨_,rfl⟩
   have HKK:Hid _:=hkk
   rcases hrow.2 with ⟨rfl,hks⟩|⟨g9,cap9,cur9,rfl,hb9,hg9,hn9,hm9,hcs9,ht9⟩
   ·have hks0:=List.eq_nil_of_length_eq_zero hks
    subst hks0
    clear hrow hks
    by_cases hil:i<l.length
    ·obtain⟨gl,rfl,hcl⟩:=(HVL.out.kept hkp).cell i hil
     rw[List.getElem_append_left hil]at hkk
     rw[hkk]at hcl
     have hil':(i:Int)<l.length:=by omega
     clear hkk hkp
     go_wp2_with fail
     go_loop [12] (λv=>v = .int .i64 0) (λ_=>0)
     case atStart=>rfl
     case round=>
      subst hrel
      go_wp2_with (first
       |(at_builtin;refine zhj _ rfl _ _ 142 rfl 9 i0 Tryz.underlying142 hi _ _ _ _ rfl (by first|exact Nat.le_refl _|exact hcap2) rfl ?_)
       |(at_builtin;refine wpList_append_own_at _ rfl _ _ 142 rfl w.heap.size 9 i0 (.string ⟨#[]⟩) 1 16 Tryz.underlying142 hi hz0 hz1 hz2 rfl (by decide) (.slice none 0 0) 0 [] rfl ((World.ownsRow_nil wr w.heap.size 9 1).alloc _) ⟨wr.heap.size,0,none⟩ 1 1 [.string kk] rfl rfl (cell_one_new _ _ _) (by simp[Value.oneCell']) (by unfold maxLen;omega) (by omega) (by have h:=HK.out.size;simp;omega) ?_;intro v2 w2 hown2 hgrow2 hnil2 hloc2;obtain⟨a2,cap2,rfl,hcap2⟩:=zr hown2)
       |go_in)
      ·go_roundw
       case rel=>exact⟨i+1,[],by omega,by go_num,HK.out,World.ownsRow_nil _ _ _ _,List.Pairwise.nil,z6b.skip HM.out (by simp;omega) (Or.inl (by rw[HKK.out];exact zsf (by assumption))),by simp⟩
       case measure=>simp[intOf];omega
      ·have hkp2:Kp (λ_=>False) w w2:=HK.out.trans ((Kp.alloc (λ_=>False) wr _).trans (Kp.of_grown (S:=λ_=>False) hgrow2 (λ_ h=>by simp[Value.ownBlock]at h)) (λ_ _ h=>h)) (λ_ _ h=>h)
       have hin:inR f t kk=true:=z1g (by assumption) (by assumption)
       go_roundw
       case rel=>exact⟨i+1,[kk],by omega,by go_num,hkp2,by simpa using hown2,by simp,z6b.step HM.out (by simp;omega) (λk=>by rw[HKK.out];simp;rintro rfl;exact hin),by simp⟩
       case measure=>simp[intOf];omega
      ·go_roundw
       case rel=>exact⟨i+1,[],by omega,by go_num,HK.out,World.ownsRow_nil _ _ _ _,List.Pairwise.nil,z6b.skip HM.out (by simp;omega) (Or.inl (by rw[HKK.out];exact zze (by assumption))),by simp⟩
       case measure=>simp[intOf];omega
    ·obtain⟨j,rfl⟩:∃j,i=l.length+j:=⟨i-l.length,by omega⟩
     have hjm:j<m.length:=by omega
     obtain⟨gm,rfl,hcm⟩:=(HVM.out.kept hkp).cell j hjm
     rw[List.getElem_append_right (by omega)]at hkk
     simp only[Nat.add_sub_cancel_left]at hkk
     rw[hkk]at hcm
     have hil':¬((l.length+j:Nat):Int)<l.length:=by omega
     have hij:((l.length+j:Nat):Int)-(l.length:Int)=j:=by omega
     have hjm':(j:Int)<m.length:=by omega
     clear hkk hkp
     go_wp2_with fail
     go_loop [12] (λv=>v = .int .i64 0) (λ_=>0)
     case atStart=>rfl
     case round=>
      subst hrel
      go_wp2_with (first
       |(at_builtin;refine zhj _ rfl _ _ 142 rfl 9 i0 Tryz.underlying142 hi _ _ _ _ rfl (by first|exact Nat.le_refl _|exact hcap2) rfl ?_)
       |(at_builtin;refine wpList_append_own_at _ rfl _ _ 142 rfl w.heap.size 9 i0 (.string ⟨#[]⟩) 1 16 Tryz.underlying142 hi hz0 hz1 hz2 rfl (by decide) (.slice none 0 0) 0 [] rfl ((World.ownsRow_nil wr w.heap.size 9 1).alloc _) ⟨wr.heap.size,0,none⟩ 1 1 [.string kk] rfl rfl (cell_one_new _ _ _) (by simp[Value.oneCell']) (by unfold maxLen;omega) (by omega) (by have h:=HK.out.size;simp;omega) ?_;intro v2 w2 hown2 hgrow2 hnil2 hloc2;obtain⟨a2,cap2,rfl,hcap2⟩:=zr hown2)
       |go_in)
      ·go_roundw
       case rel=>exact⟨(l.length+j)+1,[],by omega,by go_num,HK.out,World.ownsRow_nil _ _ _ _,List.Pairwise.nil,z6b.skip HM.out (by simp;omega) (Or.inl (by rw[HKK.out];exact zsf (by assumption))),by simp⟩
       case measure=>simp[intOf];omega
      ·have hkp2:Kp (λ_=>False) w w2:=HK.out.trans ((Kp.alloc (λ_=>False) wr _).trans (Kp.of_grown (S:=λ_=>False) hgrow2 (λ_ h=>by simp[Value.ownBlock]at h)) (λ_ _ h=>h)) (λ_ _ h=>h)
       have hin:inR f t kk=true:=z1g (by assumption) (by assumption)
       go_roundw
       case rel=>exact⟨(l.length+j)+1,[kk],by omega,by go_num,hkp2,by simpa using hown2,by simp,z6b.step HM.out (by simp;omega) (λk=>by rw[HKK.out];simp;rintro rfl;exact hin),by simp⟩
       case measure=>simp[intOf];omega
      ·go_roundw
       case rel=>exact⟨(l.length+j)+1,[],by omega,by go_num,HK.out,World.ownsRow_nil _ _ _ _,List.Pairwise.nil,z6b.skip HM.out (by simp;omega) (Or.inl (by rw[HKK.out];exact zze (by assumption))),by simp⟩
       case measure=>simp[intOf];omega
   ·have hcell9:Hid (∀j (hj:j<ks.length),wr.cell? ⟨g9,j,none⟩=some (.string ks[j])):=λj hj=>by
     rw[zg hg9,← Array.getElem?_toList]
     rw[Nat.mul_one]at ht9
     have h1:(cur9.toList.take ks.length)[j]?=(ks.map Value.string)[j]?:=by rw[ht9]
     rw[List.getElem?_take,if_pos hj,List.getElem?_map,List.getElem?_eq_getElem hj]at h1
     simpa using h1
    have hn6:(ks.length:Int)≤2000000:=by have:=HL.out;have:=HE.out;omega
    have HCAP:Hid (ks.length≤cap9):=hn9
    have hcap':(ks.length:Int)≤cap9:=by omega
    have hg9lt:=zh hg9
    have HG9:Hid (w.heap.size≤g9∧g9<wr.heap.size):=⟨hb9,hg9lt⟩
    have HROW:Hid (wr.ownsRow w.heap.size 9 1 (.slice (some ⟨g9,0,none⟩) ks.length cap9) ks.length (ks.map Value.string)):=hrow
    clear hrow hb9 hg9 hn9 hm9 hcs9 ht9 hg9lt
    by_cases hil:i<l.length
    ·obtain⟨gl,rfl,hcl⟩:=(HVL.out.kept hkp).cell i hil
     rw[List.getElem_append_left hil]at hkk
     rw[hkk]at hcl
     have hil':(i:Int)<l.length:=by omega
     clear hkk hkp
     go_wp2_with fail
     go_loop [12] (λv=>∃a:Nat,a≤ks.length∧v = .int .i64 a∧∀j (hj:j<ks.length),j<a→ltB ks[j] kk=true) (λv=>ks.length-(intOf v).toNat)
     case atStart=>exact⟨0,Nat.zero_le _,rfl,λj _ h=>by omega⟩
     case round=>
      obtain⟨a,ha,rfl,hbel⟩:=hrel
      have HBE:Hid _:=hbel
      clear hbel
      have hai:(a:Int)≤2000000:=by omega
      have hac:(a:Int)≤cap9:=by have:=HCAP.out;omega
      have HCA:Hid (∀j u,((ks.take a).map Value.string)[j]?=some u→wr.cell? ((⟨g9,0,none⟩:Addr).add j)=some u):=λj u hu=>by
       rw[List.getElem?_map,List.getElem?_take]at hu
       split at hu
       ·rename_i hja
        rw[List.getElem?_eq_getElem (by omega)]at hu
        simp at hu;subst hu
        rw[show (⟨g9,0,none⟩:Addr).add j=⟨g9,j,none⟩ by unfold Addr.add;split<;>simp_all]
        exact hcell9.out j (by omega)
       ·cases hu
      have HLA:Hid (((ks.take a).map Value.string).length=a*1):=by show _=_;rw[List.length_map,List.length_take];omega
      have HOA:Hid (∀u∈(ks.take a).map Value.string,u.oneCell'=true):=λu hu=>by
       obtain⟨x,_,rfl⟩:=List.mem_map.1 hu;rfl
      have HOD:Hid (∀u∈(ks.drop a).map Value.string,u.oneCell'=true):=λu hu=>by
       obtain⟨x,_,rfl⟩:=List.mem_map.1 hu;rfl
      have HLD:Hid (((ks.drop a).map Value.string).length=(ks.length-a)*1):=by show _=_;rw[List.length_map,List.length_drop];omega
      have HCD:Hid (∀W:World,W.heap[g9]?=wr.heap[g9]?→∀j u,((ks.drop a).map Value.string)[j]?=some u→W.cell? ((⟨g9,a,none⟩:Addr).add j)=some u):=λW hW j u hu=>by
       rw[List.getElem?_map,List.getElem?_drop]at hu
       by_cases hj:a+j<ks.length
       ·rw[List.getElem?_eq_getElem hj]at hu
        simp at hu;subst hu
        rw[show (⟨g9,a,none⟩:Addr).add j=⟨g9,a+j,none⟩ by unfold Addr.add;split<;>simp_all,World.cell?_of_block (w:=wr) hW]
        exact hcell9.out (a+j) hj
       ·rw[List.getElem?_eq_none (by omega)]at hu;cases hu
      by_cases hal:a<ks.length
      ·have hca:=hcell9.out a hal
       have hal':(a:Int)<ks.length:=by omega
       have hne9:¬cap9=a:=by have:=HCAP.out;omega
       have hne9':¬a=cap9:=by have:=HCAP.out;omega
       obtain⟨ka,hka⟩:∃ka,ks[a]=ka:=⟨_,rfl⟩
       rw[hka]at hca
       have HKA:Hid (ks[a]=ka):=hka
       clear hka
       cases hcmp:Op.bytesLess ka.toList kk.toList
       ·cases heq:(ka.toList == kk.toList)
        ·go_wp2_with (first
         |(at_builtin;refine wpList_append_own_at _ rfl _ _ 142 rfl w.heap.size 9 i0 (.string ⟨#[]⟩) 1 16 Tryz.underlying142 hi hz0 hz1 hz2 rfl (by decide) (.slice a3 (a+1) cap3) (a+1) ((ks.take a).map Value.string++[.string kk]) rfl hown3 ⟨g9,a,none⟩ (ks.length-a) (cap9-a) ((ks.drop a).map Value.string) rfl HLD.out (HCD.out w3 HB3.out) HOD.out (by unfold maxLen;omega) (by omega) (by have h:=HK3.out.size;omega) ?_;intro v4 w4 hown4 hgrow4 hnil4 hloc4)
         |(at_builtin;refine wpList_append_own_at _ rfl _ _ 142 rfl w.heap.size 9 i0 (.string ⟨#[]⟩) 1 16 Tryz.underlying142 hi hz0 hz1 hz2 rfl (by decide) (.slice a2 a cap2) a ((ks.take a).map Value.string) rfl (hown2.alloc _) ⟨w2.heap.size,0,none⟩ 1 1 [.string kk] rfl rfl (cell_one_new _ _ _) (by simp[Value.oneCell']) (by unfold maxLen;omega) (by omega) (by have h:=HK2.out.size;simp;omega) ?_;intro v3 w3 hown3 hgrow3 hnil3 hloc3;have HB3:Hid (w3.heap[g9]?=wr.heap[g9]?):=(hgrow3.block g9 (by have h1:=HG9.out.2;have h2:=hgrow2.size;simp;omega) (λe=>HN2.out e.symm)).trans ((Below.heap_alloc _ _ _ (by have h1:=HG9.out.2;have h2:=hgrow2.size;omega)).trans (hgrow2.block g9 HG9.out.2 (by simp[Value.ownBlock])));have HK3:Hid (Kp (λ_=>False) w w3):=HK2.out.trans ((Kp.alloc (λb=>(Value.slice a2 a cap2).ownBlock=some b) w2 _).trans (Kp.of_grown (S:=λb=>(Value.slice a2 a cap2).ownBlock=some b) hgrow3 (λ_ h=>h)) (λ_ _ h=>h)) (λb hb e=>by have:=(hown2.lt b e).1;omega);obtain⟨a3,cap3,rfl,hcap3⟩:=zr hown3)
         |(at_builtin;refine wpList_append_own_at _ rfl _ _ 142 rfl w.heap.size 9 i0 (.string ⟨#[]⟩) 1 16 Tryz.underlying142 hi hz0 hz1 hz2 rfl (by decide) (.slice none 0 0) 0 [] rfl (World.ownsRow_nil wr w.heap.size 9 1) ⟨g9,0,none⟩ a cap9 ((ks.take a).map Value.string) rfl HLA.out HCA.out HOA.out (by unfold maxLen;omega) (by omega) (by have h:=HK.out.size;omega) ?_;intro v2 w2 hown2 hgrow2 hnil2 hloc2;simp only[Nat.zero_add,List.nil_append]at hown2;obtain⟨a2,cap2,rfl,hcap2⟩:=zr hown2;have HK2:Hid (Kp (λ_=>False) w w2):=HK.out.trans (Kp.of_grown (S:=λ_=>False) hgrow2 (λ_ h=>by simp[Value.ownBlock]at h)) (λ_ _ h=>h);have HN2:Hid ((Value.slice a2 a cap2).ownBlock≠some g9):=λe=>by rw[e]at hloc2;have h1:=HG9.out.2;simp[Value.ownBlock]at hloc2;omega)
         |go_in)
         ·go_roundw
          case rel=>exact⟨i+1,ks,by omega,by go_num,HK.out,HROW.out,HS.out,z6b.skip HM.out (by simp;omega) (Or.inl (by rw[HKK.out];exact zsf (by assumption))),by have:=HE.out;omega⟩
          case measure=>simp[intOf];omega
         ·have hin:inR f t kk=true:=z1g (by assumption) (by assumption)
          have hkp4:Kp (λ_=>False) w w4:=HK3.out.trans (Kp.of_grown (S:=λb=>(Value.slice a3 (a+1) cap3).ownBlock=some b) hgrow4 (λ_ h=>h)) (λb hb e=>by have:=(hown3.lt b e).1;omega)
          have hrow4:=zoi ha hown4
          go_roundw
          case rel=>exact⟨i+1,ks.take a++[kk]++ks.drop a,by omega,by go_num,hkp4,hrow4,zgg HS.out ha HBE.out (λj hj hja=>z7x HS.out hal hj hja HKA.out hcmp heq),z6b.step HM.out (by simp;omega) (λk=>by rw[HKK.out,zmi];exact⟨λh=>h.imp id (λh=>⟨h,h ▸ hin⟩),λh=>h.imp id And.left⟩),by have:=HE.out;simp;omega⟩
          case measure=>simp[intOf];omega
         ·go_roundw
          case rel=>exact⟨i+1,ks,by omega,by go_num,HK.out,HROW.out,HS.out,z6b.skip HM.out (by simp;omega) (Or.inl (by rw[HKK.out];exact zze (by assumption))),by have:=HE.out;omega⟩
          case measure=>simp[intOf];omega
        ·have HEQ:Hid (ka=kk):=WideShapes.bytes_inj (by rw[← Lib.toList_data,← Lib.toList_data];simpa using heq)
         go_wp2_with fail
         ·go_roundw
          case rel=>exact⟨i+1,ks,by omega,by go_num,HK.out,HROW.out,HS.out,z6b.skip HM.out (by simp;omega) (Or.inl (by rw[HKK.out];exact zsf (by assumption))),by have:=HE.out;omega⟩
          case measure=>simp[intOf];omega
         ·go_roundw
          case rel=>exact⟨i+1,ks,by omega,by go_num,HK.out,HROW.out,HS.out,z6b.skip HM.out (by simp;omega) (Or.inr (by rw[HKK.out,← HEQ.out,← HKA.out];exact List.getElem_mem _)),by have:=HE.out;omega⟩
          case measure=>simp[intOf];omega
         ·go_roundw
          case rel=>exact⟨i+1,ks,by omega,by go_num,HK.out,HROW.out,HS.out,z6b.skip HM.out (by simp;omega) (Or.inl (by rw[HKK.out];exact zze (by assumption))),by have:=HE.out;omega⟩
          case measure=>simp[intOf];omega
       ·go_wp2_with fail
        go_round
        case rel=>
         refine⟨a+1,by omega,by go_num,λj hj hja=>?_⟩
         by_cases ej:j=a
         ·subst ej;rw[HKA.out];exact hcmp
         ·exact HBE.out j hj (by omega)
        case measure=>simp[intOf];omega
      ·have HAE:Hid (a=ks.length):=by show _=_;omega
       have hge9:¬(a:Int)<ks.length:=by omega
       have hle9:(a:Int)≤ks.length:=by omega
       by_cases hce:cap9=a
       ·have hce':=hce.symm
        subst hce'
        clear hce
        have hcd:∀W:World,∀j u,((ks.drop a).map Value.string)[j]?=some u→W.cell? ((⟨g9,0,none⟩:Addr).add j)=some u:=λW j u hu=>by
         rw[HAE.out,List.drop_length]at hu;simp at hu
        have HCV:Hid _:=hcd
        clear hcd
        go_wp2_with (first
         |(at_builtin;refine wpList_append_own_at _ rfl _ _ 142 rfl w.heap.size 9 i0 (.string ⟨#[]⟩) 1 16 Tryz.underlying142 hi hz0 hz1 hz2 rfl (by decide) (.slice a3 (a+1) cap3) (a+1) ((ks.take a).map Value.string++[.string kk]) rfl hown3 ⟨g9,0,none⟩ (ks.length-a) _ ((ks.drop a).map Value.string) rfl HLD.out (HCV.out w3) HOD.out (by unfold maxLen;omega) (by omega) (by have h:=HK3.out.size;omega) ?_;intro v4 w4 hown4 hgrow4 hnil4 hloc4)
         |(at_builtin;refine wpList_append_own_at _ rfl _ _ 142 rfl w.heap.size 9 i0 (.string ⟨#[]⟩) 1 16 Tryz.underlying142 hi hz0 hz1 hz2 rfl (by decide) (.slice a2 a cap2) a ((ks.take a).map Value.string) rfl (hown2.alloc _) ⟨w2.heap.size,0,none⟩ 1 1 [.string kk] rfl rfl (cell_one_new _ _ _) (by simp[Value.oneCell']) (by unfold maxLen;omega) (by omega) (by have h:=HK2.out.size;simp;omega) ?_;intro v3 w3 hown3 hgrow3 hnil3 hloc3;have HB3:Hid (w3.heap[g9]?=wr.heap[g9]?):=(hgrow3.block g9 (by have h1:=HG9.out.2;have h2:=hgrow2.size;simp;omega) (λe=>HN2.out e.symm)).trans ((Below.heap_alloc _ _ _ (by have h1:=HG9.out.2;have h2:=hgrow2.size;omega)).trans (hgrow2.block g9 HG9.out.2 (by simp[Value.ownBlock])));have HK3:Hid (Kp (λ_=>False) w w3):=HK2.out.trans ((Kp.alloc (λb=>(Value.slice a2 a cap2).ownBlock=some b) w2 _).trans (Kp.of_grown (S:=λb=>(Value.slice a2 a cap2).ownBlock=some b) hgrow3 (λ_ h=>h)) (λ_ _ h=>h)) (λb hb e=>by have:=(hown2.lt b e).1;omega);obtain⟨a3,cap3,rfl,hcap3⟩:=zr hown3)
         |(at_builtin;refine wpList_append_own_at _ rfl _ _ 142 rfl w.heap.size 9 i0 (.string ⟨#[]⟩) 1 16 Tryz.underlying142 hi hz0 hz1 hz2 rfl (by decide) (.slice none 0 0) 0 [] rfl (World.ownsRow_nil wr w.heap.size 9 1) ⟨g9,0,none⟩ a a ((ks.take a).map Value.string) rfl HLA.out HCA.out HOA.out (by unfold maxLen;omega) (by omega) (by have h:=HK.out.size;omega) ?_;intro v2 w2 hown2 hgrow2 hnil2 hloc2;simp only[Nat.zero_add,List.nil_append]at hown2;obtain⟨a2,cap2,rfl,hcap2⟩:=zr hown2;have HK2:Hid (Kp (λ_=>False) w w2):=HK.out.trans (Kp.of_grown (S:=λ_=>False) hgrow2 (λ_ h=>by simp[Value.ownBlock]at h)) (λ_ _ h=>h);have HN2:Hid ((Value.slice a2 a cap2).ownBlock≠some g9):=λe=>by rw[e]at hloc2;have h1:=HG9.out.2;simp[Value.ownBlock]at hloc2;omega)
         |go_in)
        ·go_roundw
         case rel=>exact⟨i+1,ks,by omega,by go_num,HK.out,HROW.out,HS.out,z6b.skip HM.out (by simp;omega) (Or.inl (by rw[HKK.out];exact zsf (by assumption))),by have:=HE.out;omega⟩
         case measure=>simp[intOf];omega
        ·have hin:inR f t kk=true:=z1g (by assumption) (by assumption)
         have hkp4:Kp (λ_=>False) w w4:=HK3.out.trans (Kp.of_grown (S:=λb=>(Value.slice a3 (a+1) cap3).ownBlock=some b) hgrow4 (λ_ h=>h)) (λb hb e=>by have:=(hown3.lt b e).1;omega)
         have hrow4:=zoi ha hown4
         go_roundw
         case rel=>exact⟨i+1,ks.take a++[kk]++ks.drop a,by omega,by go_num,hkp4,hrow4,zgg HS.out ha HBE.out (λj hj hja=>by have:=HAE.out;omega),z6b.step HM.out (by simp;omega) (λk=>by rw[HKK.out,zmi];exact⟨λh=>h.imp id (λh=>⟨h,h ▸ hin⟩),λh=>h.imp id And.left⟩),by have:=HE.out;simp;omega⟩
         case measure=>simp[intOf];omega
        ·go_roundw
         case rel=>exact⟨i+1,ks,by omega,by go_num,HK.out,HROW.out,HS.out,z6b.skip HM.out (by simp;omega) (Or.inl (by rw[HKK.out];exact zze (by assumption))),by have:=HE.out;omega⟩
         case measure=>simp[intOf];omega
       ·have hne9:¬cap9=a:=hce
        have hne9':¬a=cap9:=λh=>hce h.symm
        go_wp2_with (first
         |(at_builtin;refine wpList_append_own_at _ rfl _ _ 142 rfl w.heap.size 9 i0 (.string ⟨#[]⟩) 1 16 Tryz.underlying142 hi hz0 hz1 hz2 rfl (by decide) (.slice a3 (a+1) cap3) (a+1) ((ks.take a).map Value.string++[.string kk]) rfl hown3 ⟨g9,a,none⟩ (ks.length-a) (cap9-a) ((ks.drop a).map Value.string) rfl HLD.out (HCD.out w3 HB3.out) HOD.out (by unfold maxLen;omega) (by omega) (by have h:=HK3.out.size;omega) ?_;intro v4 w4 hown4 hgrow4 hnil4 hloc4)
         |(at_builtin;refine wpList_append_own_at _ rfl _ _ 142 rfl w.heap.size 9 i0 (.string ⟨#[]⟩) 1 16 Tryz.underlying142 hi hz0 hz1 hz2 rfl (by decide) (.slice a2 a cap2) a ((ks.take a).map Value.string) rfl (hown2.alloc _) ⟨w2.heap.size,0,none⟩ 1 1 [.string kk] rfl rfl (cell_one_new _ _ _) (by simp[Value.oneCell']) (by unfold maxLen;omega) (by omega) (by have h:=HK2.out.size;simp;omega) ?_;intro v3 w3 hown3 hgrow3 hnil3 hloc3;have HB3:Hid (w3.heap[g9]?=wr.heap[g9]?):=(hgrow3.block g9 (by have h1:=HG9.out.2;have h2:=hgrow2.size;simp;omega) (λe=>HN2.out e.symm)).trans ((Below.heap_alloc _ _ _ (by have h1:=HG9.out.2;have h2:=hgrow2.size;omega)).trans (hgrow2.block g9 HG9.out.2 (by simp[Value.ownBlock])));have HK3:Hid (Kp (λ_=>False) w w3):=HK2.out.trans ((Kp.alloc (λb=>(Value.slice a2 a cap2).ownBlock=some b) w2 _).trans (Kp.of_grown (S:=λb=>(Value.slice a2 a cap2).ownBlock=some b) hgrow3 (λ_ h=>h)) (λ_ _ h=>h)) (λb hb e=>by have:=(hown2.lt b e).1;omega);obtain⟨a3,cap3,rfl,hcap3⟩:=zr hown3)
         |(at_builtin;refine wpList_append_own_at _ rfl _ _ 142 rfl w.heap.size 9 i0 (.string ⟨#[]⟩) 1 16 Tryz.underlying142 hi hz0 hz1 hz2 rfl (by decide) (.slice none 0 0) 0 [] rfl (World.ownsRow_nil wr w.heap.size 9 1) ⟨g9,0,none⟩ a cap9 ((ks.take a).map Value.string) rfl HLA.out HCA.out HOA.out (by unfold maxLen;omega) (by omega) (by have h:=HK.out.size;omega) ?_;intro v2 w2 hown2 hgrow2 hnil2 hloc2;simp only[Nat.zero_add,List.nil_append]at hown2;obtain⟨a2,cap2,rfl,hcap2⟩:=zr hown2;have HK2:Hid (Kp (λ_=>False) w w2):=HK.out.trans (Kp.of_grown (S:=λ_=>False) hgrow2 (λ_ h=>by simp[Value.ownBlock]at h)) (λ_ _ h=>h);have HN2:Hid ((Value.slice a2 a cap2).ownBlock≠some g9):=λe=>by rw[e]at hloc2;have h1:=HG9.out.2;simp[Value.ownBlock]at hloc2;omega)
         |go_in)
        ·go_roundw
         case rel=>exact⟨i+1,ks,by omega,by go_num,HK.out,HROW.out,HS.out,z6b.skip HM.out (by simp;omega) (Or.inl (by rw[HKK.out];exact zsf (by assumption))),by have:=HE.out;omega⟩
         case measure=>simp[intOf];omega
        ·have hin:inR f t kk=true:=z1g (by assumption) (by assumption)
         have hkp4:Kp (λ_=>False) w w4:=HK3.out.trans (Kp.of_grown (S:=λb=>(Value.slice a3 (a+1) cap3).ownBlock=some b) hgrow4 (λ_ h=>h)) (λb hb e=>by have:=(hown3.lt b e).1;omega)
         have hrow4:=zoi ha hown4
         go_roundw
         case rel=>exact⟨i+1,ks.take a++[kk]++ks.drop a,by omega,by go_num,hkp4,hrow4,zgg HS.out ha HBE.out (λj hj hja=>by have:=HAE.out;omega),z6b.step HM.out (by simp;omega) (λk=>by rw[HKK.out,zmi];exact⟨λh=>h.imp id (λh=>⟨h,h ▸ hin⟩),λh=>h.imp id And.left⟩),by have:=HE.out;simp;omega⟩
         case measure=>simp[intOf];omega
        ·go_roundw
         case rel=>exact⟨i+1,ks,by omega,by go_num,HK.out,HROW.out,HS.out,z6b.skip HM.out (by simp;omega) (Or.inl (by rw[HKK.out];exact zze (by assumption))),by have:=HE.out;omega⟩
         case measure=>simp[intOf];omega
    ·obtain⟨j,rfl⟩:∃j,i=l.length+j:=⟨i-l.length,by omega⟩
     have hjm:j<m.length:=by omega
     obtain⟨gm,rfl,hcm⟩:=(HVM.out.kept hkp).cell j hjm
     rw[List.getElem_append_right (by omega)]at hkk
     simp only[Nat.add_sub_cancel_left]at hkk
     rw[hkk]at hcm
     have hil':¬((l.length+j:Nat):Int)<l.length:=by omega
     have hij:((l.length+j:Nat):Int)-(l.length:Int)=j:=by omega
     have hjm':(j:Int)<m.length:=by omega
     clear hkk hkp
     go_wp2_with fail
     go_loop [12] (λv=>∃a:Nat,a≤ks.length∧v = .int .i64 a∧∀j (hj:j<ks.length),j<a→ltB ks[j] kk=true) (λv=>ks.length-(intOf v).toNat)
     case atStart=>exact⟨0,Nat.zero_le _,rfl,λj _ h=>by omega⟩
     case round=>
      obtain⟨a,ha,rfl,hbel⟩:=hrel
      have HBE:Hid _:=hbel
      clear hbel
      have hai:(a:Int)≤2000000:=by omega
      have hac:(a:Int)≤cap9:=by have:=HCAP.out;omega
      have HCA:Hid (∀j u,((ks.take a).map Value.string)[j]?=some u→wr.cell? ((⟨g9,0,none⟩:Addr).add j)=some u):=λj u hu=>by
       rw[List.getElem?_map,List.getElem?_take]at hu
       split at hu
       ·rename_i hja
        rw[List.getElem?_eq_getElem (by omega)]at hu
        simp at hu;subst hu
        rw[show (⟨g9,0,none⟩:Addr).add j=⟨g9,j,none⟩ by unfold Addr.add;split<;>simp_all]
        exact hcell9.out j (by omega)
       ·cases hu
      have HLA:Hid (((ks.take a).map Value.string).length=a*1):=by show _=_;rw[List.length_map,List.length_take];omega
      have HOA:Hid (∀u∈(ks.take a).map Value.string,u.oneCell'=true):=λu hu=>by
       obtain⟨x,_,rfl⟩:=List.mem_map.1 hu;rfl
      have HOD:Hid (∀u∈(ks.drop a).map Value.string,u.oneCell'=true):=λu hu=>by
       obtain⟨x,_,rfl⟩:=List.mem_map.1 hu;rfl
      have HLD:Hid (((ks.drop a).map Value.string).length=(ks.length-a)*1):=by show _=_;rw[List.length_map,List.length_drop];omega
      have HCD:Hid (∀W:World,W.heap[g9]?=wr.heap[g9]?→∀j u,((ks.drop a).map Value.string)[j]?=some u→W.cell? ((⟨g9,a,none⟩:Addr).add j)=some u):=λW hW j u hu=>by
       rw[List.getElem?_map,List.getElem?_drop]at hu
       by_cases hj:a+j<ks.length
       ·rw[List.getElem?_eq_getElem hj]at hu
        simp at hu;subst hu
        rw[show (⟨g9,a,none⟩:Addr).add j=⟨g9,a+j,none⟩ by unfold Addr.add;split<;>simp_all,World.cell?_of_block (w:=wr) hW]
        exact hcell9.out (a+j) hj
       ·rw[List.getElem?_eq_none (by omega)]at hu;cases hu
      by_cases hal:a<ks.length
      ·have hca:=hcell9.out a hal
       have hal':(a:Int)<ks.length:=by omega
       have hne9:¬cap9=a:=by have:=HCAP.out;omega
       have hne9':¬a=cap9:=by have:=HCAP.out;omega
       obtain⟨ka,hka⟩:∃ka,ks[a]=ka:=⟨_,rfl⟩
       rw[hka]at hca
       have HKA:Hid (ks[a]=ka):=hka
       clear hka
       cases hcmp:Op.bytesLess ka.toList kk.toList
       ·cases heq:(ka.toList == kk.toList)
        ·go_wp2_with (first
         |(at_builtin;refine wpList_append_own_at _ rfl _ _ 142 rfl w.heap.size 9 i0 (.string ⟨#[]⟩) 1 16 Tryz.underlying142 hi hz0 hz1 hz2 rfl (by decide) (.slice a3 (a+1) cap3) (a+1) ((ks.take a).map Value.string++[.string kk]) rfl hown3 ⟨g9,a,none⟩ (ks.length-a) (cap9-a) ((ks.drop a).map Value.string) rfl HLD.out (HCD.out w3 HB3.out) HOD.out (by unfold maxLen;omega) (by omega) (by have h:=HK3.out.size;omega) ?_;intro v4 w4 hown4 hgrow4 hnil4 hloc4)
         |(at_builtin;refine wpList_append_own_at _ rfl _ _ 142 rfl w.heap.size 9 i0 (.string ⟨#[]⟩) 1 16 Tryz.underlying142 hi hz0 hz1 hz2 rfl (by decide) (.slice a2 a cap2) a ((ks.take a).map Value.string) rfl (hown2.alloc _) ⟨w2.heap.size,0,none⟩ 1 1 [.string kk] rfl rfl (cell_one_new _ _ _) (by simp[Value.oneCell']) (by unfold maxLen;omega) (by omega) (by have h:=HK2.out.size;simp;omega) ?_;intro v3 w3 hown3 hgrow3 hnil3 hloc3;have HB3:Hid (w3.heap[g9]?=wr.heap[g9]?):=(hgrow3.block g9 (by have h1:=HG9.out.2;have h2:=hgrow2.size;simp;omega) (λe=>HN2.out e.symm)).trans ((Below.heap_alloc _ _ _ (by have h1:=HG9.out.2;have h2:=hgrow2.size;omega)).trans (hgrow2.block g9 HG9.out.2 (by simp[Value.ownBlock])));have HK3:Hid (Kp (λ_=>False) w w3):=HK2.out.trans ((Kp.alloc (λb=>(Value.slice a2 a cap2).ownBlock=some b) w2 _).trans (Kp.of_grown (S:=λb=>(Value.slice a2 a cap2).ownBlock=some b) hgrow3 (λ_ h=>h)) (λ_ _ h=>h)) (λb hb e=>by have:=(hown2.lt b e).1;omega);obtain⟨a3,cap3,rfl,hcap3⟩:=zr hown3)
         |(at_builtin;refine wpList_append_own_at _ rfl _ _ 142 rfl w.heap.size 9 i0 (.string ⟨#[]⟩) 1 16 Tryz.underlying142 hi hz0 hz1 hz2 rfl (by decide) (.slice none 0 0) 0 [] rfl (World.ownsRow_nil wr w.heap.size 9 1) ⟨g9,0,none⟩ a cap9 ((ks.take a).map Value.string) rfl HLA.out HCA.out HOA.out (by unfold maxLen;omega) (by omega) (by have h:=HK.out.size;omega) ?_;intro v2 w2 hown2 hgrow2 hnil2 hloc2;simp only[Nat.zero_add,List.nil_append]at hown2;obtain⟨a2,cap2,rfl,hcap2⟩:=zr hown2;have HK2:Hid (Kp (λ_=>False) w w2):=HK.out.trans (Kp.of_grown (S:=λ_=>False) hgrow2 (λ_ h=>by simp[Value.ownBlock]at h)) (λ_ _ h=>h);have HN2:Hid ((Value.slice a2 a cap2).ownBlock≠some g9):=λe=>by rw[e]at hloc2;have h1:=HG9.out.2;simp[Value.ownBlock]at hloc2;omega)
         |go_in)
         ·go_roundw
          case rel=>exact⟨(l.length+j)+1,ks,by omega,by go_num,HK.out,HROW.out,HS.out,z6b.skip HM.out (by simp;omega) (Or.inl (by rw[HKK.out];exact zsf (by assumption))),by have:=HE.out;omega⟩
          case measure=>simp[intOf];omega
         ·have hin:inR f t kk=true:=z1g (by assumption) (by assumption)
          have hkp4:Kp (λ_=>False) w w4:=HK3.out.trans (Kp.of_grown (S:=λb=>(Value.slice a3 (a+1) cap3).ownBlock=some b) hgrow4 (λ_ h=>h)) (λb hb e=>by have:=(hown3.lt b e).1;omega)
          have hrow4:=zoi ha hown4
          go_roundw
          case rel=>exact⟨(l.length+j)+1,ks.take a++[kk]++ks.drop a,by omega,by go_num,hkp4,hrow4,zgg HS.out ha HBE.out (λj hj hja=>z7x HS.out hal hj hja HKA.out hcmp heq),z6b.step HM.out (by simp;omega) (λk=>by rw[HKK.out,zmi];exact⟨λh=>h.imp id (λh=>⟨h,h ▸ hin⟩),λh=>h.imp id And.left⟩),by have:=HE.out;simp;omega⟩
          case measure=>simp[intOf];omega
         ·go_roundw
          case rel=>exact⟨(l.length+j)+1,ks,by omega,by go_num,HK.out,HROW.out,HS.out,z6b.skip HM.out (by simp;omega) (Or.inl (by rw[HKK.out];exact zze (by assumption))),by have:=HE.out;omega⟩
          case measure=>simp[intOf];omega
        ·have HEQ:Hid (ka=kk):=WideShapes.bytes_inj (by rw[← Lib.toList_data,← Lib.toList_data];simpa using heq)
         go_wp2_with fail
         ·go_roundw
          case rel=>exact⟨(l.length+j)+1,ks,by omega,by go_num,HK.out,HROW.out,HS.out,z6b.skip HM.out (by simp;omega) (Or.inl (by rw[HKK.out];exact zsf (by assumption))),by have:=HE.out;omega⟩
          case measure=>simp[intOf];omega
         ·go_roundw
          case rel=>exact⟨(l.length+j)+1,ks,by omega,by go_num,HK.out,HROW.out,HS.out,z6b.skip HM.out (by simp;omega) (Or.inr (by rw[HKK.out,← HEQ.out,← HKA.out];exact List.getElem_mem _)),by have:=HE.out;omega⟩
          case measure=>simp[intOf];omega
         ·go_roundw
          case rel=>exact⟨(l.length+j)+1,ks,by omega,by go_num,HK.out,HROW.out,HS.out,z6b.skip HM.out (by simp;omega) (Or.inl (by rw[HKK.out];exact zze (by assumption))),by have:=HE.out;omega⟩
          case measure=>simp[intOf];omega
       ·go_wp2_with fail
        go_round
        case rel=>
         refine⟨a+1,by omega,by go_num,λj hj hja=>?_⟩
         by_cases ej:j=a
         ·subst ej;rw[HKA.out];exact hcmp
         ·exact HBE.out j hj (by omega)
        case measure=>simp[intOf];omega
      ·have HAE:Hid (a=ks.length):=by show _=_;omega
       have hge9:¬(a:Int)<ks.length:=by omega
       have hle9:(a:Int)≤ks.length:=by omega
       by_cases hce:cap9=a
       ·have hce':=hce.symm
        subst hce'
        clear hce
        have hcd:∀W:World,∀j u,((ks.drop a).map Value.string)[j]?=some u→W.cell? ((⟨g9,0,none⟩:Addr).add j)=some u:=λW j u hu=>by
         rw[HAE.out,List.drop_length]at hu;simp at hu
        have HCV:Hid _:=hcd
        clear hcd
        go_wp2_with (first
         |(at_builtin;refine wpList_append_own_at _ rfl _ _ 142 rfl w.heap.size 9 i0 (.string ⟨#[]⟩) 1 16 Tryz.underlying142 hi hz0 hz1 hz2 rfl (by decide) (.slice a3 (a+1) cap3) (a+1) ((ks.take a).map Value.string++[.string kk]) rfl hown3 ⟨g9,0,none⟩ (ks.length-a) _ ((ks.drop a).map Value.string) rfl HLD.out (HCV.out w3) HOD.out (by unfold maxLen;omega) (by omega) (by have h:=HK3.out.size;omega) ?_;intro v4 w4 hown4 hgrow4 hnil4 hloc4)
         |(at_builtin;refine wpList_append_own_at _ rfl _ _ 142 rfl w.heap.size 9 i0 (.string ⟨#[]⟩) 1 16 Tryz.underlying142 hi hz0 hz1 hz2 rfl (by decide) (.slice a2 a cap2) a ((ks.take a).map Value.string) rfl (hown2.alloc _) ⟨w2.heap.size,0,none⟩ 1 1 [.string kk] rfl rfl (cell_one_new _ _ _) (by simp[Value.oneCell']) (by unfold maxLen;omega) (by omega) (by have h:=HK2.out.size;simp;omega) ?_;intro v3 w3 hown3 hgrow3 hnil3 hloc3;have HB3:Hid (w3.heap[g9]?=wr.heap[g9]?):=(hgrow3.block g9 (by have h1:=HG9.out.2;have h2:=hgrow2.size;simp;omega) (λe=>HN2.out e.symm)).trans ((Below.heap_alloc _ _ _ (by have h1:=HG9.out.2;have h2:=hgrow2.size;omega)).trans (hgrow2.block g9 HG9.out.2 (by simp[Value.ownBlock])));have HK3:Hid (Kp (λ_=>False) w w3):=HK2.out.trans ((Kp.alloc (λb=>(Value.slice a2 a cap2).ownBlock=some b) w2 _).trans (Kp.of_grown (S:=λb=>(Value.slice a2 a cap2).ownBlock=some b) hgrow3 (λ_ h=>h)) (λ_ _ h=>h)) (λb hb e=>by have:=(hown2.lt b e).1;omega);obtain⟨a3,cap3,rfl,hcap3⟩:=zr hown3)
         |(at_builtin;refine wpList_append_own_at _ rfl _ _ 142 rfl w.heap.size 9 i0 (.string ⟨#[]⟩) 1 16 Tryz.underlying142 hi hz0 hz1 hz2 rfl (by decide) (.slice none 0 0) 0 [] rfl (World.ownsRow_nil wr w.heap.size 9 1) ⟨g9,0,none⟩ a a ((ks.take a).map Value.string) rfl HLA.out HCA.out HOA.out (by unfold maxLen;omega) (by omega) (by have h:=HK.out.size;omega) ?_;intro v2 w2 hown2 hgrow2 hnil2 hloc2;simp only[Nat.zero_add,List.nil_append]at hown2;obtain⟨a2,cap2,rfl,hcap2⟩:=zr hown2;have HK2:Hid (Kp (λ_=>False) w w2):=HK.out.trans (Kp.of_grown (S:=λ_=>False) hgrow2 (λ_ h=>by simp[Value.ownBlock]at h)) (λ_ _ h=>h);have HN2:Hid ((Value.slice a2 a cap2).ownBlock≠some g9):=λe=>by rw[e]at hloc2;have h1:=HG9.out.2;simp[Value.ownBlock]at hloc2;omega)
         |go_in)
        ·go_roundw
         case rel=>exact⟨(l.length+j)+1,ks,by omega,by go_num,HK.out,HROW.out,HS.out,z6b.skip HM.out (by simp;omega) (Or.inl (by rw[HKK.out];exact zsf (by assumption))),by have:=HE.out;omega⟩
         case measure=>simp[intOf];omega
        ·have hin:inR f t kk=true:=z1g (by assumption) (by assumption)
         have hkp4:Kp (λ_=>False) w w4:=HK3.out.trans (Kp.of_grown (S:=λb=>(Value.slice a3 (a+1) cap3).ownBlock=some b) hgrow4 (λ_ h=>h)) (λb hb e=>by have:=(hown3.lt b e).1;omega)
         have hrow4:=zoi ha hown4
         go_roundw
         case rel=>exact⟨(l.length+j)+1,ks.take a++[kk]++ks.drop a,by omega,by go_num,hkp4,hrow4,zgg HS.out ha HBE.out (λj hj hja=>by have:=HAE.out;omega),z6b.step HM.out (by simp;omega) (λk=>by rw[HKK.out,zmi];exact⟨λh=>h.imp id (λh=>⟨h,h ▸ hin⟩),λh=>h.imp id And.left⟩),by have:=HE.out;simp;omega⟩
         case measure=>simp[intOf];omega
        ·go_roundw
         case rel=>exact⟨(l.length+j)+1,ks,by omega,by go_num,HK.out,HROW.out,HS.out,z6b.skip HM.out (by simp;omega) (Or.inl (by rw[HKK.out];exact zze (by assumption))),by have:=HE.out;omega⟩
         case measure=>simp[intOf];omega
       ·have hne9:¬cap9=a:=hce
        have hne9':¬a=cap9:=λh=>hce h.symm
        go_wp2_with (first
         |(at_builtin;refine wpList_append_own_at _ rfl _ _ 142 rfl w.heap.size 9 i0 (.string ⟨#[]⟩) 1 16 Tryz.underlying142 hi hz0 hz1 hz2 rfl (by decide) (.slice a3 (a+1) cap3) (a+1) ((ks.take a).map Value.string++[.string kk]) rfl hown3 ⟨g9,a,none⟩ (ks.length-a) (cap9-a) ((ks.drop a).map Value.string) rfl HLD.out (HCD.out w3 HB3.out) HOD.out (by unfold maxLen;omega) (by omega) (by have h:=HK3.out.size;omega) ?_;intro v4 w4 hown4 hgrow4 hnil4 hloc4)
         |(at_builtin;refine wpList_append_own_at _ rfl _ _ 142 rfl w.heap.size 9 i0 (.string ⟨#[]⟩) 1 16 Tryz.underlying142 hi hz0 hz1 hz2 rfl (by decide) (.slice a2 a cap2) a ((ks.take a).map Value.string) rfl (hown2.alloc _) ⟨w2.heap.size,0,none⟩ 1 1 [.string kk] rfl rfl (cell_one_new _ _ _) (by simp[Value.oneCell']) (by unfold maxLen;omega) (by omega) (by have h:=HK2.out.size;simp;omega) ?_;intro v3 w3 hown3 hgrow3 hnil3 hloc3;have HB3:Hid (w3.heap[g9]?=wr.heap[g9]?):=(hgrow3.block g9 (by have h1:=HG9.out.2;have h2:=hgrow2.size;simp;omega) (λe=>HN2.out e.symm)).trans ((Below.heap_alloc _ _ _ (by have h1:=HG9.out.2;have h2:=hgrow2.size;omega)).trans (hgrow2.block g9 HG9.out.2 (by simp[Value.ownBlock])));have HK3:Hid (Kp (λ_=>False) w w3):=HK2.out.trans ((Kp.alloc (λb=>(Value.slice a2 a cap2).ownBlock=some b) w2 _).trans (Kp.of_grown (S:=λb=>(Value.slice a2 a cap2).ownBlock=some b) hgrow3 (λ_ h=>h)) (λ_ _ h=>h)) (λb hb e=>by have:=(hown2.lt b e).1;omega);obtain⟨a3,cap3,rfl,hcap3⟩:=zr hown3)
         |(at_builtin;refine wpList_append_own_at _ rfl _ _ 142 rfl w.heap.size 9 i0 (.string ⟨#[]⟩) 1 16 Tryz.underlying142 hi hz0 hz1 hz2 rfl (by decide) (.slice none 0 0) 0 [] rfl (World.ownsRow_nil wr w.heap.size 9 1) ⟨g9,0,none⟩ a cap9 ((ks.take a).map Value.string) rfl HLA.out HCA.out HOA.out (by unfold maxLen;omega) (by omega) (by have h:=HK.out.size;omega) ?_;intro v2 w2 hown2 hgrow2 hnil2 hloc2;simp only[Nat.zero_add,List.nil_append]at hown2;obtain⟨a2,cap2,rfl,hcap2⟩:=zr hown2;have HK2:Hid (Kp (λ_=>False) w w2):=HK.out.trans (Kp.of_grown (S:=λ_=>False) hgrow2 (λ_ h=>by simp[Value.ownBlock]at h)) (λ_ _ h=>h);have HN2:Hid ((Value.slice a2 a cap2).ownBlock≠some g9):=λe=>by rw[e]at hloc2;have h1:=HG9.out.2;simp[Value.ownBlock]at hloc2;omega)
         |go_in)
        ·go_roundw
         case rel=>exact⟨(l.length+j)+1,ks,by omega,by go_num,HK.out,HROW.out,HS.out,z6b.skip HM.out (by simp;omega) (Or.inl (by rw[HKK.out];exact zsf (by assumption))),by have:=HE.out;omega⟩
         case measure=>simp[intOf];omega
        ·have hin:inR f t kk=true:=z1g (by assumption) (by assumption)
         have hkp4:Kp (λ_=>False) w w4:=HK3.out.trans (Kp.of_grown (S:=λb=>(Value.slice a3 (a+1) cap3).ownBlock=some b) hgrow4 (λ_ h=>h)) (λb hb e=>by have:=(hown3.lt b e).1;omega)
         have hrow4:=zoi ha hown4
         go_roundw
         case rel=>exact⟨(l.length+j)+1,ks.take a++[kk]++ks.drop a,by omega,by go_num,hkp4,hrow4,zgg HS.out ha HBE.out (λj hj hja=>by have:=HAE.out;omega),z6b.step HM.out (by simp;omega) (λk=>by rw[HKK.out,zmi];exact⟨λh=>h.imp id (λh=>⟨h,h ▸ hin⟩),λh=>h.imp id And.left⟩),by have:=HE.out;simp;omega⟩
         case measure=>simp[intOf];omega
        ·go_roundw
         case rel=>exact⟨(l.length+j)+1,ks,by omega,by go_num,HK.out,HROW.out,HS.out,z6b.skip HM.out (by simp;omega) (Or.inl (by rw[HKK.out];exact zze (by assumption))),by have:=HE.out;omega⟩
         case measure=>simp[intOf];omega
  ·have hie:i=l.length+m.length:=by omega
   subst hie
   have hcast:((l.length+m.length:Nat):Int)=(l.length:Int)+(m.length:Int):=by omega
   have hge:¬((l.length+m.length:Nat):Int)<(l.length:Int)+(m.length:Int):=by omega
   go_wp2_with fail
   refine HR.out wr u9 ks HK.out hrow HS.out (λk=>?_) HE.out
   rw[HM.out k,List.take_of_length_le (by simp)]
end
end Go.Proofs.YthbdpfccfcceiaaGreatDoor
