/-
  Of the proof of logsUpto_card.
-/
import Derived.Test.YthbdpfccfcceiaaGreatDoorDB1x
namespace Go.Proofs.YthbdpfccfcceiaaGreatDoor
section
open Go.RowKit Go.Maps Go.Lib
structure Has (t:TS)(bs:List UInt8):Prop where
 ok:t.bad=false
 bs:t.B.drop t.at_=bs
 le:t.at_≤t.B.length
def Sim (t:TS)(s:RS):Prop:=(t.bad=true∧s.wr=true)∨(s.wr=false∧Has t s.bs)
theorem Has.len {t:TS}{bs:List UInt8}(h:Has t bs):t.B.length-t.at_=bs.length:=by rw[← h.bs];simp
theorem Has.some_ok {t:TS}{bs:List UInt8}(h:Has t bs){n:Nat}(hn:n≤bs.length):(t.some n).1=bs.take n∧Has (t.some n).2 (bs.drop n)∧(t.some n).2.at_=t.at_+n:=by
 have hl:=h.len
 have e:t.some n=((t.B.drop t.at_).take n,{ t with at_:=t.at_+n }):=by
  unfold TS.some
  rw[if_neg]
  rw[h.ok]
  simp;omega
 rw[e]
 have:=h.le
 exact⟨by rw[h.bs],⟨h.ok,by show t.B.drop (t.at_+n)=_;rw[← h.bs,List.drop_drop],by show t.at_+n≤t.B.length;omega⟩,rfl⟩
theorem TS.some_bad {t:TS}(h:t.bad=true)(n:Nat):t.some n=([],t.wrong):=by
 unfold TS.some
 rw[if_pos (Or.inl h)]
 rfl
theorem Has.some_no {t:TS}{bs:List UInt8}(h:Has t bs){n:Nat}(hn:bs.length<n):t.some n=([],t.wrong):=by
 have hl:=h.len
 unfold TS.some
 rw[if_pos (Or.inr (by omega))]
 rfl
theorem zue {t:TS}(h:t.bad=true)(n:Nat):(t.some n).2.bad=true:=by rw[TS.some_bad h];rfl
theorem zed {t:TS}(h:t.bad=true):t.one.2.bad=true:=zue h 1
theorem zqp {t:TS}(h:t.bad=true):t.text.2.bad=true:=zue (zed h) _
theorem z2o {t:TS}(h:t.bad=true):t.four.2.bad=true:=zed (zed (zed (zed h)))
theorem RS.take_ok {s:RS}(h:s.wr=false){n:Nat}(hn:n≤s.bs.length):s.take n=(some (s.bs.take n),⟨s.bs.drop n,false⟩):=by
 unfold RS.take
 rw[if_neg (by rw[h];simp;omega)]
theorem RS.take_no {s:RS}{n:Nat}(hn:s.wr=true∨s.bs.length<n):s.take n=(none,s.bad):=by
 unfold RS.take
 rw[if_pos hn]
theorem Sim.some {t:TS}{s:RS}(h:Sim t s)(n:Nat):Sim (t.some n).2 (s.take n).2∧((t.some n).2.bad=false→(s.take n).1=Option.some (t.some n).1):=by
 rcases h with ⟨h1,h2⟩|⟨h1,h2⟩
 ·rw[TS.some_bad h1,RS.take_no (Or.inl h2)]
  exact⟨Or.inl ⟨rfl,rfl⟩,λe=>by cases e⟩
 ·by_cases hn:n≤s.bs.length
  ·obtain⟨a,b,_⟩:=h2.some_ok hn
   rw[RS.take_ok h1 hn]
   exact⟨Or.inr ⟨rfl,b⟩,λ_=>by rw[a]⟩
  ·rw[h2.some_no (by omega),RS.take_no (Or.inr (by omega))]
   exact⟨Or.inl ⟨rfl,rfl⟩,λe=>by cases e⟩
theorem Sim.one {t:TS}{s:RS}(h:Sim t s):Sim t.one.2 s.one.2∧(t.one.2.bad=false→s.one.1=t.one.1):=by
 obtain⟨a,b⟩:=h.some 1
 refine⟨a,λe=>?_⟩
 unfold RS.one
 rw[b e]
 rfl
theorem Sim.text {t:TS}{s:RS}(h:Sim t s):Sim t.text.2 s.text.2∧(t.text.2.bad=false→z7b s.text.1=t.text.1):=by
 obtain⟨a,b⟩:=h.one
 by_cases e:t.one.2.bad=false
 ·have e1:=b e
  obtain⟨c,d⟩:=a.some t.one.1
  refine⟨by unfold TS.text RS.text;rw[e1];exact c,λe2=>?_⟩
  unfold TS.text RS.text
  rw[e1,d e2]
  rfl
 ·have e':t.one.2.bad=true:=by simpa using e
  have w1:s.one.2.wr=true:=by
   rcases a with ⟨_,h⟩|⟨_,h⟩
   ·exact h
   ·rw[h.ok]at e';cases e'
  refine⟨Or.inl ⟨zue e' _,?_⟩,λe2=>?_⟩
  ·unfold RS.text;rw[RS.take_no (Or.inl w1)];rfl
  ·have:=zue e' t.one.1
   unfold TS.text at e2
   rw[this]at e2;cases e2
theorem Has.one_cons {t:TS}{x:UInt8}{r:List UInt8}(h:Has t (x::r)):t.one.1=x.toNat∧Has t.one.2 r∧t.one.2.at_=t.at_+1:=by
 obtain⟨a,b,c⟩:=h.some_ok (n:=1) (by simp)
 refine⟨?_,by show Has (t.some 1).2 r;simpa using b,c⟩
 unfold TS.one
 rw[a]
 simp
theorem Has.one_nil {t:TS}(h:Has t []):t.one.2.bad=true:=by
 unfold TS.one
 rw[h.some_no (by simp)]
 rfl
theorem Sim.four {t:TS}{s:RS}(h:Sim t s):Sim t.four.2 s.four.2∧(t.four.2.bad=false→s.four.1=t.four.1):=by
 rcases h with ⟨h1,h2⟩|⟨h1,h2⟩
 ·have:=z2o h1
  refine⟨Or.inl ⟨this,?_⟩,λe=>by rw[this]at e;cases e⟩
  unfold RS.four
  rw[RS.take_no (Or.inl h2)]
  rfl
 ·have no:s.bs.length<4→t.four.2.bad=true→Sim t.four.2 s.four.2∧(t.four.2.bad=false→s.four.1=t.four.1):=λhl hb=>by
   refine⟨Or.inl ⟨hb,?_⟩,λe=>by rw[hb]at e;cases e⟩
   unfold RS.four
   rw[RS.take_no (Or.inr hl)]
   rfl
  generalize hbs:s.bs=bs at h2 no
  match bs,h2 with
  |[],h2=>exact no (by simp) (zed (zed (zed h2.one_nil)))
  |[a],h2=>exact no (by simp) (zed (zed h2.one_cons.2.1.one_nil))
  |[a,b],h2=>exact no (by simp) (zed h2.one_cons.2.1.one_cons.2.1.one_nil)
  |[a,b,c],h2=>exact no (by simp) h2.one_cons.2.1.one_cons.2.1.one_cons.2.1.one_nil
  |a::b::c::d::r,h2=>
   obtain⟨a1,a2,_⟩:=h2.one_cons
   obtain⟨b1,b2,_⟩:=a2.one_cons
   obtain⟨c1,c2,_⟩:=b2.one_cons
   obtain⟨d1,d2,_⟩:=c2.one_cons
   have e:s.take 4=(Option.some [a,b,c,d],⟨r,false⟩):=by rw[RS.take_ok h1 (by rw[hbs];simp),hbs];rfl
   unfold RS.four TS.four
   rw[e]
   refine⟨Or.inr ⟨rfl,d2⟩,λ_=>?_⟩
   simp only[a1,b1,c1,d1,le4]
   simp
   omega
theorem Sim.bad_iff {t:TS}{s:RS}(h:Sim t s):t.bad=s.wr:=by
 rcases h with ⟨h1,h2⟩|⟨h1,h2⟩
 ·rw[h1,h2]
 ·rw[h1,h2.ok]
theorem Sim.wrong {t:TS}{s:RS}:Sim t.wrong s.bad:=Or.inl ⟨rfl,rfl⟩
theorem z9x {t:TS}(h:t.bad=true):t.ver0.2.bad=true:=by
 unfold TS.ver0
 split
 ·exact zqp (zed h)
 ·split
  ·exact zed h
  ·rfl
theorem zq0 {t:TS}(h:t.bad=true)(k:ByteArray):(t.ver k).2.bad=true:=by
 unfold TS.ver
 dsimp only
 split
 ·exact z9x h
 ·rfl
theorem RS.ver_bad {s:RS}(h:s.wr=true):s.ver.2.wr=true:=by
 cases hw:s.ver.2.wr with
 |true=>rfl
 |false=>rw[(RS.ver_wr hw).1]at h;cases h
theorem Sim.ver {t:TS}{s:RS}(h:Sim t s)(k:ByteArray)(hk:zu k=true):Sim (t.ver k).2 s.ver.2∧((t.ver k).2.bad=false→s.ver.1=(t.ver k).1):=by
 obtain⟨a,b⟩:=h.one
 by_cases e:t.one.2.bad=false
 ·have e1:=b e
  by_cases q0:t.one.1=0
  ·obtain⟨c,d⟩:=a.text
   have hv0:t.ver0=((t.one.2.text.1,false),t.one.2.text.2):=by unfold TS.ver0;rw[if_pos q0]
   by_cases e2:t.one.2.text.2.bad=false
   ·have d2:=d e2
    by_cases q1:t.one.2.text.1.size≤20
    ·have e3:t.ver k=((t.one.2.text.1,false),t.one.2.text.2):=by unfold TS.ver;rw[hv0];simp[hk,q1]
     have e4:s.ver=((t.one.2.text.1,false),s.one.2.text.2):=by unfold RS.ver;rw[e1,if_pos q0,d2,if_pos q1]
     rw[e3,e4]
     exact⟨c,λ_=>rfl⟩
    ·have e3:t.ver k=((t.one.2.text.1,false),t.one.2.text.2.wrong):=by unfold TS.ver;rw[hv0];simp[q1]
     have e4:s.ver=((t.one.2.text.1,false),s.one.2.text.2.bad):=by unfold RS.ver;rw[e1,if_pos q0,d2,if_neg q1]
     rw[e3,e4]
     exact⟨Sim.wrong,λe=>by cases e⟩
   ·have e2':t.one.2.text.2.bad=true:=by simpa using e2
    have e3:(t.ver k).2.bad=true:=by
     unfold TS.ver
     dsimp only
     split
     ·rw[hv0];exact e2'
     ·rfl
    have w2:s.one.2.text.2.wr=true:=by rw[← c.bad_iff];exact e2'
    refine⟨Or.inl ⟨e3,?_⟩,λe=>by rw[e3]at e;cases e⟩
    unfold RS.ver
    rw[e1,if_pos q0]
    dsimp only
    split
    ·exact w2
    ·rfl
  ·by_cases q1:t.one.1=1
   ·have e3:t.ver k=((eb,true),t.one.2):=by unfold TS.ver TS.ver0;rw[if_neg q0,if_pos q1];simp[hk,show ¬20<eb.size by decide]
    have e4:s.ver=((eb,true),s.one.2):=by unfold RS.ver;rw[e1,if_neg q0,if_pos q1]
    rw[e3,e4]
    exact⟨a,λ_=>rfl⟩
   ·have e3:(t.ver k).2.bad=true:=by
     unfold TS.ver TS.ver0
     rw[if_neg q0,if_neg q1]
     dsimp only
     split<;>rfl
    have e4:s.ver=((eb,false),s.one.2.bad):=by unfold RS.ver;rw[e1,if_neg q0,if_neg q1]
    rw[e4]
    exact⟨Or.inl ⟨e3,rfl⟩,λe=>by rw[e3]at e;cases e⟩
 ·have e':t.one.2.bad=true:=by simpa using e
  have e3:(t.ver k).2.bad=true:=by
   unfold TS.ver
   dsimp only
   split
   ·unfold TS.ver0
    split
    ·exact zqp e'
    ·split
     ·exact e'
     ·rfl
   ·rfl
  have w1:s.one.2.wr=true:=by rw[← a.bad_iff];exact e'
  refine⟨Or.inl ⟨e3,?_⟩,λe=>by rw[e3]at e;cases e⟩
  cases hw:s.ver.2.wr with
  |true=>rfl
  |false=>
   unfold RS.ver at hw
   split at hw
   ·dsimp only at hw
    split at hw
    ·rw[RS.text_wr hw]at w1;cases w1
    ·cases hw
   ·split at hw
    ·rw[hw]at w1;cases w1
    ·cases hw
theorem Sim.write {t:TS}{s:RS}(h:Sim t s):Sim (t.text.2.ver t.text.1).2 s.key.2.ver.2∧((t.text.2.ver t.text.1).2.bad=false→s.key.1=t.text.1∧s.key.2.ver.1=(t.text.2.ver t.text.1).1):=by
 obtain⟨a,b⟩:=h.text
 by_cases e:t.text.2.bad=false
 ·have e1:=b e
  by_cases q:zu t.text.1=true
  ·have e2:s.key=(t.text.1,s.text.2):=by unfold RS.key;rw[e1,if_pos q]
   rw[e2]
   obtain⟨c,d⟩:=a.ver t.text.1 q
   exact⟨c,λe=>⟨rfl,d e⟩⟩
  ·have e2:s.key=(t.text.1,s.text.2.bad):=by unfold RS.key;rw[e1,if_neg q]
   rw[e2]
   have e3:(t.text.2.ver t.text.1).2.bad=true:=by
    unfold TS.ver
    dsimp only
    rw[if_neg (λe=>q e.1)]
    rfl
   exact⟨Or.inl ⟨e3,RS.ver_bad rfl⟩,λe=>by rw[e3]at e;cases e⟩
 ·have e':t.text.2.bad=true:=by simpa using e
  have e3:=zq0 e' t.text.1
  have w1:s.text.2.wr=true:=by rw[← a.bad_iff];exact e'
  refine⟨Or.inl ⟨e3,RS.ver_bad ?_⟩,λe=>by rw[e3]at e;cases e⟩
  unfold RS.key
  dsimp only
  split
  ·exact w1
  ·rfl
def zqg (s:RS)(n:Nat):Prop:=(s.writes n).2.wr=false∧((s.writes n).1.map Prod.fst).Pairwise blt
theorem zqg.pred {s:RS}{n:Nat}(h:zqg s (n+1)):zqg s n:=by
 refine⟨(RS.key_wr (RS.ver_wr h.1).1).1,?_⟩
 have h2:=h.2
 unfold RS.writes at h2
 rw[List.map_append,List.pairwise_append]at h2
 exact h2.1
theorem zqg.mono {s:RS}{m:Nat}:∀{n:Nat},m≤n→zqg s n→zqg s m
 |0,h,hg=>by rw[Nat.le_zero.1 h];exact hg
 |n+1,h,hg=>by
  by_cases e:m=n+1
  ·rw[e];exact hg
  ·exact zqg.mono (by omega) hg.pred
end
section
open Go.RowKit Go.Maps Go.Lib
theorem zp2 (x:UInt8):u8 x.toNat=x:=by simp[u8]
theorem RS.take_some {s:RS}{n:Nat}(h:(s.take n).2.wr=false):s.wr=false∧n≤s.bs.length∧s.take n=(some (s.bs.take n),⟨s.bs.drop n,false⟩):=by
 have h1:=RS.take_wr h
 by_cases hn:n≤s.bs.length
 ·exact⟨h1,hn,RS.take_ok h1 hn⟩
 ·rw[RS.take_no (Or.inr (by omega))]at h;cases h
theorem RS.one_form {s:RS}(h:s.one.2.wr=false):s.bs=u8 s.one.1::s.one.2.bs:=by
 obtain⟨h1,h2,h3⟩:=RS.take_some (n:=1) h
 unfold RS.one
 rw[h3]
 match hb:s.bs,h2 with
 |x::r,_=>simp[zp2]
theorem z5r (a b c d:UInt8):fourB (le4 [a,b,c,d])=[a,b,c,d]:=by
 have ha:=a.toNat_lt
 have hb:=b.toNat_lt
 have hc:=c.toNat_lt
 have hd:=d.toNat_lt
 have e0:le4 [a,b,c,d]=a.toNat+256*b.toNat+65536*c.toNat+16777216*d.toNat:=by simp[le4]
 have k:∀(n m:Nat) (x:UInt8),x.toNat=m→n % 256=m→u8 n=x:=λn m x h1 h2=>by
  apply UInt8.toNat_inj.1
  rw[h1,← h2]
  simp[u8]
 rw[e0]
 unfold fourB
 rw[k _ _ a rfl (by omega),k _ _ b rfl (by omega),k _ _ c rfl (by omega),k _ _ d rfl (by omega)]
theorem RS.four_form {s:RS}(h:s.four.2.wr=false):s.bs=fourB s.four.1++s.four.2.bs:=by
 obtain⟨h1,h2,h3⟩:=RS.take_some (n:=4) h
 unfold RS.four
 rw[h3]
 match hb:s.bs,h2 with
 |a::b::c::d::r,_=>
  show _=fourB (le4 [a,b,c,d])++r
  rw[z5r]
  rfl
theorem RS.text_form {s:RS}(h:s.text.2.wr=false):s.bs=zac (z7b s.text.1)++s.text.2.bs:=by
 have h0:s.one.2.wr=false:=RS.take_wr h
 have e1:=RS.one_form h0
 obtain⟨h1,h2,h3⟩:=RS.take_some (n:=s.one.1) h
 have e2:s.text=(s.one.2.bs.take s.one.1,⟨s.one.2.bs.drop s.one.1,false⟩):=by unfold RS.text;rw[h3];rfl
 rw[e2]
 dsimp only
 unfold zac
 rw[z5g,List.length_take,Nat.min_eq_left h2]
 conv=>lhs;rw[e1]
 simp[z7b]
theorem RS.key_form {s:RS}(h:s.key.2.wr=false):s.bs=zac s.key.1++s.key.2.bs:=by
 unfold RS.key at h ⊢
 dsimp only at h ⊢
 split at h
 ·rename_i hk
  rw[if_pos hk]
  exact RS.text_form h
 ·cases h
theorem RS.ver_form {s:RS}(h:s.ver.2.wr=false):s.bs=zlg s.ver.1++s.ver.2.bs:=by
 by_cases q0:s.one.1=0
 ·have e:s.ver=((z7b s.one.2.text.1,false),if (z7b s.one.2.text.1).size≤20 then s.one.2.text.2 else s.one.2.text.2.bad):=by unfold RS.ver;rw[if_pos q0]
  rw[e]at h ⊢
  dsimp only at h ⊢
  split at h
  ·rename_i hq
   rw[if_pos hq]
   have h1:=RS.text_form h
   have h2:=RS.one_form (RS.text_wr h)
   rw[h2,q0,h1]
   rfl
  ·cases h
 ·by_cases q1:s.one.1=1
  ·have e:s.ver=((eb,true),s.one.2):=by unfold RS.ver;rw[if_neg q0,if_pos q1]
   rw[e]at h ⊢
   rw[RS.one_form h,q1]
   rfl
  ·have e:s.ver=((eb,false),s.one.2.bad):=by unfold RS.ver;rw[if_neg q0,if_neg q1]
   rw[e]at h
   cases h
theorem RS.writes_form {s:RS}:∀{n:Nat},(s.writes n).2.wr=false→s.bs=(s.writes n).1.flatMap z9b++(s.writes n).2.bs
 |0,_=>by simp[RS.writes]
 |n+1,h=>by
  have h1:=RS.ver_wr h
  have h2:=RS.key_wr h1.1
  have e1:=RS.ver_form h
  have e2:=RS.key_form h1.1
  rw[RS.writes_form h2.1,e2,e1]
  simp[RS.writes,z9b]
theorem z2h {s:RS}(h:s.done=true):s.wr=false∧s.bs=[]:=by
 unfold RS.done at h
 rw[Bool.and_eq_true]at h
 exact⟨by simpa using h.1,by simpa using h.2⟩
def z9h (k t:Nat)(ws:List W3):List UInt8:=if k=72 then zxb t else zbb t ws
theorem z4d.form {body:List UInt8}{k t:Nat}{ws:List W3}(h:z4d body k t ws):body=z9h k t ws:=by
 rcases h with ⟨rfl,h2,h3,rfl,h5⟩|⟨rfl,h2,h3,h4,h5,_,h7,h8⟩
 ·obtain⟨d1,d2⟩:=z2h h5
  have e1:=RS.four_form (s:=(⟨body,false⟩:RS).one.2) d1
  have e2:=RS.one_form (s:=(⟨body,false⟩:RS)) (RS.take_wr d1)
  have e3:body=u8 (⟨body,false⟩:RS).one.1::(⟨body,false⟩:RS).one.2.bs:=e2
  have f1:(⟨body,false⟩:RS).one.1=72:=h2
  have f2:(⟨body,false⟩:RS).one.2.four.2.bs=[]:=d2
  have f3:(⟨body,false⟩:RS).one.2.four.1=t:=h3.symm
  rw[f1,e1,f2,f3]at e3
  rw[List.append_nil]at e3
  exact e3
 ·obtain⟨d1,d2⟩:=z2h h5
  have hl:=z3f body
  have e0:=RS.writes_form (s:=(zw body).2.2.one.2) (n:=(zw body).2.2.one.1) d1
  have g0:(zw body).2.2.one.2.wr=false:=by
   have:∀(s:RS) (n:Nat),(s.writes n).2.wr=false→s.wr=false:=λs n=>by
    induction n with
    |zero=>exact λh=>h
    |succ n ih=>exact λh=>ih (RS.key_wr (RS.ver_wr h).1).1
   exact this _ _ d1
  have e1:=RS.one_form g0
  have g1:(zw body).2.2.wr=false:=RS.one_wr g0
  have e2:=RS.four_form (s:=(⟨body,false⟩:RS).one.2) g1
  have e3:body=u8 (⟨body,false⟩:RS).one.1::(⟨body,false⟩:RS).one.2.bs:=RS.one_form (s:=(⟨body,false⟩:RS)) (RS.take_wr g1)
  have f1:(⟨body,false⟩:RS).one.1=67:=h2
  have f3:(⟨body,false⟩:RS).one.2.four.1=t:=h3.symm
  have f4:(⟨body,false⟩:RS).one.2.four.2.bs=u8 (zw body).2.2.one.1::(zw body).2.2.one.2.bs:=e1
  have f5:((zw body).2.2.one.2.writes (zw body).2.2.one.1).2.bs=[]:=d2
  have f6:((zw body).2.2.one.2.writes (zw body).2.2.one.1).1=ws:=h4.symm
  rw[f1,e2,f3,f4,e0,f5,f6,← hl]at e3
  rw[show (zdh body).1=ws from h4.symm]at e3
  rw[List.append_nil]at e3
  exact e3
end
section
open Go.RowKit Go.Maps Go.Lib
def toY (t:Int)(x:W3):YV:=⟨x.1,t,x.2.2,x.2.1⟩
def zoj (body:List UInt8)(h:Bool)(T:Nat)(L:List YV)(ok:Bool):Prop:=
 (ok=true→∃k ws,z4d body k T ws∧h=decide (k=72)∧L=ws.map (toY T)∧(k=67→1≤T∧T≤2000))∧(ok=false→∀k t ws,z4d body k t ws→k=67∧¬(1≤t∧t≤2000))
def zej (w:World)(g:Nat)(x y z u:Value):World:=((((w.setCell ⟨g,0,none⟩ x).setCell ⟨g,1,none⟩ y).setCell ⟨g,2,none⟩ z).setCell ⟨g,3,none⟩ u)
theorem z8f (w:World)(g:Nat)(x y z u:Value):Kp (λb=>b=g) w (zej w g x y z u):=
 (((Kp.setCell w _ _ (S:=λb=>b=g) rfl).trans (Kp.setCell (S:=λb=>b=g) _ _ _ rfl) (λ_ _ h=>h)).trans (Kp.setCell (S:=λb=>b=g) _ _ _ rfl) (λ_ _ h=>h)).trans (Kp.setCell (S:=λb=>b=g) _ _ _ rfl) (λ_ _ h=>h)
def TS.new (body:List UInt8):TS:=⟨body,0,false⟩
structure zyc (w W:World)(D T:Nat)(hb:Bool)(t:TS)(v vL:Value)(g:Nat):Prop where
 kp:Kp (λ_=>False) w W
 a:W.heap[w.heap.size]?=some (.cells #[.bool false,.int .i64 0,.slice none 0 0,.slice none 0 0] 255 (0,0))
 d:W.heap[D]?=some (.cells #[.bool hb,.int .i64 (T:Nat),vL,v] 255 (0,0))
 tk:znb W (w.heap.size+1) t v g
 lt:w.heap.size+1<D
theorem zyc.start {w w1 w2:World}{t2:TS}{v:Value}{g T:Nat}{hb:Bool}
  (h1:Kp (λb=>b=w.heap.size+1) ((w.alloc (.cells #[.bool false,.int .i64 0,.slice none 0 0,.slice none 0 0] 255)).alloc (.cells #[v,.int .i64 0,.bool false] 307)) w1)
  (h2:Kp (λb=>b=w.heap.size+1) w1 w2) (h3:znb w2 (w.heap.size+1) t2 v g):zyc w (w2.alloc (.cells #[.bool hb,.int .i64 (T:Nat),.slice none 0 0,v] 255)) w2.heap.size T hb t2 v (.slice none 0 0) g:=by
 have kA:=Kp.alloc (λ_=>False) w (.cells #[.bool false,.int .i64 0,.slice none 0 0,.slice none 0 0] 255)
 have bA:=heap_alloc_new w (.cells #[.bool false,.int .i64 0,.slice none 0 0,.slice none 0 0] 255)
 have kB:=Kp.alloc (λ_=>False) (w.alloc (.cells #[.bool false,.int .i64 0,.slice none 0 0,.slice none 0 0] 255)) (.cells #[v,.int .i64 0,.bool false] 307)
 have k12:=h1.trans h2 (λ_ _ e=>e)
 have kC:=Kp.alloc (λ_=>False) w2 (.cells #[.bool hb,.int .i64 (T:Nat),.slice none 0 0,v] 255)
 have s1:=k12.size
 simp at s1
 refine⟨?_,?_,heap_alloc_new _ _,h3.kp kC (λe=>e) (λe=>e),by omega⟩
 ·exact ((kA.trans kB (λ_ _ e=>e)).trans k12 (λb hb e=>by omega)).trans kC (λ_ _ e=>e)
 ·have e1:=(kB.block _ (zh bA) (λe=>e)).trans bA
  have e2:=(k12.block _ (zh e1) (λe=>by omega)).trans e1
  exact (kC.block _ (zh e2) (λe=>e)).trans e2
theorem zyc.kept {w W W':World}{D T:Nat}{hb:Bool}{t:TS}{v vL:Value}{g:Nat}(h:zyc w W D T hb t v vL g)(k:Kp (λ_=>False) W W'):zyc w W' D T hb t v vL g:=
 ⟨h.kp.trans k (λ_ _ e=>e),(k.block _ (zh h.a) (λe=>e)).trans h.a,(k.block _ (zh h.d) (λe=>e)).trans h.d,h.tk.kp k (λe=>e) (λe=>e),h.lt⟩
theorem z5b {w:World}{g:Nat}{cs:Array Value}{fr:Nat × Nat}(hg:w.heap[g]?=some (.cells cs 255 fr))(hs:cs.size=4):(loadVar 255 ⟨g,0,none⟩).run Tryz.prog w = .ok (.agg cs) w:=
 run_loadVar_row w g 255 255 cs fr _ hg Tryz.underlying255 rfl (by rw[hs];kernel_rfl)
theorem zyc.out {w W:World}{D T:Nat}{hb:Bool}{t:TS}{v vL:Value}{g:Nat}(h:zyc w W D T hb t v vL g):(zej W w.heap.size (.bool hb) (.int .i64 (T:Nat)) vL v).heap[w.heap.size]?=some (.cells #[.bool hb,.int .i64 (T:Nat),vL,v] 255 (0,0))∧Kp (λ_=>False) w (zej W w.heap.size (.bool hb) (.int .i64 (T:Nat)) vL v):=
 ⟨zn (zn (zn (zn h.a _) _) _) _,h.kp.trans (z8f W w.heap.size _ _ _ _) (λb hb e=>by omega)⟩
theorem Has.at_end {t:TS}{bs:List UInt8}(h:Has t bs):t.at_=t.B.length↔bs=[]:=by
 have h1:=h.len
 have h2:=h.le
 constructor
 ·intro e
  exact List.eq_nil_of_length_eq_zero (by omega)
 ·intro e
  rw[e]at h1
  simp at h1
  omega
theorem Sim.done {t:TS}{s:RS}(h:Sim t s):s.done=true↔t.bad=false∧t.at_=t.B.length:=by
 unfold RS.done
 rcases h with ⟨h1,h2⟩|⟨h1,h2⟩
 ·simp[h1,h2]
 ·rw[h2.at_end,h2.ok,h1]
  simp
theorem z91 (body:List UInt8):Sim (TS.new body) ⟨body,false⟩:=Or.inr ⟨rfl,rfl,rfl,Nat.zero_le _⟩
theorem TS.one_ok {t:TS}(h:t.one.2.bad=false):t.bad=false:=by
 cases hb:t.bad with
 |false=>rfl
 |true=>rw[zed hb]at h;cases h
theorem TS.four_ok {t:TS}(h:t.four.2.bad=false):t.bad=false:=by
 cases hb:t.bad with
 |false=>rfl
 |true=>rw[z2o hb]at h;cases h
theorem z3k (body:List UInt8):Sim (TS.new body).one.2.four.2 (zw body).2.2∧((TS.new body).one.2.four.2.bad=false→(zw body).1=(TS.new body).one.1∧(zw body).2.1=(TS.new body).one.2.four.1):=by
 obtain⟨a,b⟩:=(z91 body).one
 obtain⟨c,d⟩:=a.four
 exact⟨c,λe=>⟨b (TS.four_ok e),d e⟩⟩
theorem z4d.wr {body:List UInt8}{k t:Nat}{ws:List W3}(h:z4d body k t ws):(zw body).2.2.wr=false∧k=(zw body).1∧t=(zw body).2.1:=by
 rcases h with ⟨h1,h2,h3,h4,h5⟩|⟨h1,h2,h3,h4,h5,_⟩
 ·exact⟨(z2h h5).1,by omega,h3⟩
 ·refine⟨?_,by omega,h3⟩
  have d1:=(z2h h5).1
  have:∀(s:RS) (n:Nat),(s.writes n).2.wr=false→s.wr=false:=λs n=>by
   induction n with
   |zero=>exact λh=>h
   |succ n ih=>exact λh=>ih (RS.key_wr (RS.ver_wr h).1).1
  exact RS.one_wr (this _ _ d1)
theorem zf0 (body:List UInt8)(hk:(TS.new body).one.1≠67)(ok:Bool)(h1:ok=true→(TS.new body).one.1=72∧(TS.new body).one.2.four.2.bad=false∧(TS.new body).one.2.four.2.at_=body.length)(h2:ok=false→¬((TS.new body).one.1=72∧(TS.new body).one.2.four.2.bad=false∧(TS.new body).one.2.four.2.at_=body.length)):zoj body (decide ((TS.new body).one.1=72)) (TS.new body).one.2.four.1 [] ok:=by
 obtain⟨hs,hv⟩:=z3k body
 have hB:(TS.new body).one.2.four.2.B=body:=(TS.four_B _).trans (TS.one_B _)
 have hd:=hs.done
 rw[hB]at hd
 refine⟨λe=>?_,λe k t ws hr=>?_⟩
 ·obtain⟨a,b,c⟩:=h1 e
  obtain⟨e1,e2⟩:=hv b
  exact⟨72,[],Or.inl ⟨rfl,by omega,e2.symm,rfl,hd.2 ⟨b,c⟩⟩,by rw[a],rfl,λe=>by omega⟩
 ·obtain⟨w1,w2,w3⟩:=hr.wr
  have b:(TS.new body).one.2.four.2.bad=false:=by rw[hs.bad_iff];exact w1
  obtain⟨e1,e2⟩:=hv b
  rcases hr with ⟨a1,a2,a3,a4,a5⟩|⟨a1,a2,_⟩
  ·exact absurd ⟨by omega,b,(hd.1 a5).2⟩ (h2 e)
  ·exact absurd (by omega) hk
section
variable {R:Ending→World→Prop}
set_option maxRecDepth 20000 in
set_option maxHeartbeats 1000000 in
theorem zn1 (v:Value)(body:List UInt8)(g:Nat)(w:World)(h:RdN w v body g)(hg:g<w.heap.size)(hl:body.length≤1100000)(hk:(TS.new body).one.1≠67)
  (hR:∀w' (b:Bool) T ok,Kp (λ_=>False) w w'→zoj body b T [] ok→T<4294967296→R (.returned (.tuple #[.agg #[.bool b,.int .i64 (T:Nat),.slice none 0 0,v],.bool ok])) w') :
  Calls Tryz.prog 247 #[v] w R:=by
 have H0:Hid (znb ((w.alloc (.cells #[.bool false,.int .i64 0,.slice none 0 0,.slice none 0 0] 255)).alloc (.cells #[v,.int .i64 0,.bool false] 307)) (w.heap.size+1) (TS.new body) v g):=by
  refine⟨?_,(h.kp (Kp.alloc (λ_=>False) w _) (λe=>e)).kp (Kp.alloc (λ_=>False) _ _) (λe=>e),by omega,Nat.zero_le _⟩
  have:=heap_alloc_new (w.alloc (.cells #[.bool false,.int .i64 0,.slice none 0 0,.slice none 0 0] 255)) (.cells #[v,.int .i64 0,.bool false] 307)
  rw[show (w.alloc (.cells #[.bool false,.int .i64 0,.slice none 0 0,.slice none 0 0] 255)).heap.size=w.heap.size+1 by simp]at this
  exact this
 have HL:Hid ((TS.new body).B.length≤1100000):=hl
 have HB:Hid ((TS.new body).one.2.B.length≤1100000):=by show _≤_;rw[TS.one_B];exact hl
 have HG:=ze hg
 obtain⟨pv,cv,rfl,hcv,hrd⟩:=h
 have HR:=ze hR
 have l1:=(TS.new body).one_lt
 have HFB:=ze ((TS.new body).one.2.four_B)
 have HFL:=ze ((TS.new body).one.2.four_lt)
 have HS:=ze (zf0 body hk)
 clear hR hl hcv hrd hg
 generalize e1:(TS.new body).one=t1 at *
 obtain⟨k,ta⟩:=t1
 simp only at *
 generalize e2:ta.four=t2 at *
 obtain⟨T,tb⟩:=t2
 simp only at *
 have E1:=ze e1
 have E2:=ze e2
 have hk':((k:Int) == 67)=false:=by simp;omega
 have l1':(k:Int)<256:=by omega
 clear e1 e2
 have HT4:=ze HFL.out
 by_cases q:k=72
 ·subst q
  simp only[decide_true]at HS
  go_enter Tryz.func247,Tryz.ntmps247
  go_wp2_with (first
   |(go_at_call 246;refine zgd _ _ 72 ta E1.out _ g _ H0.out HL.out ?_;intro w1 hT1 hk1;have H1:=ze hT1;have HK1:=ze hk1;clear hT1 hk1)
   |(go_at_call 197;refine zvq _ ta T tb E2.out _ g _ H1.out HB.out ?_;intro w2 hT2 hk2;have HSA:=ze (zyc.start (hb:=true) (T:=T) HK1.out hk2 hT2);clear hT2 hk2)
   |fail)
  generalize hW:w2.alloc (.cells #[.bool true,.int .i64 (T:Nat),.slice none 0 0,.slice pv body.length cv] 255)=W at HSA ⊢
  clear hW
  generalize w2.heap.size=D at HSA ⊢
  have hlt:=HSA.out.lt
  have q00:=zg HSA.out.a 0
  have q01:=zg HSA.out.a 1
  have q02:=zg HSA.out.a 2
  have q03:=zg HSA.out.a 3
  have q0f:=λo=>zj HSA.out.a o
  have qd0:=zg HSA.out.d 0
  have qd1:=zg HSA.out.d 1
  have qd2:=zg HSA.out.d 2
  have qd3:=zg HSA.out.d 3
  have qt1:=zg HSA.out.tk.blk 1
  have qt2:=zg HSA.out.tk.blk 2
  simp at q00 q01 q02 q03 qd0 qd1 qd2 qd3 qt1 qt2
  have n1:w.heap.size≠D:=by omega
  have n2:D≠w.heap.size:=by omega
  have n3:w.heap.size+1≠D:=by omega
  have n4:D≠w.heap.size+1:=by omega
  by_cases qb:tb.bad=true
  ·rw[qb]at qt2
   go_region
   all_goals go_wp2_with fail
   all_goals refine bodyPost_ret (zcb rfl _ _ w.heap.size #[.bool true,.int .i64 (T:Nat),.slice none 0 0,.slice pv body.length cv] rfl (z5b (fr:=(0,0)) HSA.out.out.1 rfl)) rfl ?_
   all_goals exact HR.out _ true T false (HSA.out.out.2.trans (Kp.drew (λ_=>False) _) (λ_ _ e=>e)) (HS.out false (λe=>by cases e) (λ_ e=>by rw[qb]at e;cases e.2.1)) HT4.out
  ·have qb':tb.bad=false:=by simpa using qb
   rw[qb']at qt2
   clear qb
   by_cases qe:tb.at_=body.length
   ·have qe':((tb.at_:Int) == body.length)=true:=by simp[qe]
    go_region
    all_goals go_wp2_with fail
    all_goals refine bodyPost_ret (zcb rfl _ _ w.heap.size #[.bool true,.int .i64 (T:Nat),.slice none 0 0,.slice pv body.length cv] rfl (z5b (fr:=(0,0)) HSA.out.out.1 rfl)) rfl ?_
    all_goals exact HR.out _ true T true (HSA.out.out.2.trans (Kp.drew (λ_=>False) _) (λ_ _ e=>e)) (HS.out true (λ_=>⟨trivial,qb',qe⟩) (λe=>by cases e)) HT4.out
   ·have qe':((tb.at_:Int) == body.length)=false:=by simp;omega
    go_region
    all_goals go_wp2_with fail
    all_goals refine bodyPost_ret (zcb rfl _ _ w.heap.size #[.bool true,.int .i64 (T:Nat),.slice none 0 0,.slice pv body.length cv] rfl (z5b (fr:=(0,0)) HSA.out.out.1 rfl)) rfl ?_
    all_goals exact HR.out _ true T false (HSA.out.out.2.trans (Kp.drew (λ_=>False) _) (λ_ _ e=>e)) (HS.out false (λe=>by cases e) (λ_ e=>qe e.2.2)) HT4.out
 ·have q':((k:Int) == 72)=false:=by simp;omega
  have qd:decide (k=72)=false:=by simpa using q
  rw[qd]at HS
  clear qd
  go_enter Tryz.func247,Tryz.ntmps247
  go_wp2_with (first
   |(go_at_call 246;refine zgd _ _ k ta E1.out _ g _ H0.out HL.out ?_;intro w1 hT1 hk1;have H1:=ze hT1;have HK1:=ze hk1;clear hT1 hk1)
   |(go_at_call 197;refine zvq _ ta T tb E2.out _ g _ H1.out HB.out ?_;intro w2 hT2 hk2;have HSA:=ze (zyc.start (hb:=false) (T:=T) HK1.out hk2 hT2);clear hT2 hk2)
   |fail)
  generalize hW:w2.alloc (.cells #[.bool false,.int .i64 (T:Nat),.slice none 0 0,.slice pv body.length cv] 255)=W at HSA ⊢
  clear hW
  generalize w2.heap.size=D at HSA ⊢
  have hlt:=HSA.out.lt
  have q00:=zg HSA.out.a 0
  have q01:=zg HSA.out.a 1
  have q02:=zg HSA.out.a 2
  have q03:=zg HSA.out.a 3
  have q0f:=λo=>zj HSA.out.a o
  have qd0:=zg HSA.out.d 0
  have qd1:=zg HSA.out.d 1
  have qd2:=zg HSA.out.d 2
  have qd3:=zg HSA.out.d 3
  have qt1:=zg HSA.out.tk.blk 1
  have qt2:=zg HSA.out.tk.blk 2
  simp at q00 q01 q02 q03 qd0 qd1 qd2 qd3 qt1 qt2
  have n1:w.heap.size≠D:=by omega
  have n2:D≠w.heap.size:=by omega
  have n3:w.heap.size+1≠D:=by omega
  have n4:D≠w.heap.size+1:=by omega
  by_cases qb:tb.bad=true
  ·rw[qb]at qt2
   go_region
   all_goals go_wp2_with fail
   all_goals refine bodyPost_ret (zcb rfl _ _ w.heap.size #[.bool false,.int .i64 (T:Nat),.slice none 0 0,.slice pv body.length cv] rfl (z5b (fr:=(0,0)) HSA.out.out.1 rfl)) rfl ?_
   all_goals exact HR.out _ false T false (HSA.out.out.2.trans (Kp.drew (λ_=>False) _) (λ_ _ e=>e)) (HS.out false (λe=>by cases e) (λ_ e=>q e.1)) HT4.out
  ·have qb':tb.bad=false:=by simpa using qb
   rw[qb']at qt2
   clear qb
   by_cases qe:tb.at_=body.length
   ·have qe':((tb.at_:Int) == body.length)=true:=by simp[qe]
    go_region
    all_goals go_wp2_with fail
    all_goals refine bodyPost_ret (zcb rfl _ _ w.heap.size #[.bool false,.int .i64 (T:Nat),.slice none 0 0,.slice pv body.length cv] rfl (z5b (fr:=(0,0)) HSA.out.out.1 rfl)) rfl ?_
    all_goals exact HR.out _ false T false (HSA.out.out.2.trans (Kp.drew (λ_=>False) _) (λ_ _ e=>e)) (HS.out false (λe=>by cases e) (λ_ e=>q e.1)) HT4.out
   ·have qe':((tb.at_:Int) == body.length)=false:=by simp;omega
    go_region
    all_goals go_wp2_with fail
    all_goals refine bodyPost_ret (zcb rfl _ _ w.heap.size #[.bool false,.int .i64 (T:Nat),.slice none 0 0,.slice pv body.length cv] rfl (z5b (fr:=(0,0)) HSA.out.out.1 rfl)) rfl ?_
    all_goals exact HR.out _ false T false (HSA.out.out.2.trans (Kp.drew (λ_=>False) _) (λ_ _ e=>e)) (HS.out false (λe=>by cases e) (λ_ e=>q e.1)) HT4.out
end
end
section
open Go.RowKit Go.Maps Go.Lib
structure z1e (S:RS)(T i:Nat)(t:TS)(L:List YV):Prop where
 len:L.length=i
 good:t.bad=false→zqg S i∧L=(S.writes i).1.map (toY T)∧Has t (S.writes i).2.bs
 no:t.bad=true→¬zqg S i
theorem z1e.start {S:RS}{T:Nat}{t:TS}(h:Sim t S):z1e S T 0 t []:=by
 refine⟨rfl,λe=>?_,λe hg=>?_⟩
 ·rcases h with ⟨h1,_⟩|⟨h1,h2⟩
  ·rw[e]at h1;cases h1
  ·exact⟨⟨h1,List.Pairwise.nil⟩,rfl,h2⟩
 ·have:=hg.1
  rcases h with ⟨_,h1⟩|⟨h1,h2⟩
  ·simp[RS.writes]at this;rw[this]at h1;cases h1
  ·rw[h2.ok]at e;cases e
theorem z1e.sim {S:RS}{T i:Nat}{t:TS}{L:List YV}(h:z1e S T i t L)(hb:t.bad=false):Sim t (S.writes i).2:=Or.inr ⟨(h.good hb).1.1,(h.good hb).2.2⟩
theorem zkz (T:Int)(ws:List W3):(ws.map (toY T)).map YV.key=ws.map Prod.fst:=by simp[toY,Function.comp_def]
theorem z1e.keys {S:RS}{T i:Nat}{t:TS}{L:List YV}(h:z1e S T i t L)(hb:t.bad=false):L.map YV.key=(S.writes i).1.map Prod.fst:=by
 rw[(h.good hb).2.1,zkz]
theorem z2p {l:List ByteArray}{k:ByteArray}(h:l.Pairwise blt)(hk:∀x,l.getLast?=some x→blt x k):(l++[k]).Pairwise blt:=by
 rw[List.pairwise_append]
 refine⟨h,List.pairwise_singleton _ _,λa ha b hb=>?_⟩
 rw[List.mem_singleton]at hb
 subst hb
 have hne:l≠[]:=λe=>by rw[e]at ha;cases ha
 obtain⟨l',z,rfl⟩:∃l' z,l=l'++[z]:=⟨_,_,(List.dropLast_concat_getLast hne).symm⟩
 have hz:=hk z (by simp)
 rw[List.pairwise_append]at h
 rcases List.mem_append.1 ha with h1|h1
 ·exact zxg (h.2.2 a h1 z (by simp)) hz
 ·rw[List.mem_singleton]at h1;rw[h1];exact hz
theorem z1e.step {S:RS}{T i:Nat}{t:TS}{L:List YV}(h:z1e S T i t L)(hb:t.bad=false)(hk:∀x,(L.map YV.key).getLast?=some x→blt x t.text.1) :
  z1e S T (i+1) (t.text.2.ver t.text.1).2 (L++[⟨t.text.1,T,(t.text.2.ver t.text.1).1.2,(t.text.2.ver t.text.1).1.1⟩]):=by
 obtain⟨a,b⟩:=(h.sim hb).write
 refine⟨by simp[h.len],λe=>?_,λe hg=>?_⟩
 ·obtain⟨e1,e2⟩:=b e
  have hw:(S.writes (i+1)).2.wr=false:=a.bad_iff.symm.trans e
  have hL:=(h.good hb).2.1
  refine⟨⟨hw,?_⟩,?_,?_⟩
  ·show (((S.writes i).1++[((S.writes i).2.key.1,(S.writes i).2.key.2.ver.1)]).map Prod.fst).Pairwise blt
   rw[List.map_append,← h.keys hb]
   simp only[List.map_cons,List.map_nil]
   rw[e1]
   exact z2p (by rw[h.keys hb];exact (h.good hb).1.2) hk
  ·show _=((S.writes i).1++[((S.writes i).2.key.1,(S.writes i).2.key.2.ver.1)]).map (toY T)
   rw[List.map_append,← hL,e1,e2]
   rfl
  ·rcases a with ⟨h1,_⟩|⟨_,h2⟩
   ·rw[e]at h1;cases h1
   ·exact h2
 ·have hw:=hg.1
  have:(S.writes (i+1)).2.wr=true:=a.bad_iff.symm.trans e
  rw[this]at hw;cases hw
theorem z1e.off {S:RS}{T i:Nat}{t:TS}{L:List YV}(h:z1e S T i t L)(hb:t.bad=false)(x:ByteArray)(hx:(L.map YV.key).getLast?=some x)(hk:¬blt x t.text.1) :
  z1e S T (i+1) (t.text.2.ver t.text.1).2.wrong (L++[⟨t.text.1,T,(t.text.2.ver t.text.1).1.2,(t.text.2.ver t.text.1).1.1⟩]):=by
 obtain⟨a,b⟩:=(h.sim hb).write
 refine⟨by simp[h.len],(λe=>by cases e),λ_ hg=>?_⟩
 have hw:(S.writes (i+1)).2.wr=false:=hg.1
 have e:(t.text.2.ver t.text.1).2.bad=false:=by rw[a.bad_iff];exact hw
 obtain⟨e1,e2⟩:=b e
 have hp:(((S.writes i).1++[((S.writes i).2.key.1,(S.writes i).2.key.2.ver.1)]).map Prod.fst).Pairwise blt:=hg.2
 rw[List.map_append,List.pairwise_append,← h.keys hb]at hp
 simp only[List.map_cons,List.map_nil]at hp
 rw[e1]at hp
 exact hk (hp.2.2 x (List.mem_of_getLast? hx) _ (by simp))
theorem ze0 (body:List UInt8)(hk:(TS.new body).one.1=67)(i:Nat)(t:TS)(L:List YV)(hi:i≤(TS.new body).one.2.four.2.one.1)(he:i=(TS.new body).one.2.four.2.one.1∨t.bad=true)
  (hL:z1e (zw body).2.2.one.2 (TS.new body).one.2.four.1 i t L) (hB:t.B=body) (ok:Bool)
  (h1:ok=true→(1≤(TS.new body).one.2.four.2.one.1∧(TS.new body).one.2.four.2.one.1≤10)∧(1≤(TS.new body).one.2.four.1∧(TS.new body).one.2.four.1≤2000)∧t.bad=false∧t.at_=body.length)
  (h2:ok=false→¬((1≤(TS.new body).one.2.four.2.one.1∧(TS.new body).one.2.four.2.one.1≤10)∧(1≤(TS.new body).one.2.four.1∧(TS.new body).one.2.four.1≤2000)∧t.bad=false∧t.at_=body.length)) :
  zoj body false (TS.new body).one.2.four.1 L ok:=by
 obtain⟨hs,hv⟩:=z3k body
 obtain⟨hs1,hv1⟩:=hs.one
 have hw0:∀n,zqg (zw body).2.2.one.2 n→(zw body).2.2.one.2.wr=false:=λn hg=>(zqg.mono (Nat.zero_le n) hg).1
 have num:(zw body).2.2.one.2.wr=false→(zw body).2.2.one.1=(TS.new body).one.2.four.2.one.1∧(zw body).1=67∧(zw body).2.1=(TS.new body).one.2.four.1:=λhw=>by
  have e0:(TS.new body).one.2.four.2.one.2.bad=false:=by rw[hs1.bad_iff];exact hw
  have e1:=hv1 e0
  obtain⟨e2,e3⟩:=hv (TS.one_ok e0)
  exact⟨e1,by omega,e3⟩
 refine⟨λe=>?_,λe k tt ws hr=>?_⟩
 ·obtain⟨a1,a2,a3,a4⟩:=h1 e
  obtain⟨g1,g2,g3⟩:=hL.good a3
  obtain⟨n1,n2,n3⟩:=num (hw0 _ g1)
  have hi':i=(TS.new body).one.2.four.2.one.1:=he.elim (λe=>e) (λe=>by rw[a3]at e;cases e)
  have ew:zdh body=(zw body).2.2.one.2.writes i:=by unfold zdh;rw[n1,← hi']
  refine⟨67,(zdh body).1,Or.inr ⟨rfl,n2,n3.symm,rfl,?_,?_,?_,?_⟩,rfl,?_,λ_=>a2⟩
  ·rw[ew]
   unfold RS.done
   rw[g1.1]
   have:=g3.at_end.1 (by rw[hB];exact a4)
   simp[this]
  ·rw[ew];exact g1.2
  ·rw[z3f];omega
  ·rw[z3f];omega
  ·rw[ew];exact g2
 ·rcases hr with ⟨a1,a2,_⟩|⟨a1,a2,a3,a4,a5,a6,a7,a8⟩
  ·have hw:=(z4d.wr (Or.inl ⟨a1,a2,by assumption⟩)).1
   have e0:(TS.new body).one.2.four.2.bad=false:=by rw[hs.bad_iff];exact hw
   have:=(hv e0).1
   omega
  ·refine⟨a1,λhT=>?_⟩
   obtain⟨d1,d2⟩:=z2h a5
   have hgood:zqg (zw body).2.2.one.2 (zw body).2.2.one.1:=⟨d1,by rw[a4]at a6;exact a6⟩
   obtain⟨n1,n2,n3⟩:=num (hw0 _ hgood)
   rw[n1]at hgood
   have hb:t.bad=false:=by
    cases hb:t.bad with
    |false=>rfl
    |true=>exact absurd (hgood.mono hi) (hL.no hb)
   have hi':i=(TS.new body).one.2.four.2.one.1:=he.elim (λe=>e) (λe=>by rw[hb]at e;cases e)
   have hl:ws.length=(TS.new body).one.2.four.2.one.1:=by rw[a4,z3f,n1]
   refine h2 e ⟨by omega,by omega,hb,?_⟩
   rw[← hB]
   refine (hL.good hb).2.2.at_end.2 ?_
   rw[hi',← n1]
   exact d2
end
end Go.Proofs.YthbdpfccfcceiaaGreatDoor
