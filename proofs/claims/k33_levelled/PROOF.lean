import PyProof.Rows.All
import Wide.All
import OpenK.AllK
import Wide.FinOn
import Lean
import PyProof.EqAt
import PyProof.EqKinds
import PyProof.TupleCall
import PyProof.NeKinds
import PySem.Challenge.RW_hall_k33_levelled
set_option Elab.async false
set_option linter.all false
set_option maxRecDepth 100000
set_option maxHeartbeats 4000000
abbrev bJ:=PySem.Value ->PySem.Shared ->Prop
abbrev bC:=List (PySem.Addr×PySem.Obj)
section
open PySem PySem.Spec PyProof.Rows
abbrev z6:=@wpAny_bind
abbrev z7:=@wpAny_pure
abbrev z8:=@Heap.get?_push_of_some
abbrev z9:=@Heap.get?_push_size
abbrev zZ:=@List.getElem?_eq_getElem
abbrev zY:=@List.mem_cons_self
abbrev zX:=@List.mem_cons_of_mem
abbrev zW:=@List.getElem?_eq_some_iff
abbrev zV:=@List.mem_cons
abbrev zU:=@List.mem_append
abbrev zT:=@List.mem_singleton
abbrev zR:=@List.mem_append_right
abbrev zQ:=@List.mem_append_left
abbrev zP:=@Nat.le_trans
abbrev zO:=@Nat.le_refl
abbrev zN:=@Nat.lt_of_lt_of_le
abbrev zM:=@Nat.lt_of_le_of_lt
abbrev zL:=@Nat.ne_of_lt
abbrev zK:=@Bool.false_ne_true
abbrev zJ:=@Heap.lt_size
abbrev zH:=@Option.some.inj
abbrev zG:=@List.mem_map
abbrev zF:=@List.mem_filter
abbrev zE:=@Heap.get?_push_ne
abbrev zB:=@List.mem_of_getElem?
abbrev zA:=@List.getElem_mem
abbrev yZ:=@Nat.lt_irrefl
end
namespace L2
open PySem PySem.Spec PyProof.Rows
abbrev Key:=Sum Int Str
def mG:Key ->Value ->Bool
 | .inl k,v=>Value.isInt k v
 | .inr x,v=>Value.isStrOf x v
def LR(w:World):Key ->Int
 | .inl k=>hashInt k
 | .inr x=>hashStr w x
theorem rO:∀{k:Key} {v:Value},mG k v=true ->(∃i t,k=Sum.inl i/\v=Value.int i t)\/ (∃x t,k=Sum.inr x/\v=Value.str x t)
 | .inl i,v,h=>by
  obtain⟨t,e⟩:=Value.isInt_shape (k:=i) (v:=v) h;exact .inl ⟨i,t,rfl,e⟩
 | .inr x,v,h=>by
  obtain⟨t,e⟩:=Value.isStrOf_shape (x:=x) (v:=v) h;exact .inr ⟨x,t,rfl,e⟩
theorem zue(i:Int)(t:Tok):mG (.inl i) (.int i t)=true:=by simp [mG,Value.isInt]
theorem zws(x:Str)(t:Tok):mG (.inr x) (.str x t)=true:=by simp [mG,Value.isStrOf]
theorem z4n(a b:Int):decide ((Sum.inl a:Key)=Sum.inl b)=(a==b):=by
 by_cases e:a=b
 ·subst e;simp
 ·have h:¬(Sum.inl a:Key)=Sum.inl b:=fun q=>e (Sum.inl.inj q);rw[decide_eq_false h];exact(beq_eq_false_iff_ne.mpr e).symm
theorem z4o(a b:Str):decide ((Sum.inr a:Key)=Sum.inr b)=decide (a=b):=by
 by_cases e:a=b
 ·subst e;simp
 ·have h:¬(Sum.inr a:Key)=Sum.inr b:=fun q=>e (Sum.inr.inj q);rw[decide_eq_false h,decide_eq_false e]
theorem z5m(a:Int)(b:Str):decide ((Sum.inl a:Key)=Sum.inr b)=false:=decide_eq_false (fun q=>nomatch q)
theorem z4b(a:Str)(b:Int):decide ((Sum.inr a:Key)=Sum.inl b)=false:=decide_eq_false (fun q=>nomatch q)
def jq(prog:Program)(w:World):PySem.KeyKind prog w Key where
 is:=mG
 hash:=LR w
 inj:=fun v a b ha hb=>by
  rcases rO ha with ⟨i,t,rfl,rfl⟩ | ⟨x,t,rfl,rfl⟩
  ·rcases rO hb with ⟨j,u,rfl,e⟩ | ⟨y,u,rfl,e⟩
   ·injection e with e1 _;rw[e1]
   ·exact nomatch e
  ·rcases rO hb with ⟨j,u,rfl,e⟩ | ⟨y,u,rfl,e⟩
   ·exact nomatch e
   ·injection e with e1 _;rw[e1]
 byValue:=fun k v h=>by
  rcases rO h with ⟨i,t,rfl,rfl⟩ | ⟨x,t,rfl,rfl⟩<;>rfl
 pyHash:=fun hv h=>by
  rcases rO hv with ⟨i,t,rfl,rfl⟩ | ⟨x,t,rfl,rfl⟩
  ·exact wpAny_pyHash_int h
  ·exact wpAny_pyHash_str h
 eqBool:=fun hu hv h=>by
  rcases rO hu with ⟨i,t,rfl,rfl⟩ | ⟨x,t,rfl,rfl⟩
  ·rcases rO hv with ⟨j,u,rfl,rfl⟩ | ⟨y,u,rfl,rfl⟩
   ·rw[z4n] at h;exact wpAny_eqBool_int h
   ·rw[z5m] at h;exact SeqAt.EqAt.int_str i t y u _ _ _ _ h
  ·rcases rO hv with ⟨j,u,rfl,rfl⟩ | ⟨y,u,rfl,rfl⟩
   ·rw[z4b] at h;exact SeqAt.EqAt.str_int x t j u _ _ _ _ h
   ·rw[z4o] at h;exact wpAny_eqBool_str h
 «strs»:=fun k x t v h=>by
  rcases rO h with ⟨i,u,rfl,e⟩ | ⟨y,u,rfl,e⟩
  ·exact nomatch e
  ·injection e with e1 _;subst e1;cases v<;>rfl
theorem zpq(prog:Program)(w:World)(i:Int)(t:Tok):(jq prog w).is (.inl i) (.int i t)=true:=zue i t
theorem Vt(prog:Program)(w:World)(x:Str)(t:Tok):(jq prog w).is (.inr x) (.str x t)=true:=zws x t
inductive V where
 | non | bl (b:Bool) | int (i:Int) | str (x:Str) | xQ (b:Array UInt8) | flt (b:UInt64) | ref (a:Addr) | ty (n:String)
 deriving DecidableEq
def RelV:V ->Value ->Prop
 | .non,u=>u=Value.none
 | .bl b,u=>u=Value.bool b
 | .int i,u=>∃t,u=Value.int i t
 | .str x,u=>∃t,u=Value.str x t
 | .xQ b,u=>∃t,u=Value.bytes b t
 | .flt b,u=>∃t,u=Value.float b t
 | .ref a,u=>u=Value.ref a
 | .ty n,u=>u=Value.type n
abbrev Vals:List V ->List Value ->Prop:=Paired RelV
theorem Vals.length{xs:List V}{us:List Value}(r:Vals xs us):xs.length=us.length:=Paired.length r
theorem Vals.get:∀{xs:List V} {us:List Value} {i:Nat} {x:V},Vals xs us ->xs[i]?=some x ->∃u,us[i]?=some u/\RelV x u
 | _,_,_,_,.nil,e=>by simp at e
 | _,_,0,_,.cons r _,e=>by simp at e;subst e;exact⟨_,rfl,r⟩
 | _,_,i+1,x,.cons _ t,e=>by
  obtain⟨u,h1,h2⟩:=Vals.get (i:=i) (x:=x) t (by simpa using e)
  exact⟨u,by simpa using h1,h2⟩
theorem Vals.set{x:V}{u:Value}(r:RelV x u):∀{xs:List V} {us:List Value} (i:Nat),Vals xs us ->Vals (xs.set i x) (us.set i u)
 | _,_,_,.nil=> .nil
 | _,_,0,.cons _ t=> .cons r t
 | _,_,i+1,.cons q t=> .cons q (Vals.set r i t)
theorem Vals.append:∀{xs ys:List V} {us ws:List Value},Vals xs us ->Vals ys ws ->Vals (xs++ys) (us++ws)
 | _,_,_,_,.nil,s=>s
 | _,_,_,_,.cons r t,s=> .cons r (Vals.append t s)
theorem Vals.take:∀{xs:List V} {us:List Value} (n:Nat),Vals xs us ->Vals (xs.take n) (us.take n)
 | _,_,0,_=> .nil
 | _,_,_+1,.nil=> .nil
 | _,_,n+1,.cons r t=> .cons r (Vals.take n t)
theorem Vals.drop:∀{xs:List V} {us:List Value} (n:Nat),Vals xs us ->Vals (xs.drop n) (us.drop n)
 | _,_,0,r=>r
 | _,_,_+1,.nil=> .nil
 | _,_,n+1,.cons _ t=>Vals.drop n t
def jZ:Option V ->Option Value ->Prop
 | some v,some u=>RelV v u
 | none,none=>True
 | _,_=>False
def KV{κ:Type}:List (κ×V) ->List (κ×Value) ->Prop:=Paired fun(p:κ×V) (q:κ×Value)=>p.1=q.1/\RelV p.2 q.2
def kV:Key ->V
 | .inl i=> .int i
 | .inr x=> .str x
inductive HO where
 | lst (xs:List V)
 | tup (xs:List V)
 | dK (kvs:List (Key×V)) | dT (kvs:List (List Key×V))
 | set (S:Int ->Bool) (n:Nat)
 | ins (C dx:Addr) (fs:List (Str×V))
 | own (x:Addr)
 | xd (fs:List (Str×V))
 | met (f x:Addr)
 | rng (lo hi:Int)
 | frz (o:Obj) (u:HO)
 | v9 (ps:Array Value)
 | ext (φ:Heap ->Prop)
abbrev Hp:=Addr ->Option HO
def upd(H:Hp)(a:Addr)(o:HO):Hp:=fun b=>if b=a then some o else H b
theorem lW{H:Hp}{a:Addr}{o:HO}:upd H a o a=some o:=by unfold upd;rw[if_pos rfl]
theorem c7{H:Hp}{a b:Addr}{o:HO}(h:b≠a):upd H a o b=H b:=by unfold upd;rw[if_neg h]
theorem z6t{H:Hp}{a b:Addr}{o u:HO}(h:H a=some o)(h' :H b=some u)(d:o≠u):a≠b:=by
 intro e;subst e;rw[h] at h';exact d (zH h')
theorem lU{H:Hp}{a b:Addr}{o:HO}(h:H a=some o)(h' :H b=none):a≠b:=by
 intro e;subst e;rw[h] at h';cases h'
section
variable(P:Program)(w:World)
def aU(H:Hp)(h:Heap)(a:Addr):HO ->Prop
 | .lst xs=>xs.length<=sizeLine/\∃(its:List Value) (n:Nat),Vals xs its/\h.get? a=some {cls:= .type "list",data:= .seq its.toArray n}
 | .tup xs=>xs.length<=sizeLine/\∃its:List Value,Vals xs its/\IsTup h a its.toArray
 | .dK kvs=>kvs.length<=sizeLine/\ (a==sysModules)=false/\∃vs,KV kvs vs/\h.DictOf (jq P w) a vs
 | .dT kvs=>kvs.length<=sizeLine/\ (a==sysModules)=false/\∃xs:List (List Key×Addr×Value),
   Paired (fun(p:List Key×V) (q:List Key×Addr×Value)=>p.1=q.1/\H q.2.1=some (.tup (p.1.map kV))/\RelV p.2 q.2.2) kvs xs/\
   ∃o es ep,h.get? a=some o/\o.ExactDict/\o.data= .dict es ep/\es.toList=xs.map (entryOfKey (tupleKind (jq P w)))/\ (xs.map (·.1)).Nodup
 | .set S n=>h.SetOf (intKind P w) a S n
 | .ins C dx fs=>H dx=some (.own a)/\fs.length<=1000/\dx≠a/\h.get? a=some (W.instObj C dx)/\
   ∃mA,h.Ns1 dx mA/\ (∀f,jZ (fs.lookup f) (mA f))/\PySem.Within mA (fs.map (·.1))
 | .own _=>∃o,h.get? a=some o
 | .xd fs=>∃mA,h.Ns1 a mA/\∀f,jZ (fs.lookup f) (mA f)
 | .rng lo hi=>∃t u v,h.get? a=some {cls:= .type "range",data:= .fields #[.int lo t,.int hi u,.int 1 v]}
 | .frz o u=>h.get? a=some o/\aU H h a u
 | .v9 ps=>h.get? a=some {cls:= .none,data:= .fields ps}
 | .met f x=>h.get? a=some (W.methodObj (.ref f) (.ref x))
 | .ext φ=>φ h/\ (∃o,h.get? a=some o)/\∀h1 h2:Heap,φ h1 ->(∀o,h1.get? a=some o ->h2.get? a=some o) ->φ h2
def gO(H:Hp)(h:Heap):Prop:=∀a o,H a=some o ->aU P w H h a o
end
section
variable{P:Program}{w:World}{H H' :Hp}{h h' :Heap}{a:Addr}{o:HO}
theorem aU.lt(x:aU P w H h a o):a<h.objs.size:=by
 cases o with
 | lst xs=>obtain⟨_,_,_,_,e⟩:=x;exact zJ e
 | tup xs=>obtain⟨_,_,_,p⟩:=x;exact p.lt
 | dK kvs=>obtain⟨_,_,_,_,o,_,_,e,_⟩:=x;exact zJ e
 | dT kvs=>obtain⟨_,_,_,_,o,_,_,e,_⟩:=x;exact zJ e
 | set S n=>obtain⟨o,_,_,_,e,_⟩:=x;exact zJ e
 | ins C dx fs=>obtain⟨_,_,_,e,_⟩:=x;exact zJ e
 | own y=>obtain⟨_,e⟩:=x;exact zJ e
 | xd fs=>obtain⟨_,⟨_,_,_,e,_⟩,_⟩:=x;exact zJ e
 | rng lo hi=>obtain⟨_,_,_,e⟩:=x;exact zJ e
 | frz ob u=>obtain⟨e,_⟩:=x;exact zJ e
 | v9 ps=>exact zJ (show h.get? a=some _ from x)
 | met f y=>exact zJ (show h.get? a=some _ from x)
 | ext φ=>obtain⟨_,⟨_,e⟩,_⟩:=x;exact zJ e
theorem Paired.mapP{α β:Type}{F G:α ->β ->Prop}:∀{l₁:List α} {l₂:List β},Paired F l₁ l₂ ->(∀a b,F a b ->G a b) ->Paired G l₁ l₂
 | _,_,.nil,_=> .nil
 | _,_,.cons r t,f=> .cons (f _ _ r) (Paired.mapP t f)
theorem aU.stay(x:aU P w H h a o)(k:∀b u,(b=a\/H b=some (.own a)) ->h.get? b=some u ->h'.get? b=some u)
  (ho:∀b,H b=some (.own a) ->H' b=some (.own a)) (ht:∀b xs,H b=some (.tup xs) ->H' b=some (.tup xs)):aU P w H' h' a o:=by
 induction o with
 | lst xs=>obtain⟨z,its,n,r,e⟩:=x;exact⟨z,its,n,r,k _ _ (.inl rfl) e⟩
 | tup xs=>obtain⟨z,its,r,ob,e,c⟩:=x;exact⟨z,its,r,ob,k _ _ (.inl rfl) e,c⟩
 | dK kvs=>obtain⟨z,y,vs,r,ob,es,ep,e,c⟩:=x;exact⟨z,y,vs,r,ob,es,ep,k _ _ (.inl rfl) e,c⟩
 | dT kvs=>
  obtain⟨z,y,xs,r,ob,es,ep,e,c⟩:=x;exact⟨z,y,xs,Paired.mapP r fun p q z=>⟨z.1,ht _ _ z.2.1,z.2.2⟩,ob,es,ep,k _ _ (.inl rfl) e,c⟩
 | set S n=>obtain⟨ob,es,ep,t,e,c⟩:=x;exact⟨ob,es,ep,t,k _ _ (.inl rfl) e,c⟩
 | ins C dx fs=>
  obtain⟨d,z,ne,e,mA,⟨od,es,ep,e2,c⟩,r⟩:=x;exact⟨ho _ d,z,ne,k _ _ (.inl rfl) e,mA,⟨od,es,ep,k _ _ (.inr d) e2,c⟩,r⟩
 | own y=>obtain⟨ob,e⟩:=x;exact⟨ob,k _ _ (.inl rfl) e⟩
 | xd fs=>obtain⟨mA,⟨od,es,ep,e,c⟩,r⟩:=x;exact⟨mA,⟨od,es,ep,k _ _ (.inl rfl) e,c⟩,r⟩
 | rng lo hi=>obtain⟨t,u,v,e⟩:=x;exact⟨t,u,v,k _ _ (.inl rfl) e⟩
 | frz ob u ih=>obtain⟨e,q⟩:=x;exact⟨k _ _ (.inl rfl) e,ih q⟩
 | v9 ps=>
  have e:h.get? a=some {cls:= .none,data:= .fields ps}:=x;show h'.get? a=some {cls:= .none,data:= .fields ps};exact k a _ (.inl rfl) e
 | met f y=>
  have e:h.get? a=some (W.methodObj (.ref f) (.ref y)):=x;show h'.get? a=some (W.methodObj (.ref f) (.ref y));exact k a _ (.inl rfl) e
 | ext φ=>obtain⟨p,⟨o,e⟩,st⟩:=x;exact⟨st _ _ p fun o q=>k _ _ (.inl rfl) q,⟨o,k _ _ (.inl rfl) e⟩,st⟩
theorem gO.lt(x:gO P w H h)(e:H a=some o):a<h.objs.size:=(x a o e).lt
theorem gO.fresh(x:gO P w H h)(e:h.objs.size<=a):H a=none:=by
 cases q:H a with
 | none=>rfl
 | some u=>exact absurd (zN (x.lt q) e) (yZ _)
theorem gO.kept(x:gO P w H h)(k:∀b u,h.get? b=some u ->h'.get? b=some u):gO P w H h' :=fun a o e=>
 (x a o e).stay (fun b u _ q=>k b u q) (fun _ q=>q) fun _ _ q=>q
theorem gO.laid(x:gO P w H h)(k:∀b u,h.get? b=some u ->h'.get? b=some u)(hp:h.objs.size<=a)(new:aU P w (upd H a o) h' a o):gO P w (upd H a o) h' :=fun b u e=>by
 have hn:=x.fresh hp;by_cases hb:b=a
 ·subst hb;rw[lW] at e;cases e;exact new
 ·rw[c7 hb] at e;exact(x b u e).stay (fun c v _ q=>k c v q) (fun c q=>by rw[c7 (lU q hn)];exact q) fun c xs q=>by rw[c7 (lU q hn)];exact q
end
def Rd(H:Hp)(a:Addr)(u:HO):Prop:=H a=some u\/∃o,H a=some (.frz o u)
theorem Rd.ok{P:Program}{w:World}{H:Hp}{h:Heap}{a:Addr}{u:HO}(r:Rd H a u)(x:gO P w H h):aU P w H h a u:=by
 rcases r with r | ⟨o,r⟩
 ·exact x a u r
 ·obtain⟨_,q⟩:=x a _ r;exact q
def CW:Option HO ->Prop
 | some (.lst _)=>True
 | some (.dK _)=>True
 | some (.dT _)=>True
 | some (.set _ _)=>True
 | some (.ins _ _ _)=>True
 | some (.ext _)=>True
 | _=>False
section
variable{P:Program}{w:World}{H:Hp}{h h' :Heap}{x e:Addr}{o' :HO}
theorem gO.write(ok:gO P w H h)(mu:CW (H x))(he:e=x\/H e=some (.own x))(k:∀b u,b≠e ->h.get? b=some u ->h'.get? b=some u)(heo:∃u,h'.get? e=some u)
  (new:aU P w (upd H x o') h' x o'):gO P w (upd H x o') h' :=fun b u q=>by
 have CZ:∀c y,H c=some (.own y) ->c≠x:=fun c y r z=>by subst z;rw[r] at mu;exact mu
 have Ma:∀c xs,H c=some (.tup xs) ->c≠x:=fun c xs r z=>by subst z;rw[r] at mu;exact mu
 by_cases hb:b=x
 ·subst hb;rw[lW] at q;cases q;exact new
 ·rw[c7 hb] at q;by_cases hbe:b=e
  ·have q' :H b=some (.own x):=by
    rcases he with z | z
    ·exact absurd (hbe.trans z) hb
    ·rw[hbe];exact z
   rw[q] at q';cases q';obtain⟨v,hv⟩:=heo;exact⟨v,by rw[hbe];exact hv⟩
  ·refine(ok b u q).stay (fun c v hc r=>k c v ?_ r) (fun c r=>by rw[c7 (CZ c b r)];exact r) fun c xs r=>by rw[c7 (Ma c xs r)];exact r
   rcases hc with rfl | hc
   ·exact hbe
   ·rintro rfl;rcases he with z | z
    ·exact CZ c b hc z
    ·rw[hc] at z;cases z;exact hb rfl
end
structure Un (fs ex:List Addr) (H H' :Hp) (h h' :Heap):Prop where
 keep:∀b o,h.get? b=some o ->H b=none ->b∉fs ->b∉ex ->h'.get? b=some o
 slot:∀b o,h.get? b=some o ->H b=none ->b∈fs ->b∉ex ->∃sl,h'.get? b=some {o with slots:=sl}
 free:∀b o,h.get? b=some o ->H b=none ->b∉ex ->H' b=none
 there:∀b o,h.get? b=some o ->b∉ex ->∃o',h'.get? b=some o'
 tups:∀b xs,H b=some (.tup xs) ->H' b=some (.tup xs)
 lX:∀b o u,H b=some (.frz o u) ->H' b=some (.frz o u)
 mZ:∀b ps,H b=some (.v9 ps) ->∃more,H' b=some (.v9 (ps++more))
section
variable{fs fs' ex ex' :List Addr}{H H1 H2:Hp}{h h1 h2 h' :Heap}{a x e:Addr}{o:HO}
theorem Un.any(u:Un fs ex H H1 h h1){b:Addr}{ob:Obj}(q:h.get? b=some ob)(n:H b=none)(hx:b∉ex):∃sl,h1.get? b=some {ob with slots:=sl}:=by
 by_cases hb:b∈fs
 ·exact u.slot b ob q n hb hx
 ·exact⟨ob.slots,u.keep b ob q n hb hx⟩
theorem Un.kept(k:∀b u,h.get? b=some u ->h'.get? b=some u):Un fs ex H H h h' :=
 ⟨fun b ob q _ _ _=>k b ob q,fun b ob q _ _ _=>⟨ob.slots,k b ob q⟩,fun _ _ _ n _=>n,fun b ob q _=>⟨ob,k b ob q⟩,fun _ _ q=>q,fun _ _ _ q=>q,fun _ ps q=>⟨#[],by rw[q];simp⟩⟩
theorem Un.refl:Un fs ex H H h h:=Un.kept fun _ _ q=>q
theorem Un.laid(k:∀b u,h.get? b=some u ->h'.get? b=some u)(hp:h.objs.size<=a)(hn:H a=none):Un fs ex H (upd H a o) h h' where
 keep:=fun b u q _ _ _=>k b u q
 slot:=fun b u q _ _ _=>⟨u.slots,k b u q⟩
 free:=fun b u q n _=>by rw[c7 (Nat.ne_of_lt (Nat.lt_of_lt_of_le (Heap.lt_size q) hp))];exact n
 there:=fun b u q _=>⟨u,k b u q⟩
 tups:=fun b xs q=>by rw[c7 (lU q hn)];exact q
 lX:=fun b u xs q=>by rw[c7 (lU q hn)];exact q
 mZ:=fun b ps q=>⟨#[],by rw[c7 (lU q hn),q];simp⟩
theorem Un.write(mu:CW (H x))(he:e=x\/H e=some (.own x))(k:∀b u,b≠e ->h.get? b=some u ->h'.get? b=some u)(heo:∃u,h'.get? e=some u):Un fs ex H (upd H x o) h h' :=by
 have hx:∀b,H b=none ->b≠x:=fun b n z=>by subst z;rw[n] at mu;exact mu
 have hb:∀b,H b=none ->b≠e:=fun b n z=>by
  subst z;rcases he with r | r
  ·exact hx b n r
  ·rw[n] at r;cases r
 have hm:∀b u,H b=some u ->¬CW (some u) ->b≠x:=fun b u q nm z=>by subst z;rw[q] at mu;exact nm mu
 refine⟨fun b u q n _ _=>k b u (hb b n) q,fun b u q n _ _=>⟨u.slots,k b u (hb b n) q⟩,fun b u q n _=>by rw[c7 (hx b n)];exact n,fun b u q _=> ?_,
  fun b xs q=>by rw[c7 (hm b _ q fun z=>z)];exact q,fun b u xs q=>by rw[c7 (hm b _ q fun z=>z)];exact q,fun b ps q=>⟨#[],by rw[c7 (hm b _ q fun z=>z),q];simp⟩⟩
 by_cases hbe:b=e
 ·subst hbe;exact heo
 ·exact⟨u,k b u hbe q⟩
end
def uO(h:Heap)(H:Hp):List Addr:=(List.range h.objs.size).filter fun a=>(H a).isSome
def m5(h:Heap)(H:Hp):Heap:=W.hideAll h (uO h H)
theorem zv6(h:Heap)(H:Hp):(m5 h H).objs.size=h.objs.size:=W.hideAll_size _ _
theorem zx6{h:Heap}{H:Hp}{b:Addr}{o:Obj}(e:h.get? b=some o)(n:H b=none):(m5 h H).get? b=some o:=
 W.hideAll_get _ e fun hm=>by
  have q:(H b).isSome=true:=(zF.mp hm).2;rw[n] at q;simp at q
theorem z2i{h:Heap}{H:Hp}{b:Addr}{o:Obj}(e:(m5 h H).get? b=some o):h.get? b=some o/\H b=none:=by
 have e' :h.get? b=some o:=W.of_hideAll (uO h H) e;refine⟨e',?_⟩;cases q:H b with
 | none=>rfl
 | some x=>
  have hm:b∈uO h H:=zF.mpr ⟨List.mem_range.mpr (zJ e'),by simp [q]⟩
  have z:(m5 h H).get? b=none:=W.hideAll_none (uO h H) hm;rw[z] at e;cases e
def z14(g h:Heap)(L:Addr):bC:=(List.range h.objs.size).filterMap fun a=>if a=L\/ (g.get? a).isSome=true then none else(h.get? a).map fun o=>(a,o)
def rest(g h:Heap)(L d:Addr):bC:=(z14 g h L).filter fun p=>decide (p.1≠d)
structure Mod (K:W.Frag) (mg:Str ->Option Value) (base:Heap):Prop where
 Dc:K.In base
 glob:base.Ns mainGlobals mg
 blt:∃mb,base.Ns builtinsNs mb/\∀x:Str,x≠ "__name__" ->mb x=bootBuiltins x
 nolimit:base.NoLimit
structure Cx where
 prog:Program
 w:World
 K:W.Frag
 mg:Str ->Option Value
 base:Heap
 A:Around
 N:List Str
 s₀:Shared
 H₀:Hp
 env:Env
 outer:List Env
 stack:List Env
 ex:List Addr
 fn:Str ->Bool
 calm:Bool
 pn:bC
 xe:bJ
def frs(l:List Env):List Addr:=l.filterMap (·.frame)
abbrev Cx.fs(X:Cx):List Addr:=frs X.outer
def pF(sc:Scope)(x:Str):Prop:=sc.names.lookup x=some .local\/sc.names.lookup x=some .cell\/sc.names.lookup x=some .free
def Loc(sc:Scope)(x:Str):Prop:=sc.names.lookup x=some .local\/sc.names.lookup x=some .cell
def Look(env:Env)(h:Heap)(m:Str ->Option Value)(x:Str)(u:Value):Prop:=
 (env.kindOf x=some .local/\m x=some u)\/ ((env.kindOf x=some .cell\/env.kindOf x=some .free)/\∃c,env.cells.lookup x=some c/\h.IsCell c (some u))
structure Cx.Ok (X:Cx):Prop where
 mod:Mod X.K X.mg X.base
 kind:X.env.scope.kind= .function
 glob:X.env.globals=mainGlobals
 blt:X.env.builtins=builtinsNs
 above:X.s₀.heap.objs.size<=X.env.locals
 inj:∀x y c,X.env.cells.lookup x=some c ->X.env.cells.lookup y=some c ->x=y
 has:∀x,(X.env.kindOf x=some .cell\/X.env.kindOf x=some .free) ->∃c,X.env.cells.lookup x=some c
 cab:∀x c,X.fn x=true ->X.env.cells.lookup x=some c ->X.s₀.heap.objs.size<=c
 hd:X.calm=true ->X.A.handled=none
 frames:X.A.frames=some X.stack
 stk:X.stack=X.outer\/ (X.stack=X.env::X.outer/\X.env.frame=some X.env.locals)
 Vu:∀b∈X.ex,b≠X.env.locals/\∀x c,X.env.cells.lookup x=some c ->c≠b
 bs:∀b o,X.base.get? b=some o ->X.s₀.heap.get? b=some o/\X.H₀ b=none
 Ar:X.base.objs.size<=X.s₀.heap.objs.size
 xR:∀b o,X.base.get? b=some o ->b∉X.ex
 xU:∀b∈X.ex,b∉X.fs
 funs:X.s₀.heap.FunFrames X.base X.outer
 Dd:∀b∈X.fs,X.H₀ b=none
structure Inv (X:Cx) (pins:bC) (σ:List (Option V)) (H:Hp) (s:Shared):Prop where
 ok:X.Ok
 os:s.os=X.s₀.os
 bare:AllBare s.gens
 base:Un X.fs X.ex X.H₀ H X.s₀.heap s.heap
 loc:∃m,s.heap.Ns X.env.locals m/\∀(i:Nat) (x:Str) (v:V),X.N[i]?=some x ->σ[i]?=some (some v) ->pF X.env.scope x ->∃u,RelV v u/\Look X.env s.heap m x u
 cell:∀x c,X.env.cells.lookup x=some c ->∃v,s.heap.IsCell c v
 free:H X.env.locals=none
 freeC:∀x c,X.env.cells.lookup x=some c ->H c=none
 pin:∀p∈X.pn++pins,s.heap.get? p.1=some p.2/\H p.1=none/\p.1≠X.env.locals/\p.1∉X.fs/\∀v,p.2.data≠ .cell v
 hok:gO X.prog X.w H s.heap
 len:σ.length=X.N.length
section
variable{X:Cx}{pins:bC}{σ:List (Option V)}{H H' :Hp}{s:Shared}{h' :Heap}
theorem Cx.Ok.nofr(ok:X.Ok){b:Addr}{o:Obj}(e:X.base.get? b=some o):b∉X.fs:=fun hb=>by
 have:=(ok.funs.mem hb).1;rw[e] at this;cases this
theorem Inv.bs(I:Inv X pins σ H s):∀b o,X.base.get? b=some o ->s.heap.get? b=some o/\H b=none:=fun b o e=>
 ⟨I.base.keep b o (I.ok.bs b o e).1 (I.ok.bs b o e).2 (I.ok.nofr e) (I.ok.xR b o e),I.base.free b o (I.ok.bs b o e).1 (I.ok.bs b o e).2 (I.ok.xR b o e)⟩
theorem Inv.bk(I:Inv X pins σ H s):∀b o,X.base.get? b=some o ->s.heap.get? b=some o:=fun b o e=>(I.bs b o e).1
theorem Inv.mod(I:Inv X pins σ H s):Mod X.K X.mg X.base:=I.ok.mod
theorem Inv.kIn(I:Inv X pins σ H s):X.K.In s.heap:=I.ok.mod.Dc.keeps I.bk
theorem Inv.lt(I:Inv X pins σ H s):X.env.locals<s.heap.objs.size:=let ⟨_,hn,_⟩:=I.loc;hn.lt
theorem Inv.sz(I:Inv X pins σ H s):X.s₀.heap.objs.size<=s.heap.objs.size:=zP I.ok.above (Nat.le_of_lt I.lt)
theorem Inv.nofs(I:Inv X pins σ H s){a:Addr}(h:s.heap.objs.size<=a):a∉X.fs:=fun hb=>by
 obtain⟨_,o,ho,_⟩:=I.ok.funs.mem hb;exact absurd (zN (zJ ho) (zP I.sz h)) (yZ _)
theorem Inv.cne(I:Inv X pins σ H s):∀x c,X.env.cells.lookup x=some c ->c≠X.env.locals:=fun x c e z=>by
 obtain⟨v,o,ho,hd⟩:=I.cell x c e;obtain⟨m,⟨o',es,ep,ho',hd',_⟩,_⟩:=I.loc;rw[z,ho'] at ho;cases ho;rw[hd'] at hd;cases hd
theorem Inv.funs(I:Inv X pins σ H s):s.heap.FunFrames X.base X.outer:=by
 have all:∀(l:List Env),(∀b∈frs l,b∈X.fs) ->X.s₀.heap.FunFrames X.base l ->s.heap.FunFrames X.base l:=by
  intro l;induction l with
  | nil=>intro _ _;trivial
  | cons env r ih=>
   intro hs hl;obtain⟨hk,⟨L,o,hf,hn,ho,hd⟩,hr⟩:=hl;have hL:L∈X.fs:=hs L (by unfold frs;rw[List.filterMap_cons,hf];exact zY)
   obtain⟨sl,e⟩:=I.base.slot L o ho (I.ok.Dd L hL) hL fun z=>I.ok.xU L z hL;exact⟨hk,⟨L,_,hf,hn,e,hd⟩,ih (fun b hb=>hs b (by unfold frs;rw[List.filterMap_cons,hf];exact zX _ hb)) hr⟩
 exact all X.outer (fun _ hb=>hb) I.ok.funs
theorem Inv.stack(I:Inv X pins σ H s):s.heap.FunFrames X.base X.stack:=by
 rcases I.ok.stk with e | ⟨e,hf⟩
 ·rw[e];exact I.funs
 ·rw[e];obtain⟨m,hn,_⟩:=I.loc;refine .cons (by rw[I.ok.kind];decide) hf hn ?_ I.funs
  exact Heap.get?_none_of_le (zP I.ok.Ar I.ok.above)
theorem Inv.stkSub(I:Inv X pins σ H s):∀b∈frs X.stack,b∈X.env.locals::X.fs:=fun b hb=>by
 rcases I.ok.stk with e | ⟨e,hf⟩
 ·rw[e] at hb;exact zX _ hb
 ·rw[e] at hb;unfold frs at hb;rw[List.filterMap_cons,hf] at hb;exact hb
theorem Inv.stkFree(I:Inv X pins σ H s):∀b∈frs X.stack,H b=none:=fun b hb=>by
 rcases zV.mp (I.stkSub b hb) with e | hb
 ·rw[e];exact I.free
 ·obtain⟨_,o,ho,_⟩:=I.ok.funs.mem hb;exact I.base.free b o ho (I.ok.Dd b hb) fun z=>I.ok.xU b z hb
theorem Inv.step{g' :Array GenState}{t' :Nat}{d' :Drawn}{ch:List Addr}(I:Inv X pins σ H s)
  (hch:∀b∈ch,(b∈X.ex\/X.s₀.heap.objs.size<=b)/\b≠X.env.locals/\ (∀x c,X.env.cells.lookup x=some c ->c≠b)/\∀p∈X.pn++pins,p.1≠b)
  (keep:∀b o,b≠X.env.locals ->b∉X.fs ->b∉ch ->s.heap.get? b=some o ->H b=none ->h'.get? b=some o)
  (slot:∀b o,b≠X.env.locals ->b∈X.fs ->b∉ch ->s.heap.get? b=some o ->H b=none ->∃sl,h'.get? b=some {o with slots:=sl}) (free:∀b o,b∉ch ->s.heap.get? b=some o ->H b=none ->H' b=none)
  (there:∀b o,b∉ch ->s.heap.get? b=some o ->∃o',h'.get? b=some o')
  (tups:∀b xs,H b=some (.tup xs) ->H' b=some (.tup xs)) (lX:∀b o u,H b=some (.frz o u) ->H' b=some (.frz o u)) (mZ:∀b ps,H b=some (.v9 ps) ->∃more,H' b=some (.v9 (ps++more)))
  (ns:∀m,s.heap.Ns X.env.locals m ->h'.Ns X.env.locals m) (hok:gO X.prog X.w H' h') (hg:AllBare g'):
  Inv X pins σ H' {s with heap:=h',gens:=g',drawn:=d',toks:=t'}:=by
 have Vv:∀b o,X.s₀.heap.get? b=some o ->b≠X.env.locals:=fun b o e=>zL (zN (zJ e) I.ok.above);have Jh:∀b o,X.s₀.heap.get? b=some o ->b∉X.ex ->b∉ch:=fun b o e hx hb=>by
  rcases(hch b hb).1 with z | z
  ·exact hx z
  ·exact absurd (zN (zJ e) z) (yZ _)
 have cellK:∀x c,X.env.cells.lookup x=some c ->∀v,s.heap.IsCell c v ->h'.IsCell c v:=fun x c e v ⟨o,ho,hd⟩=>by
  have Df:c∉ch:=fun z=>(hch c z).2.2.1 x c e rfl;by_cases hc:c∈X.fs
  ·obtain⟨sl,q⟩:=slot c o (I.cne x c e) hc Df ho (I.freeC x c e);exact⟨_,q,hd⟩
  ·exact⟨o,keep c o (I.cne x c e) hc Df ho (I.freeC x c e),hd⟩
 refine⟨I.ok,I.os,hg,⟨fun b o e n hb hx=> ?_,fun b o e n hb hx=> ?_,fun b o e n hx=> ?_,fun b o e hx=> ?_,fun b xs e=>tups b xs (I.base.tups b xs e),fun b o xs e=>lX b o xs (I.base.lX b o xs e),fun b ps e=> ?_⟩,?_,fun x c e=> ?_,?_,fun x c e=> ?_,fun p hp=> ?_,hok,I.len⟩
 ·exact keep b o (Vv b o e) hb (Jh b o e hx) (I.base.keep b o e n hb hx) (I.base.free b o e n hx)
 ·obtain⟨sl,e1⟩:=I.base.slot b o e n hb hx;obtain⟨sl',e2⟩:=slot b _ (Vv b o e) hb (Jh b o e hx) e1 (I.base.free b o e n hx);exact⟨sl',e2⟩
 ·obtain⟨o',e1⟩:=I.base.there b o e hx;exact free b o' (Jh b o e hx) e1 (I.base.free b o e n hx)
 ·obtain⟨o',e1⟩:=I.base.there b o e hx;exact there b o' (Jh b o e hx) e1
 ·obtain⟨m1,e1⟩:=I.base.mZ b ps e;obtain⟨m2,e2⟩:=mZ b _ e1;exact⟨m1++m2,by rw[e2,Array.append_assoc]⟩
 ·obtain⟨m,hn,hl⟩:=I.loc;refine⟨m,ns m hn,fun i x v e1 e2 e3=> ?_⟩;obtain⟨u,r,l⟩:=hl i x v e1 e2 e3;refine⟨u,r,?_⟩;rcases l with l | ⟨k,c,e,z⟩
  ·exact .inl l
  ·exact .inr ⟨k,c,e,cellK x c e _ z⟩
 ·obtain⟨v,z⟩:=I.cell x c e;exact⟨v,cellK x c e v z⟩
 ·obtain⟨m,⟨o,_,_,ho,_⟩,_⟩:=I.loc;exact free _ o (fun z=>(hch _ z).2.1 rfl) ho I.free
 ·obtain⟨v,o,ho,hd⟩:=I.cell x c e;exact free c o (fun z=>(hch c z).2.2.1 x c e rfl) ho (I.freeC x c e)
 ·obtain⟨e,n,ne,nf,d⟩:=I.pin p hp;have Df:p.1∉ch:=fun z=>(hch p.1 z).2.2.2 p hp rfl;exact⟨keep p.1 p.2 ne nf Df e n,free p.1 p.2 Df e n,ne,nf,d⟩
theorem Inv.un{t' :Nat}(I:Inv X pins σ H s)(u:Un X.fs [] H H' s.heap h')(hok:gO X.prog X.w H' h'):Inv X pins σ H' {s with heap:=h',toks:=t'}:=by
 obtain⟨m,⟨o,es,ep,ho,r⟩,_⟩:=id I.loc;obtain⟨sl,hL⟩:=u.any ho I.free (by simp)
 exact I.step (g' :=s.gens) (d' :=s.drawn) (ch:= []) (fun _ z=>nomatch z) (fun b o _ hb _ e n=>u.keep b o e n hb (by simp)) (fun b o _ hb _ e n=>u.slot b o e n hb (by simp)) (fun b o _ e n=>u.free b o e n (by simp)) (fun b o _ e=>u.there b o e (by simp)) u.tups u.lX u.mZ (fun m' hm=>by
  obtain⟨o',es',ep',ho',r'⟩:=hm;rw[ho] at ho';cases ho';exact⟨_,es',ep',hL,r'⟩) hok I.bare
theorem Inv.call{g' :Array GenState}{t' :Nat}{d' :Drawn}{ch:List Addr}(I:Inv X pins σ H s)(u:Un (frs X.stack) ch H H' s.heap h')(hok:gO X.prog X.w H' h')(hg:AllBare g')
  (hch:∀b∈ch,(b∈X.ex\/X.s₀.heap.objs.size<=b)/\b≠X.env.locals/\ (∀x c,X.env.cells.lookup x=some c ->c≠b)/\∀p∈X.pn++pins,p.1≠b):
  Inv X pins σ H' {s with heap:=h',gens:=g',drawn:=d',toks:=t'}:=by
 obtain⟨m,⟨o,es,ep,ho,r⟩,_⟩:=id I.loc;obtain⟨sl,hL⟩:=u.any ho I.free fun z=>(hch _ z).2.1 rfl;exact I.step (ch:=ch) hch (fun b o hL hb hc e n=>u.keep b o e n (fun z=>(zV.mp (I.stkSub b z)).elim hL hb) hc) (fun b o _ _ hc e n=>u.any e n hc) (fun b o hc e n=>u.free b o e n hc) (fun b o hc e=>u.there b o e hc) u.tups u.lX u.mZ (fun m' hm=>by
  obtain⟨o',es',ep',ho',r'⟩:=hm;rw[ho] at ho';cases ho';exact⟨_,es',ep',hL,r'⟩) hok hg
theorem Inv.turned{t' :Nat}{it:Addr}(I:Inv X pins σ H s)(k:∀b o,b≠it ->s.heap.get? b=some o ->h'.get? b=some o)(hn:H it=none)(hL:it≠X.env.locals)
  (h1:it∈X.ex\/X.s₀.heap.objs.size<=it) (h2:∀x c,X.env.cells.lookup x=some c ->c≠it) (h3:∀p∈X.pn++pins,p.1≠it):Inv X pins σ H {s with heap:=h',toks:=t'}:=by
 have Dg:∀b u,H b=some u ->b≠it:=fun b u e z=>by rw[z,hn] at e;cases e
 refine I.step (g' :=s.gens) (d' :=s.drawn) (ch:= [it]) (fun b hb=> ?_) (fun b o _ _ hc e _=>k b o (fun z=>hc (by simp [z])) e) (fun b o _ _ hc e _=>⟨o.slots,k b o (fun z=>hc (by simp [z])) e⟩) (fun _ _ _ _ n=>n)
  (fun b o hc e=>⟨o,k b o (fun z=>hc (by simp [z])) e⟩) (fun _ _ e=>e) (fun _ _ _ e=>e) (fun b ps e=>⟨#[],by rw[e];simp⟩) (fun m hm=> ?_) (fun b u e=> ?_) I.bare
 ·have e:b=it:=by simpa using hb
  subst e;exact⟨h1,hL,h2,h3⟩
 ·obtain⟨o,es,ep,ho,r⟩:=hm;exact⟨o,es,ep,k _ o (Ne.symm hL) ho,r⟩
 ·refine(I.hok b u e).stay (fun c v hc q=>k c v ?_ q) (fun _ q=>q) fun _ _ q=>q;rcases hc with z | z
  ·rw[z];exact Dg b u e
  ·exact Dg c _ z
theorem Inv.tok(I:Inv X pins σ H s)(t:Nat):Inv X pins σ H {s with toks:=t}:=I.un (h' :=s.heap) (t' :=t) Un.refl I.hok
theorem Inv.kept{t' :Nat}(I:Inv X pins σ H s)(k:∀b u,s.heap.get? b=some u ->h'.get? b=some u):Inv X pins σ H {s with heap:=h',toks:=t'}:=I.un (Un.kept k) (I.hok.kept k)
theorem Inv.laid{a:Addr}{o:HO}{t' :Nat}(I:Inv X pins σ H s)(k:∀b u,s.heap.get? b=some u ->h'.get? b=some u)(hp:s.heap.objs.size<=a)(new:aU X.prog X.w (upd H a o) h' a o):
  Inv X pins σ (upd H a o) {s with heap:=h',toks:=t'}:=I.un (Un.laid k hp (I.hok.fresh hp)) (I.hok.laid k hp new)
theorem Inv.write{x e:Addr}{o:HO}{t' :Nat}(I:Inv X pins σ H s)(mu:CW (H x))(he:e=x\/H e=some (.own x))(k:∀b u,b≠e ->s.heap.get? b=some u ->h'.get? b=some u)(heo:∃u,h'.get? e=some u)
  (new:aU X.prog X.w (upd H x o) h' x o):Inv X pins σ (upd H x o) {s with heap:=h',toks:=t'}:=I.un (Un.write mu he k heo) (I.hok.write mu he k heo new)
theorem Inv.pins_of{qe :bC}(I:Inv X pins σ H s)(h:∀p∈qe,s.heap.get? p.1=some p.2/\H p.1=none/\p.1≠X.env.locals/\p.1∉X.fs/\∀v,p.2.data≠ .cell v):Inv X qe σ H s:=
 ⟨I.ok,I.os,I.bare,I.base,I.loc,I.cell,I.free,I.freeC,fun p hp=>(zU.mp hp).elim (fun z=>I.pin p (zQ _ z)) (h p),I.hok,I.len⟩
theorem Vw{N:List Str}(hN:N.Nodup){i j:Nat}{x:Str}(a:N[i]?=some x)(b:N[j]?=some x):i=j:=by
 obtain⟨h1,e1⟩:=zW.mp a;obtain⟨h2,e2⟩:=zW.mp b;exact(List.getElem_inj hN).mp (e1.trans e2.symm)
theorem Vx{M:Model}{A:Around}{E:bJ}{i:Nat}{x:Str}{v:V}{u:Value}{Q:Unit ->Shared ->Prop}(I:Inv X pins σ H s)(hN:X.N.Nodup)(hi:X.N[i]?=some x)(hx:Loc X.env.scope x)(r:RelV v u)
  (h:∀s',Inv X pins (σ.set i (some v)) H s' ->(∃a,Heap.SameBut a s.heap s'.heap/\ (a=X.env.locals\/X.env.cells.lookup x=some a)) ->Q () s') (hf:X.fn x=true\/X.env.scope.names.lookup x=some .local:=by first | exact .inl rfl | exact .inr rfl | assumption):wpAny M A (storeName X.env x u) Q E s:=by
 obtain⟨m,hn,hl⟩:=id I.loc;have hcls:(X.env.scope.kind== .class || (X.env.scope.kind== .module&&X.env.locals !=X.env.globals))=false:=by rw[I.ok.kind];rfl
 have Vy:i<σ.length:=by rw[I.len];exact(zW.mp hi).1
 have cne:=I.cne;have tracked:∀{a:Addr} {h' :Heap},(∃o,s.heap.get? a=some o/\H a=none) ->Heap.SameBut a s.heap h' ->gO X.prog X.w H h' :=fun{a h'} ha hs b ob e=>by
  obtain⟨_,_,hfree⟩:=ha;refine(I.hok b ob e).stay (fun c w' hc q=>(hs.2 c ?_).trans q) (fun _ q=>q) fun _ _ q=>q;rintro rfl;rcases hc with rfl | hc
  ·rw[hfree] at e;cases e
  ·rw[hfree] at hc;cases hc
 rcases hx with hk | hk
 ·refine wpAny_storeName_local hk hn (fun h' hn' hs=> ?_) hcls;obtain⟨oL,_,_,hoL,_⟩:=id hn;refine h _ ⟨I.ok,I.os,I.bare,⟨fun b o e n hb hx=> ?_,fun b o e n hb hx=> ?_,I.base.free,fun b o e hx=> ?_,I.base.tups,I.base.lX,I.base.mZ⟩,⟨_,hn',fun j y v' e1 e2 e3=> ?_⟩,fun y c e=> ?_,I.free,I.freeC,fun p hp=> ?_,tracked ⟨oL,hoL,I.free⟩ hs,by simpa using I.len⟩ ⟨_,hs,.inl rfl⟩
  ·exact(hs.2 b (zL (zN (zJ e) I.ok.above))).trans (I.base.keep b o e n hb hx)
  ·obtain⟨sl,e1⟩:=I.base.slot b o e n hb hx;exact⟨sl,(hs.2 b (zL (zN (zJ e) I.ok.above))).trans e1⟩
  ·obtain⟨o',e1⟩:=I.base.there b o e hx;exact⟨o',(hs.2 b (zL (zN (zJ e) I.ok.above))).trans e1⟩
  ·by_cases hj:j=i
   ·subst hj;rw[hi] at e1;cases e1;rw[List.getElem?_set_self Vy] at e2;cases e2;exact⟨u,r,.inl ⟨hk,by simp⟩⟩
   ·rw[List.getElem?_set_ne (Ne.symm hj)] at e2;obtain⟨u',r',q⟩:=hl j y v' e1 e2 e3;refine⟨u',r',?_⟩;rcases q with ⟨k,e⟩ | ⟨k,c,e,z⟩
    ·refine .inl ⟨k,?_⟩;have:y≠x:=fun e=>hj (Vw hN e1 (e ▸ hi));simp [this,e]
    ·exact .inr ⟨k,c,e,z.sameBut hs (cne y c e)⟩
  ·obtain⟨w',z⟩:=I.cell y c e;exact⟨w',z.sameBut hs (cne y c e)⟩
  ·obtain⟨e,n,ne,nf,d⟩:=I.pin p hp;exact⟨(hs.2 p.1 ne).trans e,n,ne,nf,d⟩
 ·have hfn:X.fn x=true:=by
   rcases hf with z | z
   ·exact z
   ·rw[z] at hk;cases hk
  obtain⟨c,hc⟩:=I.ok.has x (.inl hk);obtain⟨w',z⟩:=I.cell x c hc;refine wpAny_storeName_cell I.ok.kind hk hc z (fun h' hc' hs=> ?_);obtain⟨oc,hoc,Mf⟩:=id z;refine h {s with heap:=h'} ⟨I.ok,I.os,I.bare,⟨fun b o e n hb hx=> ?_,fun b o e n hb hx=> ?_,I.base.free,fun b o e hx=> ?_,I.base.tups,I.base.lX,I.base.mZ⟩,⟨m,hn.sameBut hs (Ne.symm (cne x c hc)),fun j y v' e1 e2 e3=> ?_⟩,fun y c' e=> ?_,I.free,I.freeC,fun p hp=> ?_,tracked ⟨oc,hoc,I.freeC x c hc⟩ hs,by simpa using I.len⟩ ⟨c,hs,.inr hc⟩
  ·exact(hs.2 b (zL (zN (zJ e) (I.ok.cab x c hfn hc)))).trans (I.base.keep b o e n hb hx)
  ·obtain⟨sl,e1⟩:=I.base.slot b o e n hb hx;exact⟨sl,(hs.2 b (zL (zN (zJ e) (I.ok.cab x c hfn hc)))).trans e1⟩
  ·obtain⟨o',e1⟩:=I.base.there b o e hx;exact⟨o',(hs.2 b (zL (zN (zJ e) (I.ok.cab x c hfn hc)))).trans e1⟩
  ·by_cases hj:j=i
   ·subst hj;rw[hi] at e1;cases e1;rw[List.getElem?_set_self Vy] at e2;cases e2;exact⟨u,r,.inr ⟨.inl hk,c,hc,hc'⟩⟩
   ·rw[List.getElem?_set_ne (Ne.symm hj)] at e2;obtain⟨u',r',q⟩:=hl j y v' e1 e2 e3;refine⟨u',r',?_⟩;rcases q with q | ⟨k,c',e,z'⟩
    ·exact .inl q
    ·refine .inr ⟨k,c',e,z'.sameBut hs ?_⟩;rintro rfl;exact hj (Vw hN e1 (I.ok.inj _ _ _ e hc ▸ hi))
  ·by_cases hcc:c' =c
   ·subst hcc;exact⟨_,hc'⟩
   ·obtain⟨w2,z2⟩:=I.cell y c' e;exact⟨w2,z2.sameBut hs hcc⟩
  ·obtain⟨e,n,ne,nf,d⟩:=I.pin p hp;refine⟨(hs.2 p.1 ?_).trans e,n,ne,nf,d⟩;intro q;rw[q,hoc] at e;have q' :oc=p.2:=zH e;exact d w' (by rw[<- q'];exact Mf)
theorem Ji{M:Model}{A:Around}{E:bJ}{i:Nat}{x:Str}{v:V}{u:Value}{Q:Unit ->Shared ->Prop}(I:Inv X pins σ H s)(hN:X.N.Nodup)(hi:X.N[i]?=some x)(hx:Loc X.env.scope x)(r:RelV v u)
  (h:∀s',Inv X pins (σ.set i (some v)) H s' ->Q () s') (hf:X.fn x=true\/X.env.scope.names.lookup x=some .local:=by first | exact .inl rfl | exact .inr rfl | assumption):wpAny M A (storeName X.env x u) Q E s:=
 Vx I hN hi hx r (fun s' I' _=>h s' I') hf
theorem Inv.call'{s' :Shared}{ch:List Addr}(I:Inv X pins σ H s)(ho:s'.os=s.os)(u:Un (frs X.stack) ch H H' s.heap s'.heap)(hok:gO X.prog X.w H' s'.heap)(hg:AllBare s'.gens)
  (hch:∀b∈ch,(b∈X.ex\/X.s₀.heap.objs.size<=b)/\b≠X.env.locals/\ (∀x c,X.env.cells.lookup x=some c ->c≠b)/\∀p∈X.pn++pins,p.1≠b):Inv X pins σ H' s' :=by
 obtain⟨h',g',d',t',o'⟩:=s';have e:o' =s.os:=ho;subst e;exact I.call (g' :=g') (t' :=t') (d' :=d') u hok hg hch
end
abbrev XK:=Value ->Option Addr ->Hp ->Prop
abbrev St:=List (Option V)
abbrev VK:=V ->Hp ->Prop
abbrev TE:=St ->Hp ->VK ->Prop
abbrev TT:=St ->Hp ->(Bool ->Hp ->Prop) ->Prop
abbrev TA:=St ->Hp ->(List V ->Hp ->Prop) ->Prop
structure Ends where
 nx:St ->Hp ->Prop
 rt:VK
 bk:St ->Hp ->Prop:=fun _ _=>False
 ct:St ->Hp ->Prop:=fun _ _=>False
abbrev TS:=Ends ->St ->Hp ->Prop
def EP(X:Cx)(pins:bC)(σ:St)(Q:VK)(u:Value)(s' :Shared):Prop:=∃v H',Inv X pins σ H' s' /\RelV v u/\Q v H'
def TP(X:Cx)(pins:bC)(σ:St)(Q:Bool ->Hp ->Prop)(b:Bool)(s' :Shared):Prop:=∃H',Inv X pins σ H' s' /\Q b H'
def AP(X:Cx)(pins:bC)(σ:St)(Q:List V ->Hp ->Prop)(us:List Value)(s' :Shared):Prop:=∃vs H',Inv X pins σ H' s' /\Vals vs us/\Q vs H'
def SP(X:Cx)(pins:bC)(D:Ends)(f:Flow)(s' :Shared):Prop:=
 match f with
 | .next=>∃σ' H',Inv X pins σ' H' s' /\D.nx σ' H'
 | .brk=>∃σ' H',Inv X pins σ' H' s' /\D.bk σ' H'
 | .cont=>∃σ' H',Inv X pins σ' H' s' /\D.ct σ' H'
 | .ret u=>∃v σ' H',Inv X pins σ' H' s' /\RelV v u/\D.rt v H'
def PE(X:Cx)(e:Expr)(t:TE):Prop:=
 ∀(pins:bC) (s:Shared) (σ:St) (H:Hp) (Q:VK),Inv X pins σ H s ->t σ H Q ->wpAny (model X.prog X.w) X.A (eval e X.env) (EP X pins σ Q) X.xe s
def PT(X:Cx)(e:Expr)(t:TT):Prop:=
 ∀(pins:bC) (s:Shared) (σ:St) (H:Hp) (Q:Bool ->Hp ->Prop),Inv X pins σ H s ->t σ H Q ->wpAny (model X.prog X.w) X.A (isTrue e X.env (eval e X.env)) (TP X pins σ Q) X.xe s
def PW(X:Cx)(e:Expr)(t:TT):Prop:=
 ∀(whole:Sem Value) (pins:bC) (s:Shared) (σ:St) (H:Hp) (Q:Bool ->Hp ->Prop),Inv X pins σ H s ->t σ H Q ->wpAny (model X.prog X.w) X.A (isTrue e X.env whole) (TP X pins σ Q) X.xe s
theorem PW.pt{X:Cx}{e:Expr}{t:TT}(h:PW X e t):PT X e t:=h _
def PA(X:Cx)(es:List Expr)(t:TA):Prop:=
 ∀(pos:Pos) (pins:bC) (s:Shared) (σ:St) (H:Hp) (Q:List V ->Hp ->Prop),Inv X pins σ H s ->t σ H Q ->wpAny (model X.prog X.w) X.A (spliced (backTo pos (starEach es X.env))) (AP X pins σ Q) X.xe s
def PS(X:Cx)(st:Stmt)(t:TS):Prop:=
 ∀(pins:bC) (s:Shared) (σ:St) (H:Hp) (D:Ends),Inv X pins σ H s ->t D σ H ->wpAny (model X.prog X.w) X.A (exec st X.env) (SP X pins D) X.xe s
def rP(X:Cx)(st:List Stmt)(t:TS):Prop:=
 ∀(pins:bC) (s:Shared) (σ:St) (H:Hp) (D:Ends),Inv X pins σ H s ->t D σ H ->wpAny (model X.prog X.w) X.A (execs st X.env) (SP X pins D) X.xe s
theorem bK{α:Type}{t:Sem α}{Q Q' :α ->Shared ->Prop}{M:Model}{A:Around}{E:bJ}{s:Shared}(h:wpAny M A t Q E s)(hQ:∀a s,Q a s ->Q' a s):wpAny M A t Q' E s:=wpAny_mono h hQ fun _ _ x=>x
section
variable{X:Cx}
def Dh(i:Nat):TE:=fun σ H Q=>∃v,σ[i]?=some (some v)/\Q v H
def tC(v:V):TE:=fun _ H Q=>Q v H
theorem rZ{i:Nat}{x:Str}{pos:Pos}(hN:X.N[i]?=some x)(hv:pF X.env.scope x)(hd:(x==("__debug__" :Str))=false:=by decide)(hcd:(x==("__classdict__" :Str))=false:=by decide):PE X (.Name x pos) (Dh i):=by
 intro pins s σ H Q I h;obtain⟨v,e,h⟩:=h;obtain⟨m,hn,hl⟩:=I.loc;obtain⟨u,r,l⟩:=hl i x v hN e hv;have fin:EP X pins σ Q u s:=⟨v,H,I,r,h⟩;rcases l with ⟨hk,hm⟩ | ⟨hk,c,hc,hcell⟩
 ·exact wpAny_Name (wpAny_loadName_local I.ok.kind hk hn hm fin) hd
 ·rcases hk with hk | hk
  ·exact wpAny_Name (wpAny_loadName_cell I.ok.kind hk hc hcell fin) hd
  ·exact wpAny_Name (wpAny_loadName_free I.ok.kind hk hc hcell fin hcd) hd
theorem z43{i j pos}:PE X (.Constant (.int i) j pos) (tC (.int i)):=fun _ _ _ H _ I h=>wpAny_Constant_int ⟨.int i,H,I.tok _,⟨_,rfl⟩,h⟩
theorem z6j{b j pos}:PE X (.Constant (.bool b) j pos) (tC (.bl b)):=fun _ _ _ H _ I h=>Constant_bool ⟨.bl b,H,I,rfl,h⟩
theorem z4j{x j pos}:PE X (.Constant (.str x) j pos) (tC (.str x)):=fun _ _ _ H _ I h=>Calls.Constant_str ⟨.str x,H,I.tok _,⟨_,rfl⟩,h⟩
def Gl(X:Cx)(x:Str):Prop:=X.env.kindOf x=some .globalImplicit
theorem Mg{E:bJ}{pins:bC}{s:Shared}{σ:St}{H:Hp}{x:Str}{u:Value}{pos:Pos}{Q:bJ}(I:Inv X pins σ H s)(hg:Gl X x)(hm:X.mg x=some u)(h:Q u s)
  (hd:(x==("__debug__" :Str))=false:=by decide):wpAny (model X.prog X.w) X.A (eval (.Name x pos) X.env) Q E s:=
 Calls.Name_function_global I.ok.kind hg (Calls.loadGlobal_global (by rw[I.ok.glob];exact I.mod.glob.keeps I.bk) hm h) hd
theorem vh{E:bJ}{pins:bC}{s:Shared}{σ:St}{H:Hp}{x:Str}{u:Value}{pos:Pos}{Q:bJ}(I:Inv X pins σ H s)(hg:Gl X x)(hm:X.mg x=none)(hv:bootBuiltins x=some u)(h:Q u s)
  (hn:x≠ "__name__" :=by decide) (hd:(x==("__debug__" :Str))=false:=by decide):wpAny (model X.prog X.w) X.A (eval (.Name x pos) X.env) Q E s:=by
 obtain⟨mb,h1,h2⟩:=I.mod.blt;exact Calls.Name_function_global I.ok.kind hg (Calls.loadGlobal_builtin (by rw[I.ok.glob];exact I.mod.glob.keeps I.bk) hm (by rw[I.ok.blt];exact h1.keeps I.bk) ((h2 x hn).trans hv) h) hd
theorem z0x{x:Str}{v:V}{u:Value}{pos:Pos}(hg:Gl X x)(hm:X.mg x=none)(hv:bootBuiltins x=some u)(r:RelV v u)(hn:x≠ "__name__" :=by decide)(hd:(x==("__debug__" :Str))=false:=by decide):PE X (.Name x pos) (tC v):=
 fun _ _ _ H _ I h=>vh I hg hm hv ⟨v,H,I,r,h⟩ hn hd
def Jj(ta tb:TE)(k:Int ->Int ->Hp ->Prop):St ->Hp ->Prop:=fun σ H=>ta σ H fun x H1=>tb σ H1 fun y H2=>∃i j,x= .int i/\y= .int j/\k i j H2
def aah(ta tb:TE):TE:=fun σ H Q=>Jj ta tb (fun i j H2=>Q (.int (i+j)) H2) σ H
def aai(ta tb:TE):TE:=fun σ H Q=>Jj ta tb (fun i j H2=>Q (.int (i - j)) H2) σ H
def aaj(ta tb:TE):TE:=fun σ H Q=>Jj ta tb (fun i j H2=>(-(2^64)<i/\i<2^64)/\Q (.int (i*j)) H2) σ H
variable{a b:Expr}{ta tb:TE}{pos:Pos}
def PC(X:Cx)(op:CmpOp)(a b:Expr)(t:TE):Prop:=
 ∀(pins:bC) (s:Shared) (σ:St) (H:Hp) (Q:VK),Inv X pins σ H s ->t σ H Q ->
  wpAny (model X.prog X.w) X.A (eval a X.env) (fun v s₁=>wpAny (model X.prog X.w) X.A (eval b X.env) (fun u s₂=>wpAny (model X.prog X.w) X.A (compareOp op v u) (EP X pins σ Q) X.xe s₂) X.xe s₁) X.xe s
def qM(p:Int ->Int ->Bool)(ta tb:TE):TE:=fun σ H Q=>Jj ta tb (fun i j H2=>Q (.bl (p i j)) H2) σ H
abbrev tLt:TE ->TE ->TE:=qM fun i j=>decide (i<j)
abbrev tLe:TE ->TE ->TE:=qM fun i j=>decide (i<=j)
abbrev tGt:TE ->TE ->TE:=qM fun i j=>decide (j<i)
abbrev tGe:TE ->TE ->TE:=qM fun i j=>decide (j<=i)
abbrev aak:TE ->TE ->TE:=qM fun i j=>decide (i=j)
abbrev aal:TE ->TE ->TE:=qM fun i j=> !decide (i=j)
def aam(ta:TE):TE:=fun σ H Q=>ta σ H fun x H1=>Q (.bl (decide (x= .non))) H1
def Vz(ta:TE):TE:=fun σ H Q=>ta σ H fun x H1=>Q (.bl (!decide (x= .non))) H1
def tB(t:TE):TT:=fun σ H Q=>t σ H fun x H1=>∃c,x= .bl c/\Q c H1
theorem VB{op:CmpOp}{t:TE}(h:PC X op a b t)(h1:behindInMarks op b=false:=by first | exact Di _ (by decide) (by decide) | rfl):PT X (.Compare a [op] [b] pos) (tB t):=by
 intro pins s σ H Q I hw;refine wpAny_isTrue_Compare1 (bK (h pins s σ H _ I hw) fun v s1 h1=>bK h1 fun u s2 h2=>bK h2 fun c s3 ⟨x,H1,I1,r1,q1⟩=> ?_) h1;obtain⟨d,rfl,q⟩:=q1;cases r1;exact wpAny_truthy_bool ⟨H1,I1,q⟩
theorem z3w{e:Expr}{t:TE}(h:PE X e t)(he:∀whole,isTrue e X.env whole=(do let v<- whole;standAt e.pos;holding [v] (truthy v)):=by intro _;rfl):PT X e (tB t):=by
 intro pins s σ H Q I hw;refine isTrue_plain (bK (h pins s σ H _ I hw) fun v s1 ⟨x,H1,I1,r1,q1⟩=> ?_) (he _);obtain⟨d,rfl,q⟩:=q1;cases r1;exact wpAny_truthy_bool ⟨H1,I1,q⟩
variable{tA Dj :TT}{rest:List Expr}
def aan(t u:TT):TT:=fun σ H Q=>t σ H fun c H1=>if c=true then u σ H1 Q else Q false H1
def tOr(t u:TT):TT:=fun σ H Q=>t σ H fun c H1=>if c=true then Q true H1 else u σ H1 Q
def Mh(t:TT):TT:=fun σ H Q=>t σ H fun c H1=>Q (!c) H1
theorem z5k(ha:PT X a tA):PW X (.BoolOp .Or [a] pos) tA:=by
 intro wh pins s σ H Q I h;refine isTrue_or (bK (ha pins s σ H Q I h) fun c s1 e=> ?_);cases c with
 | false=>exact isTrue_or_nil e
 | true=>exact e
theorem z6a(ha:PT X a tA)(hb:PW X (.BoolOp .Or (b::rest) pos) Dj):PW X (.BoolOp .Or (a::b::rest) pos) (tOr tA Dj):=by
 intro wh pins s σ H Q I h;refine isTrue_or (bK (ha pins s σ H _ I h) fun c s1 ⟨H1,I1,q1⟩=> ?_);cases c with
 | true=>exact⟨H1,I1,q1⟩
 | false=>exact hb wh pins s1 σ H1 Q I1 q1
theorem z3d(ha:PT X a tA):PT X (.UnaryOp .Not a pos) (Mh tA):=by
 intro pins s σ H Q I h;exact isTrue_not (ha pins s σ H (fun c H1=>Q (!c) H1) I h)
def Dl(ta tb:TE):TE:=fun σ H Q=>ta σ H fun x H1=>∃c,x= .bl c/\if c=true then tb σ H1 Q else Q (.bl false) H1
def Mi(ta tb:TE):TE:=fun σ H Q=>ta σ H fun x H1=>∃c,x= .bl c/\if c=true then Q (.bl true) H1 else tb σ H1 Q
def VD(ta:TE):TE:=fun σ H Q=>ta σ H fun x H1=>∃c,x= .bl c/\Q (.bl (!c)) H1
theorem z41{op}{t:TE}(h:PE X a t):PE X (.BoolOp op [a] pos) t:=fun pins s σ H Q I hw=>BoolOp_one (h pins s σ H Q I hw)
theorem z30(ha:PE X a ta)(hb:PE X (.BoolOp .And (b::rest) pos) tb):PE X (.BoolOp .And (a::b::rest) pos) (Dl ta tb):=by
 intro pins s σ H Q I h;refine BoolOp_and (bK (ha pins s σ H _ I h) fun v s1 su=> ?_);obtain⟨x,H1,I1,r1,q1⟩:=su;obtain⟨c,rfl,q1⟩:=q1;cases r1;refine wpAny_truthy_bool ?_;cases c with
 | true=>exact hb pins s1 σ H1 Q I1 q1
 | false=>exact⟨.bl false,H1,I1,rfl,q1⟩
theorem z6f(ha:PE X a ta)(hb:PE X (.BoolOp .Or (b::rest) pos) tb):PE X (.BoolOp .Or (a::b::rest) pos) (Mi ta tb):=by
 intro pins s σ H Q I h;refine BoolOp_or (bK (ha pins s σ H _ I h) fun v s1 hq8=> ?_);obtain⟨x,H1,I1,r1,q1⟩:=hq8;obtain⟨c,rfl,q1⟩:=q1;cases r1;refine wpAny_truthy_bool ?_;cases c with
 | false=>exact hb pins s1 σ H1 Q I1 q1
 | true=>exact⟨.bl true,H1,I1,rfl,q1⟩
def tIf(t:TT)(ta tb:TE):TE:=fun σ H Q=>t σ H fun c H1=>if c=true then ta σ H1 Q else tb σ H1 Q
theorem zxk{c:Expr}(hc:PT X c tA)(ha:PE X a ta)(hb:PE X b tb):PE X (.IfExp c a b pos) (tIf tA ta tb):=by
 intro pins s σ H Q I h;refine wpAny_IfExp (bK (hc pins s σ H _ I h) fun d s1 ⟨H1,I1,q1⟩=> ?_);cases d with
 | true=>exact ha pins s1 σ H1 Q I1 q1
 | false=>exact hb pins s1 σ H1 Q I1 q1
end
def fM(K:W.Frag)(H:Hp)(a:Addr)(xs:List V):Prop:=
 Rd H a (.lst xs)\/
  ∃(o:Obj) (its:Array Value) (n:Nat),K.lookup a=some o/\o.cls= .type "list" /\o.dict=none/\o.data= .seq its n/\its.size<=sizeLine/\Vals xs its.toList
def iY(K:W.Frag)(H:Hp)(a:Addr)(xs:List V):Prop:=
 Rd H a (.tup xs)\/
  ∃(o:Obj) (its:Array Value) (n:Nat),K.lookup a=some o/\o.cls= .type "tuple" /\o.data= .seq its n/\its.size<=sizeLine/\Vals xs its.toList
def Mj:Value ->Option V
 | .none=>some .non
 | .bool b=>some (.bl b)
 | .int i _=>some (.int i)
 | .str x _=>some (.str x)
 | .bytes b _=>some (.xQ b)
 | .float b _=>some (.flt b)
 | .ref a=>some (.ref a)
 | .type n=>some (.ty n)
 | _=>none
theorem RelV.abs{x:V}{u:Value}(r:RelV x u):Mj u=some x:=by
 cases x with
 | non=>cases r;rfl
 | bl _=>cases r;rfl
 | int _=>obtain⟨t,rfl⟩:=r;rfl
 | str _=>obtain⟨t,rfl⟩:=r;rfl
 | xQ _=>obtain⟨t,rfl⟩:=r;rfl
 | flt _=>obtain⟨t,rfl⟩:=r;rfl
 | ref _=>cases r;rfl
 | ty _=>cases r;rfl
theorem RelV.inj{x y:V}{u:Value}(r:RelV x u)(q:RelV y u):x=y:=zH (r.abs.symm.trans q.abs)
theorem Vals.inj:∀{xs ys:List V} {us:List Value},Vals xs us ->Vals ys us ->xs=ys
 | _,_,_,.nil,.nil=>rfl
 | _,_,_,.cons r t,.cons r' t' =>by rw[r.inj r',Vals.inj t t']
section
variable{X:Cx}{pins:bC}{σ:St}{H:Hp}{s:Shared}{a:Addr}{xs ys:List V}
theorem Inv.list(I:Inv X pins σ H s)(h:fM X.K H a xs):∃its:List Value,Vals xs its/\PlainL s.heap a its.toArray/\xs.length<=sizeLine:=by
 rcases h with h | ⟨o,its,n,hk,hc,hd,hs,hz,r⟩
 ·obtain⟨z,its,n,r,e⟩:=h.ok I.hok;exact⟨its,r,⟨_,n,e,rfl,rfl,rfl⟩,z⟩
 ·refine⟨its.toList,r,⟨o,n,I.kIn a o hk,hc,hd,by simpa using hs⟩,?_⟩
  have e:=r.length;simp only [Array.length_toList] at e;omega
theorem Inv.tuple(I:Inv X pins σ H s)(h:iY X.K H a xs):∃its:List Value,Vals xs its/\IsTup s.heap a its.toArray/\xs.length<=sizeLine:=by
 rcases h with h | ⟨o,its,n,hk,hc,hs,hz,r⟩
 ·obtain⟨z,its,r,p⟩:=h.ok I.hok;exact⟨its,r,p,z⟩
 ·refine⟨its.toList,r,⟨o,I.kIn a o hk,hc,n,by simpa using hs⟩,?_⟩
  have e:=r.length;simp only [Array.length_toList] at e;omega
theorem Inv.list_inj(I:Inv X pins σ H s)(h:fM X.K H a xs)(h' :fM X.K H a ys):xs=ys:=by
 obtain⟨its,r,⟨o,n,e,_,_,d⟩,_⟩:=I.list h;obtain⟨its',r',⟨o',n',e',_,_,d'⟩,_⟩:=I.list h';rw[e] at e';cases e';rw[d] at d';injection d' with d1 _;have:its=its' :=by simpa using congrArg Array.toList d1
 subst this;exact r.inj r'
theorem Inv.tuple_inj(I:Inv X pins σ H s)(h:iY X.K H a xs)(h' :iY X.K H a ys):xs=ys:=by
 obtain⟨its,r,⟨o,e,_,n,d⟩,_⟩:=I.tuple h;obtain⟨its',r',⟨o',e',_,n',d'⟩,_⟩:=I.tuple h';rw[e] at e';cases e';rw[d] at d';injection d' with d1 _;have:its=its' :=by simpa using congrArg Array.toList d1
 subst this;exact r.inj r'
end
abbrev Cx.wish(X:Cx)(E:bJ):Cx:={X with xe:=E}
abbrev Cx.nox(X:Cx):Cx:=X.wish fun _ _=>False
section
variable{X:Cx}{pins:bC}{σ:St}{H:Hp}{s:Shared}{E:bJ}
end
section
variable{X:Cx}{st:Stmt}{rest:List Stmt}{t u:TS}{e:Expr}{te:TE}{pos:Pos}
def Dm:TS:=fun D σ H=>D.nx σ H
def Ml(t u:TS):TS:=fun D σ H=>t {D with nx:=u D} σ H
theorem z18:rP X [] Dm:=fun _ _ σ H _ I h=>wpAny_execs_nil ⟨σ,H,I,h⟩
theorem zyc(h1:PS X st t)(h2:rP X rest u):rP X (st::rest) (Ml t u):=by
 intro pins s σ H D I h;refine wpAny_execs_cons (bK (h1 pins s σ H {D with nx:=u D} I h) fun f s1 q=> ?_);cases f with
 | next=>
  obtain⟨σ',H',I',q⟩:=q;exact h2 pins s1 σ' H' D I' q
 | ret v=>exact q
 | brk=>exact q
 | cont=>exact q
theorem z2g(h1:PS X st t):rP X [st] t:=by
 intro pins s σ H D I h;refine wpAny_execs_cons (bK (h1 pins s σ H D I h) fun f s1 q=> ?_);cases f with
 | next=>exact wpAny_execs_nil q
 | ret v=>exact q
 | brk=>exact q
 | cont=>exact q
def Mp:TS:=fun D σ H=>D.bk σ H
def VF:TS:=fun D σ H=>D.ct σ H
theorem Inv.quiet{pins:bC}{σ:St}{H:Hp}{s:Shared}(I:Inv X pins σ H s):interactive X.env=false:=by simp [interactive,I.ok.kind]
def Dp(te:TE):TS:=fun D σ H=>te σ H fun _ H1=>D.nx σ H1
theorem z15(he:PE X e te)(hs:swapsWith e none pos.line X.env=pure false:=by rfl):PS X (.Expr e pos) (Dp te):=by
 intro pins s σ H D I h;exact wpAny_Expr_any (bK (he pins s σ H _ I h) fun v s1 Mr=>by obtain⟨x,H1,I1,r1,q1⟩:=Mr;exact⟨σ,H1,I1,q1⟩) I.quiet hs
def Ms(te:TE):TS:=fun D σ H=>te σ H D.rt
theorem VG(he:PE X e te):PS X (.Return (some e) pos) (Ms te):=by
 intro pins s σ H D I h;exact wpAny_Return_some (bK (he pins s σ H _ I h) fun v s1 xV=>by obtain⟨x,H1,I1,r1,q1⟩:=xV;exact⟨x,σ,H1,I1,r1,q1⟩)
def VH:TS:=fun D _ H=>D.rt .non H
def Mt(c:TT)(t u:TS):TS:=fun D σ H=>c σ H fun b H1=>if b=true then t D σ H1 else u D σ H1
theorem z5w{c:Expr}{a b:List Stmt}{tc:TT}(hc:PT X c tc)(ha:rP X a t)(hb:rP X b u):PS X (.If c a b pos) (Mt tc t u):=by
 intro pins s σ H D I h;refine wpAny_If (bK (hc pins s σ H _ I h) fun d s1 ⟨H1,I1,q1⟩=> ?_);cases d with
 | true=>exact ha pins s1 σ H1 D I1 q1
 | false=>exact hb pins s1 σ H1 D I1 q1
def Mu:TS:=fun _ _ _=>False
end
abbrev TG:=V ->St ->Hp ->(St ->Hp ->Prop) ->Prop
abbrev vm:=List V ->St ->Hp ->(St ->Hp ->Prop) ->Prop
def PG(X:Cx)(target:Expr)(t:TG):Prop:=
 ∀(pins:bC) (s:Shared) (σ:St) (H:Hp) (v:V) (u:Value) (Q:St ->Hp ->Prop),Inv X pins σ H s ->RelV v u ->t v σ H Q ->
  wpAny (model X.prog X.w) X.A (assign target X.env u) (fun _ s' =>∃σ' H',Inv X pins σ' H' s' /\Q σ' H') X.xe s
def xW(X:Cx)(ts:List Expr)(t:vm):Prop:=
 ∀(pins:bC) (s:Shared) (σ:St) (H:Hp) (vs:List V) (us:List Value) (Q:St ->Hp ->Prop),Inv X pins σ H s ->Vals vs us ->t vs σ H Q ->
  wpAny (model X.prog X.w) X.A (assignInOrder ((assignEach ts X.env).map (·.2)) us) (fun _ s' =>∃σ' H',Inv X pins σ' H' s' /\Q σ' H') X.xe s
abbrev vo:=V ->V ->V ->Hp ->(Hp ->Prop) ->Prop
def Dq(X:Cx)(t:vo):Prop:=
 ∀(pins:bC) (s:Shared) (σ:St) (H:Hp) (o i v:V) (ov iv u:Value) (Q:Hp ->Prop),Inv X pins σ H s ->RelV o ov ->RelV i iv ->RelV v u ->t o i v H Q ->
  wpAny (model X.prog X.w) X.A (setItem ov iv u) (fun _ s' =>∃H',Inv X pins σ H' s' /\Q H') X.xe s
abbrev Jk:=V ->V ->Hp ->VK ->Prop
def PIp(X:Cx)(op:Operator)(t:Jk):Prop:=
 ∀(pins:bC) (s:Shared) (σ:St) (H:Hp) (x y:V) (v u:Value) (Q:VK),Inv X pins σ H s ->RelV x v ->RelV y u ->t x y H Q ->
  wpAny (model X.prog X.w) X.A (inplaceOp op v u) (EP X pins σ Q) X.xe s
section
variable{X:Cx}{pos:Pos}
def wg(i:Nat):TG:=fun v σ H Q=>Q (σ.set i (some v)) H
theorem z2b{i:Nat}{x:Str}(hN:X.N.Nodup)(hi:X.N[i]?=some x)(hx:Loc X.env.scope x)(hf:X.fn x=true\/X.env.scope.names.lookup x=some .local:=by first | exact .inl rfl | exact .inr rfl | assumption):PG X (.Name x pos) (wg i):=by
 intro pins s σ H v u Q I r h;exact wpAny_assign_Name (Ji I hN hi hx r (fun s' I' =>⟨_,H,I',h⟩) hf)
def Mv:vm:=fun vs σ H Q=>vs= []/\Q σ H
def Dr(t:TG)(u:vm):vm:=fun vs σ H Q=>∃v r,vs=v::r/\t v σ H fun σ' H' =>u r σ' H' Q
theorem z12:xW X [] Mv:=by
 intro pins s σ H vs us Q I r h;obtain⟨e,h⟩:=h;subst e;cases r;exact assignInOrder_nil ⟨σ,H,I,h⟩
theorem zw9{e:Expr}{es:List Expr}{t:TG}{u:vm}(h1:PG X e t)(h2:xW X es u)
  (hs:(assignEach (e::es) X.env).map (·.2)=assign e X.env::(assignEach es X.env).map (·.2):=by rfl):xW X (e::es) (Dr t u):=by
 intro pins s σ H vs us Q I r h;obtain⟨v,vr,e1,h⟩:=h;subst e1;cases r with
 | cons r rr=>
  rw[hs];refine assignInOrder_cons (bK (h1 pins s σ H _ _ _ I r h) fun _ s1 ⟨σ1,H1,I1,q1⟩=> ?_);exact h2 pins s1 σ1 H1 _ _ Q I1 rr q1
def Mw(K:W.Frag)(n:Nat)(t:vm):TG:=fun v σ H Q=>∃a xs,v= .ref a/\iY K H a xs/\xs.length=n/\t xs σ H Q
theorem z3t{es:List Expr}{k:Nat}{t:vm}{n:Nat}(hc:X.calm=true)(h:xW X es t)
  (hn:(assignEach es X.env).length=n:=by rfl) (hst:(assignEach es X.env).findIdx? (·.1)=none:=by rfl):PG X (.Tuple es k pos) (Mw X.K n t):=by
 intro pins s σ H v u Q I r hw;obtain⟨a,xs,e1,hq,hl,hw⟩:=hw;subst e1;cases r;obtain⟨its,rv,ht,hz⟩:=I.tuple hq;refine assign_Tuple_tuple (I.ok.hd hc) ht (by simp [hn,<- hl,rv.length]) hst fun h' hx=> ?_
 have I1:Inv X pins σ H {s with heap:=h'}:=I.kept (t' :=s.toks) fun b o e=>hx b o (zL (zJ e)) e;exact h pins _ σ H xs _ Q I1 (by simpa using rv) hw
def n8(to ti:TE)(t:vo):TG:=fun v σ H Q=>to σ H fun o H1=>ti σ H1 fun i H2=>t o i v H2 fun H3=>Q σ H3
theorem z3o{o i:Expr}{to ti:TE}{t:vo}(ho:PE X o to)(hi:PE X i ti)(hs:Dq X t)
  (ha:∀v,assign (.Subscript o i pos) X.env v=(do
   let ov<- holding [v] (eval o X.env)
   let iv<- holding [v,ov] (eval i X.env)
   standAt pos
   holding [v,ov,iv] (setItem ov iv v)
   release [v,ov,iv] []):=by intro _;rfl):PG X (.Subscript o i pos) (n8 to ti t):=by
 intro pins s σ H v u Q I r h;rw[ha];refine z6 (wpAny_holding (bK (ho pins s σ H _ I h) fun ov s1 sy=> ?_));obtain⟨x,H1,I1,r1,q1⟩:=sy;refine z6 (wpAny_holding (bK (hi pins s1 σ H1 _ I1 q1) fun iv s2 sE=> ?_));obtain⟨y,H2,I2,r2,q2⟩:=sE;refine z6 (wpAny_standAt (z6 (wpAny_holding (bK (hs pins s2 σ H2 x y v ov iv u _ I2 r1 r2 r q2) fun _ s3 ⟨H3,I3,q3⟩=> ?_))));exact wpAny_release ⟨σ,H3,I3,q3⟩
def Ds(te:TE)(g:TG):TS:=fun D σ H=>te σ H fun x H1=>g x σ H1 D.nx
theorem z3m{tg e:Expr}{te:TE}{g:TG}(he:PE X e te)(hg:PG X tg g)(hs:swapsWithSole [tg] e pos.line X.env=pure false:=by rfl)(hw:swappedStores [tg] e X.env=pure none:=by rfl)
  (h1:(assignEach [tg] X.env).map (·.2)= [assign tg X.env]:=by rfl):PS X (.Assign [tg] e pos) (Ds te g):=by
 intro pins s σ H D I h;refine wpAny_Assign_stores (bK (he pins s σ H _ I h) fun v s1 ⟨x,H1,I1,r1,q1⟩=> ?_) hs hw;rw[h1];exact bK (hg pins s1 σ H1 x v _ I1 r1 q1) fun _ s2 q=>q
theorem Mz{i:Nat}{x:Str}{e:Expr}{te:TE}{pos' :Pos}(hN:X.N.Nodup)(hi:X.N[i]?=some x)(hx:Loc X.env.scope x)(he:PE X e te)(hs:swapsWith e (some (.Name x pos')) pos.line X.env=pure false:=by rfl)(hf:X.fn x=true\/X.env.scope.names.lookup x=some .local:=by first | exact .inl rfl | exact .inr rfl | assumption):
  PS X (.Assign [.Name x pos'] e pos) (Ds te (wg i)):=by
 intro pins s σ H D I h;refine wpAny_Assign_Name (bK (he pins s σ H _ I h) fun v s1 ⟨y,H1,I1,r1,q1⟩=> ?_) hs;exact Ji I1 hN hi hx r1 (fun s2 I2=>⟨_,H1,I2,q1⟩) hf
def MF(i j:Nat)(ta:TA):TS:=fun D σ H=>ta σ H fun vs H1=>∃v w,vs= [v,w]/\D.nx ((σ.set i (some v)).set j (some w)) H1
theorem z36{i j:Nat}{x y:Str}{a b:Expr}{ta:TA}{px py pt:Pos}{kt k2 xX}(hc:X.calm=true)(hN:X.N.Nodup)(hi:X.N[i]?=some x)(hj:X.N[j]?=some y)(hij:i≠j)
  (hx:X.env.scope.names.lookup x=some .local) (hy:X.env.scope.names.lookup y=some .local) (ha:PA X [a,b] ta)
  (hw:swappedStores [.Tuple [.Name x px,.Name y py] kt pt] (.Tuple [a,b] k2 xX) X.env=pure (some [x,y]))
  (hs:swapsWithSole [.Tuple [.Name x px,.Name y py] kt pt] (.Tuple [a,b] k2 xX) pos.line X.env=pure false:=by rfl):
  PS X (.Assign [.Tuple [.Name x px,.Name y py] kt pt] (.Tuple [a,b] k2 xX) pos) (MF i j ta):=by
 intro pins s σ H D I h;rw[exec_Assign_arm];refine z6 (wpAny_standAt ?_);rw[hs];refine z6 (z7 ?_);rw[if_neg (by decide)]
 refine z6 (Tuple_ (bK (ha _ pins s σ H _ I h) fun us s1 MJ=> ?_));obtain⟨vs,H1,I1,r1,q1⟩:=MJ;obtain⟨v,w,e1,q1⟩:=q1;subst e1;obtain⟨u1,u2,rfl,rv,lV⟩:∃u1 u2,us= [u1,u2]/\RelV v u1/\RelV w u2:=by
  cases r1 with
  | cons p q=>
   cases q with
   | cons p' q' =>
    cases q';exact⟨_,_,rfl,p,p'⟩
 refine wpAny_newObj_type ?_ (by show 2<=sizeLine;decide)
 have I2:Inv X pins σ H1 {s1 with heap:=s1.heap.push {cls:= .type "tuple",data:= .seq [u1,u2].toArray}}:=I1.kept (t' :=s1.toks) fun b o e=>z8 _ e;rw[hw];refine z6 (z7 ?_);show wpAny (model X.prog X.w) X.A (do rule "assign.swapped-stores";let items<- unpackItems (.ref s1.heap.objs.size) 2 none;assignInOrder [fun v=>bindName X.env y v,fun v=>bindName X.env x v] items.reverse;pure Flow.next) _ _ _;refine z6 (wpAny_rule (z6 (unpackItems_tuple (items:= #[u1,u2]) (I.ok.hd hc) (IsTup.new s1.heap _) fun h' hx' => ?_)));have I3:=I2.kept (h' :=h') (t' :=s1.toks) fun b o e=>hx' b o (zL (zJ e)) e;show wpAny _ _ (assignInOrder [fun v=>bindName X.env y v,fun v=>bindName X.env x v] [u2,u1]>>=fun _=>pure Flow.next) _ _ _;refine z6 (assignInOrder_cons (wpAny_bindName (Ji I3 hN hj (.inl hy) lV (fun s2 I4=> ?_) (.inr hy))));refine assignInOrder_cons (wpAny_bindName (Ji I4 hN hi (.inl hx) rv (fun s3 I5=>assignInOrder_nil (z7 ?_)) (.inr hx)));rw[List.set_comm _ _ (Ne.symm hij)] at I5;exact⟨_,H1,I5,q1⟩
def aao(i:Nat)(te:TE)(ti:Jk):TS:=fun D σ H=>∃x,σ[i]?=some (some x)/\te σ H fun y H1=>ti x y H1 fun z H2=>D.nx (σ.set i (some z)) H2
def VJ(to ti te:TE)(MK:V ->V ->Hp ->VK ->Prop)(tip:Jk)(MN:vo):TS:=fun D σ H=>to σ H fun o H1=>ti σ H1 fun i H2=>MK o i H2 fun x H3=>te σ H3 fun y H4=>tip x y H4 fun z H5=>MN o i z H5 fun H6=>D.nx σ H6
def aap(X:Cx)(t:V ->V ->Hp ->VK ->Prop):Prop:=
 ∀(pins:bC) (s:Shared) (σ:St) (H:Hp) (o i:V) (ov iv:Value) (Q:VK),Inv X pins σ H s ->RelV o ov ->RelV i iv ->t o i H Q ->
  wpAny (model X.prog X.w) X.A (getItem ov iv) (EP X pins σ Q) X.xe s
def ipI(f:Int ->Int ->Int):Jk:=fun x y H Q=>∃i j,x= .int i/\y= .int j/\Q (.int (f i j)) H
end
section
variable{X:Cx}{pos:Pos}
def xY(c:TT)(tb:TS):TS:=fun D σ H=>∃W:Nat ->St ->Hp ->Prop,(∃m,W m σ H)/\∀m σ H,W m σ H ->
 c σ H fun b H1=>if b=true then∃N:St ->Hp ->Prop,(∀σ' H',N σ' H' ->∃m',m' <m/\W m' σ' H')/\tb {D with nx:=N,ct:=N,bk:=D.nx} σ H1 else D.nx σ H1
theorem zzp{c:Expr}{body:List Stmt}{tc:TT}{tb:TS}(hp:PassesOwn (model X.prog X.w) X.A X.env X.xe)(hc:PT X c tc)(hb:rP X body tb):PS X (.While c body [] pos) (xY tc tb):=by
 intro pins s σ H D I h;obtain⟨W,⟨m0,w0⟩,turn⟩:=h;refine wpAny_While (codeAny_whileLoop (fun n s' =>∃σ' H',Inv X pins σ' H' s' /\W n σ' H') ?_ m0 ⟨σ,H,I,w0⟩);rintro n s1 ⟨σ1,H1,I1,w1⟩;refine wpAny_passesOwn hp (bK (hc pins s1 σ1 H1 _ I1 (turn n σ1 H1 w1)) fun b s2 ⟨H2,I2,q2⟩=> ?_);cases b with
 | true=>
  obtain⟨N,hN,q2⟩:=q2;rw[if_pos rfl];refine wpAny_passesOwn hp (bK (hb pins s2 σ1 H2 _ I2 q2) fun f s3 q3=> ?_);cases f with
  | next=>
   obtain⟨σ3,H3,I3,n3⟩:=q3;obtain⟨m',hm,w3⟩:=hN σ3 H3 n3;exact⟨m',hm,σ3,H3,I3,w3⟩
  | cont=>
   obtain⟨σ3,H3,I3,n3⟩:=q3;obtain⟨m',hm,w3⟩:=hN σ3 H3 n3;exact⟨m',hm,σ3,H3,I3,w3⟩
  | brk=>exact q3
  | ret v=>exact q3
 | false=>
  rw[if_neg Bool.false_ne_true];exact wpAny_execs_nil ⟨σ1,H2,I2,q2⟩
end
structure It where
 go:Nat ->Hp ->Prop
 yld:Nat ->Hp ->V ->Hp ->Prop
 stop:Nat ->Hp ->Prop
def gb(X:Cx)(pins:bC)(H:Hp)(b:Addr):Prop:=
 H b=none/\b≠X.env.locals/\b∉X.fs/\ (b∈X.ex\/X.s₀.heap.objs.size<=b)/\ (∀x c,X.env.cells.lookup x=some c ->c≠b)/\∀p∈X.pn++pins,p.1≠b
theorem Inv.fpOk{X:Cx}{pins:bC}{σ:St}{H H' :Hp}{s:Shared}{b:Addr}(I:Inv X pins σ H s)(hb:s.heap.objs.size<=b)(hn:H' b=none):gb X pins H' b:=by
 refine⟨hn,Nat.ne_of_gt (zN I.lt hb),I.nofs hb,.inr (zP I.sz hb),fun x c e z=> ?_,fun p hp z=> ?_⟩
 ·obtain⟨v,q⟩:=I.cell x c e;exact absurd (zN q.lt (by rw[z];exact hb)) (yZ _)
 ·exact absurd (zN (zJ (I.pin p hp).1) (by rw[z];exact hb)) (yZ _)
structure Turn (P:Program) (w:World) (K:W.Frag) (tg:Expr) (J:It) (fp:List Addr) (it:Addr) (tn:Nat ->Heap ->Prop):Prop where
 mem:it∈fp
 obj:∀i h,tn i h ->∀b∈fp,∃o,h.get? b=some o/\∀v,o.data≠ .cell v
 keep:∀i h h',tn i h ->(∀b∈fp,∀o,h.get? b=some o ->h'.get? b=some o) ->tn i h'
 item:∀(X:Cx),X.prog=P ->X.w=w ->X.K=K ->X.calm=true ->∀(i:Nat) (pins:bC) (s:Shared) (σ:St) (H:Hp) (E:bJ),Inv X pins σ H s ->(∀b∈fp,gb X pins H b) ->tn i s.heap ->J.go i H ->
  wpAny (model P w) X.A (pyNext (.ref it)) (fun r s1=>∃u,r=some u/\
   wpAny (model P w) X.A (letOwnedTupleGo tg (.ref it) u) (fun _ s2=>∃x H',Inv X pins σ H' s2/\RelV x u/\J.yld i H x H' /\tn (i+1) s2.heap/\∀b∈fp,H' b=none) E s1) E s
 done:∀(X:Cx),X.prog=P ->X.w=w ->X.K=K ->X.calm=true ->∀(i:Nat) (pins:bC) (s:Shared) (σ:St) (H:Hp) (E:bJ),Inv X pins σ H s ->(∀b∈fp,gb X pins H b) ->tn i s.heap ->J.stop i H ->
  wpAny (model P w) X.A (pyNext (.ref it)) (fun r s1=>r=none/\Inv X pins σ H s1) E s
 self:∀(A:Around) (i:Nat) (s:Shared) (Q:bJ) (E:bJ),tn i s.heap ->Q (.ref it) s ->wpAny (model P w) A (pyIter (.ref it)) Q E s
abbrev TI:=St ->Hp ->(It ->Hp ->Prop) ->Prop
def PIE(X:Cx)(pins:bC)(σ:St)(tg:Expr)(R:It ->Hp ->Prop)(itv:Value)(s2:Shared):Prop:=
 ∃(it:Addr) (fp:List Addr) (tn:Nat ->Heap ->Prop) (J:It) (H' :Hp),itv= .ref it/\Inv X pins σ H' s2/\Turn X.prog X.w X.K tg J fp it tn/\tn 0 s2.heap/\ (∀b∈fp,gb X pins H' b)/\R J H'
def PI(X:Cx)(tg iter:Expr)(wi:TI):Prop:=
 ∀(pins:bC) (s:Shared) (σ:St) (H:Hp) (R:It ->Hp ->Prop),Inv X pins σ H s ->wi σ H R ->
  wpAny (model X.prog X.w) X.A (eval iter X.env) (fun v s1=>wpAny (model X.prog X.w) X.A (pyIter v) (PIE X pins σ tg R) X.xe s1) X.xe s
theorem Jl{M:Model}{A:Around}{E:bJ}{s:Shared}{tg:Expr}{it:Addr}{u:Value}{o:Obj}{n:String}{vs:Array Value}{Q:Unit ->Shared ->Prop}(ho:s.heap.get? it=some o)(hc:o.cls= .type n)(hd:o.data= .fields vs)
  (hn: ["enumerate","zip","dict_itemiterator","dict_reverseitemiterator","odict_iterator","itertools.zip_longest","itertools.pairwise"].contains n=false) (hQ:Q () s):wpAny M A (letOwnedTupleGo tg (.ref it) u) Q E s:=by
 unfold letOwnedTupleGo;cases tg<;>first
  | exact z7 hQ
  | (
    cases u<;>first
    | exact z7 hQ
    | (
      refine z6 (wpAny_load ho ?_);rw[hc,hd];show wpAny M A (if (["enumerate","zip","dict_itemiterator","dict_reverseitemiterator","odict_iterator","itertools.zip_longest","itertools.pairwise"].contains n&&vs[0]?==some (rawInt _))=true then _ else _) Q E s;rw[if_neg (by intro h;rw[hn,Bool.false_and] at h;cases h)]
      exact z7 hQ))
def xZ(K:W.Frag)(a:Addr):It:=
 ⟨fun i H=>∃xs x,fM K H a xs/\xs[i]?=some x,fun i H x H' =>H' =H/\∀xs,fM K H a xs ->xs[i]?=some x,fun i H=>∃xs,fM K H a xs/\xs.length<=i⟩
def wj(K:W.Frag)(a:Addr):It:=
 ⟨fun i H=>∃xs x,iY K H a xs/\xs[i]?=some x,fun i H x H' =>H' =H/\∀xs,iY K H a xs ->xs[i]?=some x,fun i H=>∃xs,iY K H a xs/\xs.length<=i⟩
def uP(lo:Int)(n:Nat):It:=⟨fun i _=>i<n,fun i H x H' =>H' =H/\x= .int (lo+i),fun i _=>n<=i⟩
theorem VL{P:Program}{w:World}{K:W.Frag}{tg:Expr}(a it:Addr):Turn P w K tg (xZ K a) [it] it (fun i h=>h.IsListIter it a i) where
 mem:=by simp
 obj:=fun i h st b hb=>by
  have e:b=it:=by simpa using hb
  subst e;obtain⟨o,e,c,d⟩:=st;exact⟨o,e,fun v z=>by rw[d] at z;cases z⟩
 keep:=fun i h h' st k=>st.at fun o e=>k it (by simp) o e
 item:=by
  intro X hP hw hK hc i pins s σ H E I hf st hg;subst hP hw hK;obtain⟨xs,x,hq,hx⟩:=hg;obtain⟨its,rv,p,hz⟩:=I.list hq;obtain⟨u,hu,ru⟩:=rv.get hx;obtain⟨f0,f1,f2,f3,f4,f5⟩:=hf it (by simp)
  refine wpAny_pyNext_list_item st p.isList (x:=u) (by simpa using hu) fun h' st' sb=> ?_
  have I1:Inv X pins σ H {s with heap:=h'}:=I.turned (t' :=s.toks) (fun b o hb e=>(sb.2 b hb).trans e) f0 f1 f3 f4 f5;obtain⟨o,e,c,d⟩:=id st';exact⟨u,rfl,Jl (s:={s with heap:=h'}) e c d (by decide) ⟨x,H,I1,ru,⟨rfl,fun ys hy=>by rw[I.list_inj hy hq];exact hx⟩,st',fun b hb=>(hf b hb).1⟩⟩
 done:=by
  intro X hP hw hK hc i pins s σ H E I hf st hg;subst hP hw hK;obtain⟨xs,hq,hx⟩:=hg;obtain⟨its,rv,p,hz⟩:=I.list hq;obtain⟨f0,f1,f2,f3,f4,f5⟩:=hf it (by simp)
  have hl:=rv.length;exact wpAny_pyNext_list_end (I.ok.hd hc) st p.isList (by simp;omega) fun h' eb=>⟨rfl,I.turned (t' :=s.toks) (fun b o hb e=>eb b o hb e) f0 f1 f3 f4 f5⟩
 self:=fun _ _ _ _ _ st h=>wpAny_pyIter_listiter st h
theorem VN{P:Program}{w:World}{K:W.Frag}{tg:Expr}(a it:Addr):Turn P w K tg (wj K a) [it] it (fun i h=>h.IsTupleIter it a i) where
 mem:=by simp
 obj:=fun i h st b hb=>by
  have e:b=it:=by simpa using hb
  subst e;obtain⟨o,e,c,d⟩:=st;exact⟨o,e,fun v z=>by rw[d] at z;cases z⟩
 keep:=fun i h h' st k=>st.at fun o e=>k it (by simp) o e
 item:=by
  intro X hP hw hK hc i pins s σ H E I hf st hg;subst hP hw hK;obtain⟨xs,x,hq,hx⟩:=hg;obtain⟨its,rv,p,hz⟩:=I.tuple hq;obtain⟨u,hu,ru⟩:=rv.get hx;obtain⟨f0,f1,f2,f3,f4,f5⟩:=hf it (by simp)
  refine wpAny_pyNext_tuple_item st (show s.heap.IsTuple a its.toArray from p) (x:=u) (by simpa using hu) fun h' st' sb=> ?_
  have I1:Inv X pins σ H {s with heap:=h'}:=I.turned (t' :=s.toks) (fun b o hb e=>(sb.2 b hb).trans e) f0 f1 f3 f4 f5;obtain⟨o,e,c,d⟩:=id st';exact⟨u,rfl,Jl (s:={s with heap:=h'}) e c d (by decide) ⟨x,H,I1,ru,⟨rfl,fun ys hy=>by rw[I.tuple_inj hy hq];exact hx⟩,st',fun b hb=>(hf b hb).1⟩⟩
 done:=by
  intro X hP hw hK hc i pins s σ H E I hf st hg;subst hP hw hK;obtain⟨xs,hq,hx⟩:=hg;obtain⟨its,rv,p,hz⟩:=I.tuple hq;obtain⟨f0,f1,f2,f3,f4,f5⟩:=hf it (by simp)
  have hl:=rv.length;exact wpAny_pyNext_tuple_end (I.ok.hd hc) st (show s.heap.IsTuple a its.toArray from p) (by simp;omega) fun h' eb=>⟨rfl,I.turned (t' :=s.toks) (fun b o hb e=>eb b o hb e) f0 f1 f3 f4 f5⟩
 self:=fun _ _ _ _ _ st h=>wpAny_pyIter_tupleiter st h
theorem zsm{P:Program}{w:World}{K:W.Frag}{tg:Expr}(it:Addr)(lo:Int)(n:Nat):Turn P w K tg (uP lo n) [it] it (fun i h=>IsRangeIter h it (lo+ (i:Nat)*1) ((n:Int) - (i:Nat)) 1) where
 mem:=by simp
 obj:=fun i h st b hb=>by
  have e:b=it:=by simpa using hb
  subst e;exact⟨_,st,fun v z=>by
   have z' :Data.fields _=Data.cell v:=z;cases z'⟩
 keep:=fun i h h' st k=>k it (by simp) _ st
 item:=by
  intro X hP hw hK hc i pins s σ H E I hf st hg;subst hP hw hK;obtain⟨f0,f1,f2,f3,f4,f5⟩:=hf it (by simp)
  have W:=Walks.range (prog:=X.prog) (w:=X.w) (I.ok.hd hc) it lo 1 n;refine W.item i s _ _ hg st fun v h' tk hv st' kk=> ?_;obtain⟨t,rfl⟩:=hv;have I1:Inv X pins σ H {s with heap:=h',toks:=tk}:=I.turned (fun b o hb e=>kk b o (by simpa using hb) e) f0 f1 f3 f4 f5
  refine⟨_,rfl,Jl (s:={s with heap:=h',toks:=tk}) (n:= "range_iterator") st' rfl rfl (by decide) ⟨.int (lo+i),H,I1,⟨t,?_⟩,⟨rfl,rfl⟩,st',fun b hb=>(hf b hb).1⟩⟩
  rw[Int.mul_one]
 done:=by
  intro X hP hw hK hc i pins s σ H E I hf st hg;subst hP hw hK;obtain⟨f0,f1,f2,f3,f4,f5⟩:=hf it (by simp)
  exact wpAny_pyNext_range_end (I.ok.hd hc) st (by have:n<=i:=hg;omega) fun h' eb=>⟨rfl,I.turned (t' :=s.toks) (fun b o hb e=>eb b o hb e) f0 f1 f3 f4 f5⟩
 self:=fun _ _ _ _ _ st h=>wpAny_pyIter_rangeiter st h
section
variable{X:Cx}{tg:Expr}
def VP(K:W.Frag)(tl:TE):TI:=fun σ H R=>tl σ H fun x H1=>∃a,x= .ref a/\ (∃xs,fM K H1 a xs)/\R (xZ K a) H1
def aaq(K:W.Frag)(tl:TE):TI:=fun σ H R=>tl σ H fun x H1=>∃a,x= .ref a/\ (∃xs,iY K H1 a xs)/\R (wj K a) H1
theorem VR{pins:bC}{σ:St}{H:Hp}{s:Shared}{R:It ->Hp ->Prop}{E:bJ}{lo hi:Int}{t u v:Tok}{tk:Nat}(I:Inv X pins σ H s)(h1: -(2^62)<=lo)(h2:lo<2^62)(h3: -(2^62)<=hi)(h4:hi<2^62)
  (q:R (uP lo (hi - lo).toNat) H):wpAny (model X.prog X.w) X.A (pyIter (.ref s.heap.objs.size)) (PIE X pins σ tg R) E {s with heap:=s.heap.push {cls:= .type "range",data:= .fields #[.int lo t,.int hi u,.int 1 v]},toks:=tk}:=by
 refine wpAny_pyIter_range (IsRange.new ..) (small_one h1 h2 h3 h4) ?_;have I1:Inv X pins σ H {s with heap:=s.heap.push {cls:= .type "range",data:= .fields #[.int lo t,.int hi u,.int 1 v]},toks:=tk}:=I.kept fun b o e=>z8 _ e;refine⟨(s.heap.push {cls:= .type "range",data:= .fields #[.int lo t,.int hi u,.int 1 v]}).objs.size,[(s.heap.push {cls:= .type "range",data:= .fields #[.int lo t,.int hi u,.int 1 v]}).objs.size],_,_,H,rfl,
  I1.kept (t' :=tk) fun b o e=>z8 _ e,zsm _ lo (hi - lo).toNat,?_,fun b hb=> ?_,q⟩
 ·have e1:lo+ ((0:Nat):Int)*1=lo:=by simp
  have e2:(((hi - lo).toNat:Nat):Int) - ((0:Nat):Int)=Builtin.Range.rangeSize lo hi 1:=by rw[rangeSize_one];split<;>omega
  show IsRangeIter _ _ (lo+ ((0:Nat):Int)*1) ((((hi - lo).toNat:Nat):Int) - ((0:Nat):Int)) 1;rw[e1,e2];exact z9 _ rfl
 ·have e:b=(s.heap.push {cls:= .type "range",data:= .fields #[.int lo t,.int hi u,.int 1 v]}).objs.size:=by simpa using hb
  subst e;exact I1.fpOk (zO _) (I1.hok.fresh (zO _))
def Dt(ta:TA):TI:=fun σ H R=>ta σ H fun vs H1=>∃j:Int,vs= [.int j]/\ -(2^62)<=j/\j<2^62/\R (uP 0 j.toNat) H1
def Du(ta:TA):TI:=fun σ H R=>ta σ H fun vs H1=>∃i j:Int,vs= [.int i,.int j]/\ (-(2^62)<=i/\i<2^62/\ -(2^62)<=j/\j<2^62)/\R (uP i (j - i).toNat) H1
theorem zul{a:Expr}{ta:TA}{p pos:Pos}(hg:Gl X "range")(hm:X.mg "range" =none)(ha:PA X [a] ta)(hs:starEach [a] X.env= [(false,eval a X.env)]:=by rfl):PI X tg (.Call (.Name "range" p) [a] [] pos) (Dt ta):=by
 intro pins s σ H R I h;refine Call_ (vh I hg hm boot_range (PyProof.Rows.callWith_type1 (bK (ha pos pins s σ H _ I h) fun us s1 ⟨vs,H1,I1,r1,q1⟩=> ?_) hs rfl));obtain⟨j,e,q1,q2,q⟩:=q1;subst e;cases r1 with
 | cons r rr=>
  cases rr;obtain⟨t,rfl⟩:=r;exact call_range_1 (VR I1 (by omega) (by omega) q1 q2 (by simpa using q))
theorem zt1{a b:Expr}{ta:TA}{p pos:Pos}(hg:Gl X "range")(hm:X.mg "range" =none)(ha:PA X [a,b] ta)(hs:starEach [a,b] X.env= [(false,eval a X.env),(false,eval b X.env)]:=by rfl)(hs2:starEach [b] X.env= [(false,eval b X.env)]:=by rfl):
  PI X tg (.Call (.Name "range" p) [a,b] [] pos) (Du ta):=by
 intro pins s σ H R I h;refine Call_ (vh I hg hm boot_range (PyProof.Rows.callWith_type1 (bK (ha pos pins s σ H _ I h) fun us s1 ⟨vs,H1,I1,r1,q1⟩=> ?_) (by rw[hs,hs2]) (by rw[hs2];rfl)))
 obtain⟨i,j,e,⟨q1,q2,q3,q4⟩,q⟩:=q1;subst e;cases r1 with
 | cons r rr=>
  cases rr with
  | cons r' rr=>
   cases rr;obtain⟨t,rfl⟩:=r;obtain⟨t',rfl⟩:=r';exact call_range_2 (VR I1 q1 q2 q3 q4 q)
def MP(wi:TI)(g:TG)(tb:TS):TS:=fun D σ H=>wi σ H fun J H1=>∃W:Nat ->Nat ->St ->Hp ->Prop,(∃m,W 0 m σ H1)/\∀i m σ H,W i m σ H ->
 (J.stop i H/\D.nx σ H)\/ (J.go i H/\∃N:St ->Hp ->Prop,(∀σ' H',N σ' H' ->∃m',m' <m/\W (i+1) m' σ' H')/\∀x H',J.yld i H x H' ->g x σ H' fun σ2 H2=>tb {D with nx:=N,ct:=N,bk:=D.nx} σ2 H2)
def j4(fp:List Addr)(h:Heap):bC:=fp.filterMap fun b=>(h.get? b).map fun o=>(b,o)
theorem Jm{fp:List Addr}{h:Heap}{b:Addr}{o:Obj}(hb:b∈fp)(e:h.get? b=some o):(b,o)∈j4 fp h:=List.mem_filterMap.mpr ⟨b,hb,by rw[e];rfl⟩
theorem zun{fp:List Addr}{h:Heap}{p:Addr×Obj}(hp:p∈j4 fp h):p.1∈fp/\h.get? p.1=some p.2:=by
 obtain⟨b,hb,e⟩:=List.mem_filterMap.mp hp;cases q:h.get? b with
 | none=>rw[q] at e;cases e
 | some o=>
  rw[q] at e;have e' :(b,o)=p:=zH e;subst e';exact⟨hb,q⟩
theorem Inv.pinned{pins:bC}{σ:St}{H:Hp}{s:Shared}{fp:List Addr}(I:Inv X pins σ H s)(hf:∀b∈fp,gb X pins H b)(ho:∀b∈fp,∃o,s.heap.get? b=some o/\∀v,o.data≠ .cell v):Inv X (pins++j4 fp s.heap) σ H s:=
 I.pins_of fun p hp=>(zU.mp hp).elim (fun z=>I.pin p (zR _ z)) fun z=>by
  obtain⟨hb,e⟩:=zun z;obtain⟨f0,f1,f2,_⟩:=hf p.1 hb;obtain⟨o,e',d⟩:=ho p.1 hb;rw[e] at e';cases e';exact⟨e,f0,f1,f2,d⟩
theorem Inv.unpinned{pins pl:bC}{σ:St}{H:Hp}{s:Shared}(I:Inv X (pins++pl) σ H s):Inv X pins σ H s:=I.pins_of fun p hp=>I.pin p (zR _ (zQ _ hp))
theorem Jo{iter:Expr}{body:List Stmt}{wi:TI}{g:TG}{tb:TS}{pos:Pos}(hp:PassesOwn (model X.prog X.w) X.A X.env X.xe)(hc:X.calm=true)(hi:PI X tg iter wi)(hg:PG X tg g)(hb:rP X body tb)
  (hs:∀x,foldedSetIterable iter X.env x=pure x:=by intro _;rfl):PS X (.For tg iter body [] pos) (MP wi g tb):=by
 intro pins s σ H D I h;refine wpAny_For (bK (hi pins s σ H _ I h) fun v s1 h1=>bK h1 fun itv s2 h2=> ?_) hs;obtain⟨it,fp,tn,J,H2,e,I2,T,st2,f2,W,⟨m0,w0⟩,turn⟩:=h2;subst e
 
 have stat:∀{H' :Hp},(∀b∈fp,H' b=none) ->∀b∈fp,gb X pins H' b:=fun hn b hb=>⟨hn b hb,(f2 b hb).2⟩;refine codeAny_forLoop_any (fun n s' =>∃i σ' H',Inv X pins σ' H' s' /\tn i s'.heap/\ (∀b∈fp,H' b=none)/\W i n σ' H') ?_ m0 ⟨0,σ,H2,I2,st2,fun b hb=>(f2 b hb).1,w0⟩;rintro n s3 ⟨i,σ3,H3,I3,st3,V0,w3⟩;rcases turn i n σ3 H3 w3 with ⟨stop,qn⟩ | ⟨go,N,hN,step⟩
 ·refine wpAny_passesOwn hp (bK (T.done X rfl rfl rfl hc i pins s3 σ3 H3 X.xe I3 (stat V0) st3 stop) fun r s4 ⟨hr,I4⟩=> ?_);subst hr;exact wpAny_execs_nil ⟨σ3,H3,I4,qn⟩
 ·refine wpAny_passesOwn hp (bK (T.item X rfl rfl rfl hc i pins s3 σ3 H3 X.xe I3 (stat V0) st3 go) fun r s4 ⟨u,hr,h4⟩=> ?_);subst hr;refine wpAny_passesOwn hp (bK h4 fun _ s5 M4=> ?_);obtain⟨x,H5,I5,r5,y5,Av,Jp⟩:=M4;have M5 :=I5.pinned (stat Jp) (T.obj _ _ Av);refine wpAny_passesOwn hp (bK (hg _ s5 σ3 H5 x u _ M5 r5 (step x H5 y5)) fun _ s6 ⟨σ6,H6,I6,q6⟩=> ?_);refine wpAny_passesOwn hp (bK (hb _ s6 σ6 H6 _ I6 q6) fun f s7 q7=> ?_);have again:∀{σ7:St} {H7:Hp},Inv X (pins++j4 fp s5.heap) σ7 H7 s7 ->N σ7 H7 ->∃m,m<n/\∃i σ' H',Inv X pins σ' H' s7/\tn i s7.heap/\ (∀b∈fp,H' b=none)/\W i m σ' H' :=fun{σ7 H7} I7 n7=>by
   obtain⟨m',hm,w7⟩:=hN σ7 H7 n7;refine⟨m',hm,i+1,σ7,H7,I7.unpinned,T.keep _ _ _ Av fun b hb o e=>(I7.pin (b,o) (zR _ (zR _ (Jm hb e)))).1,fun b hb=> ?_,w7⟩;obtain⟨o,e,d⟩:=T.obj _ _ Av b hb;exact(I7.pin (b,o) (zR _ (zR _ (Jm hb e)))).2.1
  cases f with
  | next=>obtain⟨σ7,H7,I7,n7⟩:=q7;exact again I7 n7
  | cont=>obtain⟨σ7,H7,I7,n7⟩:=q7;exact again I7 n7
  | brk=>obtain⟨σ7,H7,I7,q7⟩:=q7;exact⟨σ7,H7,I7.unpinned,q7⟩
  | ret v=>obtain⟨x7,σ7,H7,I7,r7,q7⟩:=q7;exact⟨x7,σ7,H7,I7.unpinned,r7,q7⟩
end
theorem zxj{K:W.Frag}{a:Addr}{xs:List V}{g:TG}{tb:TS}{D:Ends}{σ:St}{H:Hp}(Pv:Nat ->St ->Hp ->Prop)(h0:Pv 0 σ H)(hl:∀i σ H,i<=xs.length ->Pv i σ H ->fM K H a xs)
  (hs:∀i x σ H,xs[i]?=some x ->Pv i σ H ->g x σ H fun σ2 H2=>tb {D with nx:=Pv (i+1),ct:=Pv (i+1),bk:=D.nx} σ2 H2) (hd:∀σ H,Pv xs.length σ H ->D.nx σ H):
  ∃W:Nat ->Nat ->St ->Hp ->Prop,(∃m,W 0 m σ H)/\∀i m σ H,W i m σ H ->
   ((xZ K a).stop i H/\D.nx σ H)\/ ((xZ K a).go i H/\∃N:St ->Hp ->Prop,(∀σ' H',N σ' H' ->∃m',m' <m/\W (i+1) m' σ' H')/\∀x H',(xZ K a).yld i H x H' ->g x σ H' fun σ2 H2=>tb {D with nx:=N,ct:=N,bk:=D.nx} σ2 H2):=by
 refine⟨fun i m σ H=>m=xs.length - i/\i<=xs.length/\Pv i σ H,⟨xs.length,by simp,Nat.zero_le _,h0⟩,?_⟩
 rintro i m σ H ⟨rfl,hi,p⟩;have q:=hl i σ H hi p;by_cases hlt:i<xs.length
 ·refine .inr ⟨⟨xs,xs[i],q,by simp [hlt]⟩,Pv (i+1),fun σ' H' p' =>⟨xs.length - (i+1),by omega,rfl,hlt,p'⟩,fun x H' y=> ?_⟩
  obtain⟨e,y⟩:=y;subst e;exact hs i x σ _ (y xs q) p
 ·have e:i=xs.length:=by omega
  subst e;exact .inl ⟨⟨xs,q,zO _⟩,hd σ H p⟩
theorem z01{K:W.Frag}{a:Addr}{xs:List V}{g:TG}{tb:TS}{D:Ends}{σ:St}{H:Hp}(Pv:Nat ->St ->Hp ->Prop)(h0:Pv 0 σ H)(hl:∀i σ H,i<=xs.length ->Pv i σ H ->iY K H a xs)
  (hs:∀i x σ H,xs[i]?=some x ->Pv i σ H ->g x σ H fun σ2 H2=>tb {D with nx:=Pv (i+1),ct:=Pv (i+1),bk:=D.nx} σ2 H2) (hd:∀σ H,Pv xs.length σ H ->D.nx σ H):
  ∃W:Nat ->Nat ->St ->Hp ->Prop,(∃m,W 0 m σ H)/\∀i m σ H,W i m σ H ->
   ((wj K a).stop i H/\D.nx σ H)\/ ((wj K a).go i H/\∃N:St ->Hp ->Prop,(∀σ' H',N σ' H' ->∃m',m' <m/\W (i+1) m' σ' H')/\∀x H',(wj K a).yld i H x H' ->g x σ H' fun σ2 H2=>tb {D with nx:=N,ct:=N,bk:=D.nx} σ2 H2):=by
 refine⟨fun i m σ H=>m=xs.length - i/\i<=xs.length/\Pv i σ H,⟨xs.length,by simp,Nat.zero_le _,h0⟩,?_⟩
 rintro i m σ H ⟨rfl,hi,p⟩;have q:=hl i σ H hi p;by_cases hlt:i<xs.length
 ·refine .inr ⟨⟨xs,xs[i],q,by simp [hlt]⟩,Pv (i+1),fun σ' H' p' =>⟨xs.length - (i+1),by omega,rfl,hlt,p'⟩,fun x H' y=> ?_⟩
  obtain⟨e,y⟩:=y;subst e;exact hs i x σ _ (y xs q) p
 ·have e:i=xs.length:=by omega
  subst e;exact .inl ⟨⟨xs,q,zO _⟩,hd σ H p⟩
theorem zu3{lo:Int}{n:Nat}{g:TG}{tb:TS}{D:Ends}{σ:St}{H:Hp}(Pv:Nat ->St ->Hp ->Prop)(h0:Pv 0 σ H)
  (hs:∀i σ H,i<n ->Pv i σ H ->g (.int (lo+i)) σ H fun σ2 H2=>tb {D with nx:=Pv (i+1),ct:=Pv (i+1),bk:=D.nx} σ2 H2) (hd:∀σ H,Pv n σ H ->D.nx σ H):
  ∃W:Nat ->Nat ->St ->Hp ->Prop,(∃m,W 0 m σ H)/\∀i m σ H,W i m σ H ->
   ((uP lo n).stop i H/\D.nx σ H)\/ ((uP lo n).go i H/\∃N:St ->Hp ->Prop,(∀σ' H',N σ' H' ->∃m',m' <m/\W (i+1) m' σ' H')/\∀x H',(uP lo n).yld i H x H' ->g x σ H' fun σ2 H2=>tb {D with nx:=N,ct:=N,bk:=D.nx} σ2 H2):=by
 refine⟨fun i m σ H=>m=n - i/\i<=n/\Pv i σ H,⟨n,by simp,Nat.zero_le _,h0⟩,?_⟩
 rintro i m σ H ⟨rfl,hi,p⟩;by_cases hlt:i<n
 ·refine .inr ⟨hlt,Pv (i+1),fun σ' H' p' =>⟨n - (i+1),by omega,rfl,hlt,p'⟩,fun x H' y=> ?_⟩
  obtain⟨e,y⟩:=y;subst e y;exact hs i σ _ hlt p
 ·have e:i=n:=by omega
  subst e;exact .inl ⟨zO _,hd σ H p⟩
abbrev R2:=V ->V ->Hp ->VK ->Prop
def iu(X:Cx)(f:Value ->Value ->Sem Value)(r:R2):Prop:=
 ∀(pins:bC) (s:Shared) (σ:St) (H:Hp) (x y:V) (v u:Value) (Q:VK),Inv X pins σ H s ->RelV x v ->RelV y u ->r x y H Q ->
  wpAny (model X.prog X.w) X.A (f v u) (EP X pins σ Q) X.xe s
def M6(X:Cx)(f:Value ->Sem Value)(r:V ->Hp ->VK ->Prop):Prop:=
 ∀(pins:bC) (s:Shared) (σ:St) (H:Hp) (x:V) (v:Value) (Q:VK),Inv X pins σ H s ->RelV x v ->r x H Q ->
  wpAny (model X.prog X.w) X.A (f v) (EP X pins σ Q) X.xe s
def cH(X:Cx)(f:Value)(r:List V ->Hp ->VK ->Prop):Prop:=
 ∀(pins:bC) (s:Shared) (σ:St) (H:Hp) (xs:List V) (us:List Value) (Q:VK),Inv X pins σ H s ->Vals xs us ->r xs H Q ->
  wpAny (model X.prog X.w) X.A (call f us) (EP X pins σ Q) X.xe s
def aar(X:Cx)(r:V ->Hp ->(Bool ->Hp ->Prop) ->Prop):Prop:=
 ∀(pins:bC) (s:Shared) (σ:St) (H:Hp) (x:V) (v:Value) (Q:Bool ->Hp ->Prop),Inv X pins σ H s ->RelV x v ->r x H Q ->
  wpAny (model X.prog X.w) X.A (truthy v) (TP X pins σ Q) X.xe s
def Dv(r:R2)(ta tb:TE):TE:=fun σ H Q=>ta σ H fun x H1=>tb σ H1 fun y H2=>r x y H2 Q
def tUn(r:V ->Hp ->VK ->Prop)(ta:TE):TE:=fun σ H Q=>ta σ H fun x H1=>r x H1 Q
def rI(C:Int ->Int ->Prop)(g:Int ->Int ->V):R2:=fun x y H Q=>∃i j,x= .int i/\y= .int j/\C i j/\Q (g i j) H
def yc(g:Int ->Int ->V):R2:=fun x y H Q=>∃i j,x= .int i/\y= .int j/\Q (g i j) H
def rU(g:Int ->V):V ->Hp ->VK ->Prop:=fun x H Q=>∃i,x= .int i/\Q (g i) H
section
variable{X:Cx}{a b c:Expr}{ta tb tc:TE}{pos:Pos}
theorem yd(ha:PE X a ta)(hb:PE X b tb){pins:bC}{s:Shared}{σ:St}{H:Hp}{R:V ->V ->Hp ->Prop}(I:Inv X pins σ H s)
  (h:ta σ H fun x H1=>tb σ H1 fun y H2=>R x y H2) {Q:bJ} {f:Value ->Value ->Sem Value}
  (hf:∀v u s2 x y H2,Inv X pins σ H2 s2 ->RelV x v ->RelV y u ->R x y H2 ->wpAny (model X.prog X.w) X.A (f v u) Q X.xe s2):
  wpAny (model X.prog X.w) X.A (eval a X.env) (fun v s₁=>wpAny (model X.prog X.w) X.A (eval b X.env) (fun u s₂=>wpAny (model X.prog X.w) X.A (f v u) Q X.xe s₂) X.xe s₁) X.xe s:=by
 refine bK (ha pins s σ H _ I h) fun v s1 M7=> ?_;obtain⟨x,H1,I1,r1,q1⟩:=M7;refine bK (hb pins s1 σ H1 _ I1 q1) fun u s2 M8=> ?_;obtain⟨y,H2,I2,r2,q2⟩:=M8;exact hf v u s2 x y H2 I2 r1 r2 q2
theorem V1{op:Operator}{r:R2}(ho:iu X (binaryOp op) r)(ha:PE X a ta)(hb:PE X b tb):PE X (.BinOp a op b pos) (Dv r ta tb):=by
 intro pins s σ H Q I h;exact wpAny_BinOp (yd ha hb I h fun v u s2 x y H2 I2 rx ry q=>ho pins s2 σ H2 x y v u Q I2 rx ry q)
theorem z6r{op:UnaryOp}{r:V ->Hp ->VK ->Prop}(ho:M6 X (unaryOp op) r)(ha:PE X a ta):PE X (.UnaryOp op a pos) (tUn r ta):=by
 intro pins s σ H Q I h;exact UnaryOp_ (bK (ha pins s σ H _ I h) fun v s1 M9=>by obtain⟨x,H1,I1,r1,q1⟩:=M9;exact ho pins s1 σ H1 x v Q I1 r1 q1)
theorem Jq{f:Value ->Value ->Sem Value}{C:Int ->Int ->Prop}{g:Int ->Int ->Int}
  (rule:∀(i j:Int) (t u:Tok) (s:Shared) (Q:bJ) (E:bJ),C i j ->Q (.int (g i j) s.toks) {s with toks:=s.toks+1} ->wpAny (model X.prog X.w) X.A (f (.int i t) (.int j u)) Q E s):
  iu X f (rI C fun i j=> .int (g i j)):=by
 intro pins s σ H x y v u Q I rx ry h;obtain⟨i,j,rfl,rfl,hc,q⟩:=h;obtain⟨t,rfl⟩:=rx;obtain⟨t',rfl⟩:=ry;exact rule i j t t' s _ _ hc ⟨.int (g i j),H,I.tok _,⟨_,rfl⟩,q⟩
theorem Dw{f:Value ->Value ->Sem Value}{g:Int ->Int ->Int}
  (rule:∀(i j:Int) (t u:Tok) (s:Shared) (Q:bJ) (E:bJ),Q (.int (g i j) s.toks) {s with toks:=s.toks+1} ->wpAny (model X.prog X.w) X.A (f (.int i t) (.int j u)) Q E s):
  iu X f (yc fun i j=> .int (g i j)):=by
 intro pins s σ H x y v u Q I rx ry h;obtain⟨i,j,rfl,rfl,q⟩:=h;obtain⟨t,rfl⟩:=rx;obtain⟨t',rfl⟩:=ry;exact rule i j t t' s _ _ ⟨.int (g i j),H,I.tok _,⟨_,rfl⟩,q⟩
theorem Dy{f:Value ->Value ->Sem Value}{g:Int ->Int ->Bool}
  (rule:∀(i j:Int) (t u:Tok) (s:Shared) (Q:bJ) (E:bJ),Q (.bool (g i j)) s ->wpAny (model X.prog X.w) X.A (f (.int i t) (.int j u)) Q E s):
  iu X f (yc fun i j=> .bl (g i j)):=by
 intro pins s σ H x y v u Q I rx ry h;obtain⟨i,j,rfl,rfl,q⟩:=h;obtain⟨t,rfl⟩:=rx;obtain⟨t',rfl⟩:=ry;exact rule i j t t' s _ _ ⟨.bl (g i j),H,I,rfl,q⟩
def aas(i j:Int):Prop:=0<j/\j<1073741824
def V2(i j:Int):Prop:=j≠0/\j.natAbs<1073741824
def yg(i j:Int):Prop:=0<=j/\j<=1000000/\i.natAbs<2^64
def aat(i j:Int):Prop:=(-(2^64)<i/\i<2^64)\/ (-(2^64)<j/\j<2^64)
theorem z4x:iu X (binaryOp .Add) (yc fun i j=> .int (i+j)):=Dw fun _ _ _ _ _ _ _ q=>add_int q
theorem z32:iu X (binaryOp .Sub) (yc fun i j=> .int (i - j)):=Dw fun _ _ _ _ _ _ _ q=>sub_int q
theorem z1v:iu X (binaryOp .Mod) (rI (fun _ j=>j≠0) fun i j=> .int (i.fmod j)):=Jq fun _ _ _ _ _ _ _ hc q=>mod_int' hc q
theorem z5i:iu X (binaryOp .Pow) (rI yg fun i j=> .int (i^j.toNat)):=Jq fun _ _ _ _ _ _ _ hc q=>pow_int_small hc.1 hc.2.1 hc.2.2 q
theorem unI{f:Value ->Sem Value}{g:Int ->Int}
  (rule:∀(i:Int) (t:Tok) (s:Shared) (Q:bJ) (E:bJ),Q (.int (g i) s.toks) {s with toks:=s.toks+1} ->wpAny (model X.prog X.w) X.A (f (.int i t)) Q E s):
  M6 X f (rU fun i=> .int (g i)):=by
 intro pins s σ H x v Q I rx h;obtain⟨i,rfl,q⟩:=h;obtain⟨t,rfl⟩:=rx;exact rule i t s _ _ ⟨.int (g i),H,I.tok _,⟨_,rfl⟩,q⟩
theorem z3k:M6 X (unaryOp .USub) (rU fun i=> .int (-i)):=unI fun _ _ _ _ _ q=>neg_int q
end
def Dz:V ->V ->Bool
 | .non,.non=>true | .non,.int _=>true | .int _,.non=>true | .non,.bl _=>true | .bl _,.non=>true | .non,.str _=>true | .str _,.non=>true
 | .int _,.int _=>true | .bl _,.bl _=>true | .str _,.str _=>true | .xQ _,.xQ _=>true
 | .int _,.str _=>true | .str _,.int _=>true | .bl _,.str _=>true | .str _,.bl _=>true
 | _,_=>false
def rEq:R2:=fun x y H Q=>Dz x y=true/\Q (.bl (decide (x=y))) H
def rNe:R2:=fun x y H Q=>Dz x y=true/\Q (.bl (!decide (x=y))) H
section
variable{X:Cx}{a b c:Expr}{ta tb tc:TE}{pos:Pos}
theorem z6c:iu X (compareOp .Lt) (yc fun i j=> .bl (decide (i<j))):=Dy fun _ _ _ _ _ _ _ q=>lt_int q
theorem z56:iu X (compareOp .Gt) (yc fun i j=> .bl (decide (j<i))):=Dy fun _ _ _ _ _ _ _ q=>gt_int q
def isObj:HO ->Bool
 | .lst _=>true
 | .ins _ _ _=>true
 | _=>false
theorem aK(b:Expr){op:CmpOp}(h:op≠ .In:=by decide)(h2:op≠ .NotIn:=by decide):behindInMarks op b=false:=by
 have e1:(op==CmpOp.In)=false:=by cases op<;>first | rfl | exact absurd rfl h
 have e2:(op==CmpOp.NotIn)=false:=by cases op<;>first | rfl | exact absurd rfl h2
 cases b<;>simp [behindInMarks,e1,e2]
theorem z2c{op:CmpOp}{r:R2}(ho:iu X (compareOp op) r)(ha:PE X a ta)(hb:PE X b tb)(hm:behindInMarks op b=false):PE X (.Compare a [op] [b] pos) (Dv r ta tb):=by
 intro pins s σ H Q I h;exact wpAny_Compare1 (yd ha hb I h fun v u s2 x y H2 I2 rx ry q=>ho pins s2 σ H2 x y v u Q I2 rx ry q) hm
def DG(t:TE):TT:=fun σ H Q=>t σ H fun x H' =>∃k,x= .bl k/\Q k H'
theorem z26{op:CmpOp}{r:R2}(ho:iu X (compareOp op) r)(ha:PE X a ta)(hb:PE X b tb)(hm:behindInMarks op b=false):PT X (.Compare a [op] [b] pos) (DG (Dv r ta tb)):=by
 intro pins s σ H Q I h;refine wpAny_isTrue_Compare1 (bK (ha pins s σ H _ I h) fun v s1 ⟨x,H1,I1,r1,q1⟩=>bK (hb pins s1 σ H1 _ I1 q1) fun u s2 ⟨y,H2,I2,r2,q2⟩=>
  bK (ho pins s2 σ H2 x y v u _ I2 r1 r2 q2) fun c s3 ⟨z,H3,I3,r3,k,e,q3⟩=> ?_) hm
 subst e;cases r3;exact wpAny_truthy_bool ⟨H3,I3,q3⟩
def Nb(r r' :R2)(ta tb tc:TE):TE:=fun σ H Q=>ta σ H fun x H1=>tb σ H1 fun y H2=>r x y H2 fun z H3=>∃k,z= .bl k/\
 (if k=true then tc σ H3 fun w' H4=>r' y w' H4 Q else Q (.bl false) H3)
def aau(K:W.Frag)(x:V)(H:Hp)(k:Bool):Prop:=
 match x with
 | .non=>k=false
 | .bl b=>k=b
 | .int i=>k=(i !=0)
 | .str y=>y.length<=sizeLine/\k=((y.length:Int) !=0)
 | .xQ y=>y.size<=sizeLine/\k=((y.size:Int) !=0)
 | .ref p=>(∃xs,fM K H p xs/\k= !xs.isEmpty)\/ (∃xs,iY K H p xs/\k= !xs.isEmpty)\/∃kvs,H p=some (.dK kvs)/\k= !kvs.isEmpty
 | _=>False
theorem jr:(sizeLine:Nat)<2^63:=by rw[sizeLine_eq];decide
theorem zsr:iu X (binaryOp .Add) (fun x y H Q=>∃i j,x= .str i/\y= .str j/\i.length+j.length<=sizeLine/\Q (.str (i++j)) H):=by
 intro pins s σ H x y v u Q I rx ry h;obtain⟨i,j,rfl,rfl,hz,q⟩:=h;obtain⟨t,rfl⟩:=rx;obtain⟨t',rfl⟩:=ry;exact add_str (fun t' tk=>⟨.str (i++j),H,I.tok _,⟨_,rfl⟩,q⟩) hz
def z5q(b:Expr):Prop:=∀o i,subscripted b false o i=operate [o,i] (getItem o i)
theorem vals1{x:V}{us:List Value}(r:Vals [x] us):∃u,us= [u]/\RelV x u:=by
 cases r with
 | cons r1 r2=>cases r2;exact⟨_,rfl,r1⟩
theorem vals2{x y:V}{us:List Value}(r:Vals [x,y] us):∃u w',us= [u,w']/\RelV x u/\RelV y w' :=by
 cases r with
 | cons r1 r2=>
  cases r2 with
  | cons r3 r4=>cases r4;exact⟨_,_,rfl,r1,r3⟩
theorem zyf:cH X (.builtin "abs") (fun xs H Q=>∃i,xs= [.int i]/\Q (.int (if i<0 then -i else i)) H):=by
 intro pins s σ H xs us Q I r h;obtain⟨i,rfl,q⟩:=h;obtain⟨u,rfl,t,rfl⟩:=vals1 r;exact call_abs_int fun u tk=>⟨.int (if i<0 then -i else i),H,I.tok _,⟨_,rfl⟩,q⟩
def aav(K:W.Frag)(x:V)(H:Hp)(n:Nat):Prop:=
 match x with
 | .str y=>y.length<=sizeLine/\n=y.length
 | .xQ y=>y.size<=sizeLine/\n=y.size
 | .ref p=>(∃xs,fM K H p xs/\n=xs.length)\/∃xs,iY K H p xs/\n=xs.length
 | _=>False
end
structure yh (h:Heap) (x dx C:Addr) (mA:Str ->Option Value):Prop where
 obj:h.get? x=some (W.instObj C dx)
 ns:h.Ns1 dx mA
 ne:dx≠x
theorem zwk{h:Heap}{dx:Addr}{mA:Str ->Option Value}(n:h.Ns1 dx mA):∃od,h.get? dx=some od/\∀name,W.lookIn name od=some (mA name):=by
 obtain⟨o,es,ep,ho,hd,hk,_,hm⟩:=n;refine⟨o,ho,fun name=> ?_⟩;have e:=hm name;unfold nsFind findBy at e;rw[<- Array.find?_toList] at e;unfold W.lookIn;rw[hd];dsimp only;split
 ·rename_i y q;rw[q] at e;exact congrArg some e
 ·rename_i q;rw[q] at e;have a:es.toList.any (·.refKey)=false:=by
   rw[List.any_eq_false];intro y hy;obtain⟨z,t,hkey⟩:=hk y (Array.mem_toList_iff.mp hy);simp [DictEntry.refKey,hkey]
  have a' :¬es.toList.any (·.refKey)=true:=by rw[a];exact zK
  rw[if_neg a'];exact congrArg some e
theorem yh.look{h:Heap}{x dx C:Addr}{mA:Str ->Option Value}(I:yh h x dx C mA):∃od,W.InstAt h x (W.instObj C dx) C (some od)/\∀name,W.lookIn name od=some (mA name):=
 let ⟨od,ho,hl⟩:=zwk I.ns
 ⟨od,⟨I.obj,rfl,rfl,ho⟩,hl⟩
section
variable{prog:Program}{w:World}{A:Around}{E:bJ}{s:Shared}{K:W.Frag}{x dx C f:Addr}{mA:Str ->Option Value}{name:Str}{v:Value}
end
def yj(f:Str)(v:V):List (Str×V) ->List (Str×V)
 | []=> [(f,v)]
 | (g,x)::r=>if g=f then(g,v)::r else(g,x)::yj f v r
theorem jZ.some_of{v:V}{o:Option Value}(r:jZ (some v) o):∃u,o=some u/\RelV v u:=by
 cases o with
 | none=>exact(show False from r).elim
 | some u=>exact⟨u,rfl,r⟩
section
variable{P:Program}{w:World}{H H' :Hp}{h h' :Heap}{a C dx:Addr}{fs fs' :List (Str×V)}
theorem z1c(hok:gO P w H h)(e:H a=some (.ins C dx fs)):∃mA,yh h a dx C mA/\ (∀f,jZ (fs.lookup f) (mA f))/\PySem.Within mA (fs.map (·.1))/\fs.length<=1000/\H dx=some (.own a):=by
 obtain⟨d,z,ne,ob,mA,n,r,q⟩:=(show aU P w H h a (.ins C dx fs) from hok a _ e);exact⟨mA,⟨ob,n,ne⟩,r,q,z,d⟩
end
structure Cls (K:W.Frag) (C:Addr):Prop where
 pg:W.plainGet K C Str.empty=true
 hd:W.hasDictIn K C=true
 po:W.plainOver K C=true
 sa:W.findIn K (.ref C) "__setattr__" =some (some (.builtin "object.__setattr__"))
theorem Cls.get{K:W.Frag}{C:Addr}(c:Cls K C)(f:Str):W.plainGet K C f=true:=c.pg
def pG(K:W.Frag)(C:Addr)(f:Str):Prop:=W.findIn K (.ref C) f=some none
structure Con (K:W.Frag) (C:Addr) (f:Str) (v:V) (u:Value):Prop where
 at_:W.findIn K (.ref C) f=some (some u)
 rel:RelV v u
 get:W.specialIn K u "__get__" =some none
 cp:W.copiedNames.contains f=false
structure Meth (K:W.Frag) (C:Addr) (m:Str) (f:Addr):Prop where
 at_:W.findIn K (.ref C) m=some (some (.ref f))
 fn:W.isFn K (.ref f)=true
 kp:W.keepIn K (.ref f)=true
section
variable{X:Cx}{pins:bC}{σ:St}{H:Hp}{s:Shared}{a C dx:Addr}{fs:List (Str×V)}{f:Str}{v:V}{A:Around}{E:bJ}
end
def aaw(K:W.Frag)(ta:TE)(f:Str):TE:=fun σ H Q=>ta σ H fun x H1=>∃a C dx fs v,x= .ref a/\H1 a=some (.ins C dx fs)/\Cls K C/\pG K C f/\fs.lookup f=some v/\Q v H1
def aax(K:W.Frag)(ta:TE)(f:Str):TE:=fun σ H Q=>ta σ H fun x H1=>∃a C dx fs v u,x= .ref a/\H1 a=some (.ins C dx fs)/\Cls K C/\Con K C f v u/\fs.lookup f=none/\Q v H1
def aay(K:W.Frag)(ta tv:TE)(f:Str):TS:=fun D σ H=>tv σ H fun y H1=>ta σ H1 fun x H2=>∃a C dx fs,x= .ref a/\H2 a=some (.ins C dx fs)/\Cls K C/\pG K C f/\fs.length<1000/\
 D.nx σ (upd H2 a (.ins C dx (yj f y fs)))
def aaz(X:Cx)(op:Operator)(rd:V ->V ->Hp ->VK ->Prop):Prop:=
 ∀(pins:bC) (s:Shared) (σ:St) (H:Hp) (x y:V) (u v:Value) (Q:VK),Inv X pins σ H s ->RelV x u ->RelV y v ->rd x y H Q ->wpAny (model X.prog X.w) X.A (inplaceOp op u v) (EP X pins σ Q) X.xe s
def z6g(K:W.Frag)(ta tv:TE)(rd:V ->V ->Hp ->VK ->Prop)(f:Str):TS:=fun D σ H=>ta σ H fun x H1=>∃a C dx fs v,x= .ref a/\H1 a=some (.ins C dx fs)/\Cls K C/\pG K C f/\fs.lookup f=some v/\
 tv σ H1 fun y H2=>rd v y H2 fun z H3=>∃V3 fs',H3 a=some (.ins C V3 fs')/\fs'.length<1000/\D.nx σ (upd H3 a (.ins C V3 (yj f z fs')))
section
variable{X:Cx}{o e value:Expr}{f:Str}{pos pos' tpos:Pos}{ta tv:TE}
def aaA:V ->V ->Hp ->VK ->Prop:=fun x y H Q=>∃i j,x= .int i/\y= .int j/\Q (.int (i+j)) H
def aaB:V ->V ->Hp ->VK ->Prop:=fun x y H Q=>∃i j,x= .int i/\y= .int j/\Q (.int (i - j)) H
end
section
variable{X:Cx}{pins:bC}{σ:St}{H:Hp}{s:Shared}{A:Around}{E:bJ}{Q:bJ}{c:Value}{b:Bool}
inductive jT (K:W.Frag) (H:Hp):V ->Value ->Prop where
 | non:jT K H .non (.type "NoneType")
 | bl (x:Bool):jT K H (.bl x) (.type "bool")
 | int (i:Int):jT K H (.int i) (.type "int")
 | str (x:Str):jT K H (.str x) (.type "str")
 | flt (x:UInt64):jT K H (.flt x) (.type "float")
 | lst {a:Addr} {xs:List V} (e:H a=some (.lst xs)):jT K H (.ref a) (.type "list")
 | frz {a:Addr} {o:Obj} {xs:List V} (e:H a=some (.frz o (.lst xs))):jT K H (.ref a) (.type "list")
 | tup {a:Addr} {xs:List V} (e:H a=some (.tup xs)):jT K H (.ref a) (.type "tuple")
 | dK {a:Addr} {kvs:List (Key×V)} (e:H a=some (.dK kvs)):jT K H (.ref a) (.type "dict")
 | dT {a:Addr} {kvs:List (List Key×V)} (e:H a=some (.dT kvs)):jT K H (.ref a) (.type "dict")
 | ins {a C dx:Addr} {fs:List (Str×V)} (e:H a=some (.ins C dx fs)) (cl:Cls K C) (ha:W.findIn K (.ref C) "__class__" =some (some (.builtin "object.__class__")))
   (hn:W.specialIn K (.builtin "object.__class__") "__get__" =some (some (.builtin "getset_descriptor.__get__"))) (htk:W.takesIn K (.builtin "object.__class__")=some true)
   (hm:W.mroIn K C (.type "object")=some true):jT K H (.ref a) (.ref C)
theorem Jr{x:V}{u t:Value}(I:Inv X pins σ H s)(rx:RelV x u)(ty:jT X.K H x t)(e:W.kitOne X.K t c=some b)(h:∀tk,Q (.bool b) {s with toks:=tk}):
  wpAny (model X.prog X.w) A (call (.builtin "isinstance") [u,c]) Q E s:=by
 cases ty with
 | non=>cases (show u=Value.none from rx);exact W.kia_one W.kitx_none I.kIn True.intro e (fun z=>nomatch z) h
 | bl y=>cases (show u=Value.bool y from rx);exact W.kia_one W.kitx_bool I.kIn True.intro e (fun z=>nomatch z) h
 | int i=>obtain⟨t,q⟩:=(show∃t,u=Value.int i t from rx);cases q;exact W.kia_one W.kitx_int I.kIn True.intro e (fun z=>nomatch z) h
 | str y=>obtain⟨t,q⟩:=(show∃t,u=Value.str y t from rx);cases q;exact W.kia_one W.kitx_str I.kIn True.intro e (fun z=>nomatch z) h
 | flt y=>obtain⟨t,q⟩:=(show∃t,u=Value.float y t from rx);cases q;exact W.kia_one W.kitx_float I.kIn True.intro e (fun z=>nomatch z) h
 | @lst a xs ea=>
  cases (show u=Value.ref a from rx);obtain⟨_,_,n,_,h1⟩:=(show aU X.prog X.w H s.heap a (.lst xs) from I.hok a _ ea);exact W.kia_one W.kitx_list I.kIn ⟨_,h1,rfl⟩ e (fun z=>nomatch z) h
 | @frz a ob xs ea=>
  cases (show u=Value.ref a from rx);obtain⟨_,_,_,n,_,h1⟩:=(show aU X.prog X.w H s.heap a (.frz ob (.lst xs)) from I.hok a _ ea);exact W.kia_one W.kitx_list I.kIn ⟨_,h1,rfl⟩ e (fun z=>nomatch z) h
 | @tup a xs ea=>
  cases (show u=Value.ref a from rx);obtain⟨_,_,_,p⟩:=(show aU X.prog X.w H s.heap a (.tup xs) from I.hok a _ ea);obtain⟨o,h1,h2,_⟩:=p;exact W.kia_one W.kitx_tuple I.kIn ⟨o,h1,h2⟩ e (fun z=>nomatch z) h
 | @dK a kvs ea=>
  cases (show u=Value.ref a from rx);obtain⟨_,_,vs,_,p⟩:=(show aU X.prog X.w H s.heap a (.dK kvs) from I.hok a _ ea);obtain⟨o,es,ep,h1,h2,_⟩:=p;exact W.kia_one W.kitx_dict I.kIn ⟨o,h1,h2.1⟩ e (fun z=>nomatch z) h
 | @dT a kvs ea=>
  cases (show u=Value.ref a from rx);obtain⟨_,_,xs,_,o,es,ep,h1,h2,_⟩:=(show aU X.prog X.w H s.heap a (.dT kvs) from I.hok a _ ea);exact W.kia_one W.kitx_dict I.kIn ⟨o,h1,h2.1⟩ e (fun z=>nomatch z) h
 | @ins a C dx fs ea cl ha hn htk hm=>
  cases (show u=Value.ref a from rx);obtain⟨mA,O,_⟩:=z1c I.hok ea;obtain⟨od,J,_⟩:=O.look;exact W.kia_one (W.kitx_own (cl.get _) cl.hd ha hn htk hm) I.kIn J e (fun z=>nomatch z) h
end
structure eG (k:Nat) (A:Around):Prop where
 hd:A.handled=none
 dp:A.depth+3*k+5<recursionLimit
 un:A.units+16*k+200<cLine
theorem eG.mono{j k:Nat}{A:Around}(r:eG k A)(h:j<=k):eG j A:=⟨r.hd,by have:=r.dp;omega,by have:=r.un;omega⟩
theorem eG.deeper{k:Nat}{A:Around}(r:eG (k+1) A)(env:Env):eG k (A.deeper env):=
 ⟨r.hd,by have:=r.dp;show A.depth+1+3*k+5<_;omega,by have:=r.un;show A.units+3+16*k+200<_;omega⟩
theorem eG.depth{k:Nat}{A:Around}(r:eG k A):A.depth<recursionLimit:=by have:=r.dp;omega
theorem eG.units{k:Nat}{A:Around}(r:eG k A):A.units+64<cLine:=by have:=r.un;omega
def Nf:TA:=fun _ H Q=>Q [] H
def DK(ta:TE)(tr:TA):TA:=fun σ H Q=>ta σ H fun x H1=>tr σ H1 fun xs H2=>Q (x::xs) H2
section
variable{X:Cx}{e:Expr}{es:List Expr}{te:TE}{t:TA}{pos:Pos}
theorem Ng:PA X [] Nf:=fun _ _ _ _ H Q I h=>Calls.spliced_nil ⟨[],H,I,.nil,h⟩
theorem Js(ha:PE X e te)(hr:PA X es t)(hs:starEach (e::es) X.env=(false,eval e X.env)::starEach es X.env:=by rfl):PA X (e::es) (DK te t):=by
 intro pos pins s σ H Q I h;rw[hs];show wpAny _ _ (spliced ((false,eval e X.env)::backTo pos (starEach es X.env))) _ _ s;refine Calls.spliced_cons (bK (ha pins s σ H _ I h) fun u s1 Nh=> ?_);obtain⟨x,H1,I1,r1,q1⟩:=Nh;exact bK (hr pos pins s1 σ H1 _ I1 q1) fun us s2 Ni=>by obtain⟨xs,H2,I2,r2,q2⟩:=Ni;exact⟨x::xs,H2,I2,.cons r1 r2,q2⟩
def Nj(t:TA):TE:=fun σ H Q=>t σ H fun xs H1=>xs.length<=sizeLine/\∀p,H1 p=none ->Q (.ref p) (upd H1 p (.tup xs))
def Nk(t:TA):TE:=fun σ H Q=>t σ H fun xs H1=>xs.length<=sizeLine/\∀p,H1 p=none ->Q (.ref p) (upd H1 p (.lst xs))
theorem z5j{x1}(h:PA X es t):PE X (.Tuple es x1 pos) (Nj t):=by
 intro pins s σ H Q I hq;refine wpAny_Tuple_spliced (bK (h pos pins s σ H _ I hq) fun us s1 ⟨xs,H1,I1,r,z,q⟩=>⟨by rw[<- r.length];exact z,?_⟩)
 have hf:H1 s1.heap.objs.size=none:=I1.hok.fresh (zO _);refine⟨.ref s1.heap.objs.size,upd H1 s1.heap.objs.size (.tup xs),I1.laid (t' :=s1.toks) (fun b u e=>z8 _ e) (zO _) ?_,rfl,q _ hf⟩;exact⟨z,us,r,⟨_,z9 _ rfl,rfl,_,rfl⟩⟩
theorem z3r(h:PA X es t):PE X (.List es pos) (Nk t):=by
 intro pins s σ H Q I hq;refine wpAny_List_spliced (bK (h pos pins s σ H _ I hq) fun us s1 ⟨xs,H1,I1,r,z,q⟩=>⟨by rw[<- r.length];exact z,?_⟩)
 have hf:H1 s1.heap.objs.size=none:=I1.hok.fresh (zO _);refine⟨.ref s1.heap.objs.size,upd H1 s1.heap.objs.size (.lst xs),I1.laid (t' :=s1.toks) (fun b u e=>z8 _ e) (zO _) ?_,rfl,q _ hf⟩;exact⟨z,us,0,r,z9 _ rfl⟩
end
abbrev Sp:=List V ->Hp ->VK ->XK ->Prop
abbrev qN:=List Env ->Hp ->Shared ->XK ->Value ->Shared ->Prop
structure vp (P:Program) (w:World) (K:W.Frag) (mg:Str ->Option Value) (base:Heap) (A:Around) (outer:List Env) (s:Shared) (H:Hp):Prop where
 frames:A.frames=some outer
 mod:Mod K mg base
 bs:∀b o,base.get? b=some o ->s.heap.get? b=some o/\H b=none
 Ar:base.objs.size<=s.heap.objs.size
 funs:s.heap.FunFrames base outer
 Dd:∀b∈frs outer,H b=none
 hok:gO P w H s.heap
 bare:AllBare s.gens
def CE(outer:List Env)(P:Program)(w:World)(H:Hp)(s:Shared)(Q:VK)(u:Value)(s' :Shared):Prop:=
 ∃v H',s'.os=s.os/\AllBare s'.gens/\Un (frs outer) [] H H' s.heap s'.heap/\gO P w H' s'.heap/\RelV v u/\Q v H'
def CR(CX:qN)(outer:List Env)(P:Program)(w:World)(H:Hp)(s:Shared)(Q:VK)(E:XK)(r:Result)(s' :Shared):Prop:=
 match r with
 | .ok (.ret u)=>CE outer P w H s Q u s'
 | .ok _=>False
 | .error e=>CX outer H s E e s'
structure d7 (P:Program) (w:World) (K:W.Frag) (mg:Str ->Option Value) (base:Heap) (CX:qN) (k:Nat) (f:Addr) (fd:FuncData) (ps:List Str) (sp:Sp):Prop where
 len:∀vs H Q E,sp vs H Q E ->vs.length=ps.length
 run:∀(A:Around) (outer:List Env) (s:Shared) (H:Hp) (args:Args) (us:List Value) (vs:List V) (Q:VK) (E:XK),eG k A ->vp P w K mg base A outer s H ->BindsTo s fd args (ps.zip us) ->Vals vs us ->sp vs H Q E ->
  codeAny (model P w) A (.call (.ref f) args) (CR CX outer P w H s Q E) s
theorem d7.imp{P:Program}{w:World}{K:W.Frag}{mg:Str ->Option Value}{base:Heap}{CX:qN}{k:Nat}{f:Addr}{fd:FuncData}{ps:List Str}{sp V4 :Sp}(F:d7 P w K mg base CX k f fd ps sp)
  (h:∀vs H Q E,V4 vs H Q E ->sp vs H Q E):d7 P w K mg base CX k f fd ps V4 :=
 ⟨fun vs H Q E q=>F.len vs H Q E (h _ _ _ _ q),fun A outer s H args us vs Q E hr he hb hv hs=>F.run A outer s H args us vs Q E hr he hb hv (h _ _ _ _ hs)⟩
section
variable{X:Cx}{pins:bC}{σ:St}{H:Hp}{s s' :Shared}
theorem Inv.env0(I:Inv X pins σ H s):vp X.prog X.w X.K X.mg X.base X.A X.stack s H:=
 ⟨I.ok.frames,I.ok.mod,I.bs,zP I.ok.Ar I.sz,I.stack,I.stkFree,I.hok,I.bare⟩
theorem Inv.after{Q:VK}{u:Value}(I:Inv X pins σ H s)(h:CE X.stack X.prog X.w H s Q u s'):EP X pins σ Q u s' :=by
 obtain⟨v,H',os,bare,un,hok,r,q⟩:=h;obtain⟨hh,g,d,t,os'⟩:=s';obtain rfl:os' =s.os:=os;exact⟨v,H',I.call (h' :=hh) (g' :=g) (d' :=d) (t' :=t) (ch:= []) un hok bare (fun b z=>absurd z (by simp)),r,q⟩
end
def V5(sp:Sp)(Aw:List V)(E:XK)(t:TA):TE:=fun σ H Q=>t σ H fun vs H1=>sp (vs++Aw) H1 Q E
def V6(C:Addr)(m:Str)(sp:Sp)(Aw:List V)(E:XK)(ta:TE)(t:TA):TE:=fun σ H Q=>ta σ H fun x H1=>∃a dx fs,x= .ref a/\H1 a=some (.ins C dx fs)/\fs.lookup m=none/\
 t σ H1 fun vs H2=>sp (x::(vs++Aw)) H2 Q E
def V7(C:Addr)(sp:Sp)(Aw:List V)(E:XK)(t:TA):TE:=fun σ H Q=>t σ H fun vs H1=>∀x dx,H1 x=none ->H1 dx=none ->dx≠x ->
 sp (.ref x::(vs++Aw)) (upd (upd H1 dx (.own x)) x (.ins C dx [])) (fun v H2=>v= .non/\Q (.ref x) H2) E
def Binds(K:W.Frag)(fd:FuncData)(ps:List Str)(ds:List Value):Prop:=
 ∀(s:Shared) (us:List Value),K.In s.heap ->(us++ds).length=ps.length ->BindsTo s fd ⟨us,[]⟩ (ps.zip (us++ds))
theorem Binds.all{K:W.Frag}{fd:FuncData}{ps:List Str}(h:∀us:List Value,us.length=ps.length ->bindArgs fd ⟨us,[]⟩=pure (ps.zip us)):Binds K fd ps []:=fun s us _ hl=>by
 rw[List.append_nil] at hl⊢;exact .of_eq (h us hl)
def Passes(CX:qN)(X:Cx)(E:XK):Prop:=∀(pins:bC) (σ:St) (H:Hp) (s:Shared) (e:Value) (s' :Shared),Inv X pins σ H s ->CX X.stack H s E e s' ->X.xe e s'
section
variable{X:Cx}{CX:qN}{k:Nat}{f C:Addr}{fd:FuncData}{ps:List Str}{sp:Sp}{Aw:List V}{ds:List Value}{E:XK}{x m:Str}{p pos apos:Pos}{e o:Expr}{es:List Expr}{ta:TE}{t:TA}
structure Mk (K:W.Frag) (C f:Addr):Prop where
 makes:W.makesIn K C=true
 init:W.findIn K (.ref C) "__init__" =some (some (.ref f))
 fn:W.isFn K (.ref f)=true
 kp:W.keepIn K (.ref C)=true
end
def PK(X:Cx)(kws:List Keyword)(t:TA):Prop:=
 ∀(pos:Pos) (pins:bC) (s:Shared) (σ:St) (H:Hp) (Q:List V ->Hp ->Prop),Inv X pins σ H s ->t σ H Q ->wpAny (model X.prog X.w) X.A (evalAll ((backToKw pos (keywordEach kws X.env)).map (·.2))) (AP X pins σ Q) X.xe s
section
variable{X:Cx}{CX:qN}{k:Nat}{f C:Addr}{fd:FuncData}{ps ks:List Str}{sp:Sp}{E:XK}{x m:Str}{p pos apos kpos:Pos}{e o:Expr}{es:List Expr}{kws:List Keyword}{te ta:TE}{t tk:TA}{nm:Option Str}
structure Nm (K:W.Frag) (fd:FuncData) (ps ks:List Str) (g:List Value ->List Value ->List Value) (gV:List V ->List V ->List V):Prop where
 to:∀(s:Shared) (us ws:List Value),K.In s.heap ->(g us ws).length=ps.length ->BindsTo s fd ⟨us,ks.zip ws⟩ (ps.zip (g us ws))
 rel:∀{vs:List V} {us:List Value} {zs:List V} {ws:List Value},Vals vs us ->Vals zs ws ->Vals (gV vs zs) (g us ws)
def Np(sp:Sp)(gV:List V ->List V ->List V)(E:XK)(t tk:TA):TE:=fun σ H Q=>t σ H fun vs H1=>tk σ H1 fun zs H2=>sp (gV vs zs) H2 Q E
variable{g:List Value ->List Value ->List Value}{gV:List V ->List V ->List V}
end
structure aA (N P:List Str) (sc:Scope):Prop where
 kind:sc.kind= .function
 co:sc.isCoroutine=false
 gen:sc.isGenerator=false
 nd:N.Nodup
 pre:N.take P.length=P
 par:∀x∈P,sc.names.lookup x=some .local\/sc.names.lookup x=some .cell
 nofree:∀y∈sc.names,y.2≠ .free
theorem V8{kindOf:Str ->Option NameKind}{x:Str}:∀{binds:List (Str×Value)} {m:Str ->Option Value},(∀v,(x,v)∉binds) ->bindL kindOf binds m x=m x
 | [],_,_=>rfl
 | (n,v)::r,m,h=>by
  unfold bindL;rw[V8 fun w hw=>h w (List.mem_cons_of_mem _ hw)];split
  ·have:x≠n:=by rintro rfl;exact h v zY
   simp [this]
  ·rfl
theorem V9{kindOf:Str ->Option NameKind}{x:Str}:∀{binds:List (Str×Value)} {m:Str ->Option Value},(∀v,(x,v)∉binds) ->bindC kindOf binds m x=m x
 | [],_,_=>rfl
 | (n,v)::r,m,h=>by
  unfold bindC;rw[V9 fun w hw=>h w (List.mem_cons_of_mem _ hw)];split
  ·rfl
  ·have:x≠n:=by rintro rfl;exact h v zY
   simp [this]
theorem Wa{kindOf:Str ->Option NameKind}{x:Str}{v:Value}:∀{P:List Str} {vs:List Value} {i:Nat} {m:Str ->Option Value},P.Nodup ->P[i]?=some x ->vs[i]?=some v ->kindOf x=some .local ->
  bindL kindOf (P.zip vs) m x=some v
 | [],_,_,_,_,h,_,_=>by simp at h
 | _::_,[],_,_,_,_,h,_=>by simp at h
 | p::P,w::vs,0,m,nd,h1,h2,hk=>by
  simp at h1 h2;subst h1;subst h2;show bindL kindOf ((p,w)::P.zip vs) m p=_;unfold bindL;rw[V8 fun v hv=>(List.nodup_cons.mp nd).1 (List.of_mem_zip hv).1,if_pos hk];simp
 | p::P,w::vs,i+1,m,nd,h1,h2,hk=>by
  show bindL kindOf ((p,w)::P.zip vs) m x=_;unfold bindL;exact Wa (i:=i) (List.nodup_cons.mp nd).2 (by simpa using h1) (by simpa using h2) hk
theorem Wb{kindOf:Str ->Option NameKind}{x:Str}{v:Value}:∀{P:List Str} {vs:List Value} {i:Nat} {m:Str ->Option Value},P.Nodup ->P[i]?=some x ->vs[i]?=some v ->kindOf x≠some .local ->
  bindC kindOf (P.zip vs) m x=some v
 | [],_,_,_,_,h,_,_=>by simp at h
 | _::_,[],_,_,_,_,h,_=>by simp at h
 | p::P,w::vs,0,m,nd,h1,h2,hk=>by
  simp at h1 h2;subst h1;subst h2;show bindC kindOf ((p,w)::P.zip vs) m p=_;unfold bindC;rw[V9 fun v hv=>(List.nodup_cons.mp nd).1 (List.of_mem_zip hv).1,if_neg hk];simp
 | p::P,w::vs,i+1,m,nd,h1,h2,hk=>by
  show bindC kindOf ((p,w)::P.zip vs) m x=_;unfold bindC;exact Wb (i:=i) (List.nodup_cons.mp nd).2 (by simpa using h1) (by simpa using h2) hk
def start(N:List Str)(vs:List V):St:=vs.map some++List.replicate (N.length - vs.length) none
def jU(CX:qN)(P:Program)(w:World)(K:W.Frag)(mg:Str ->Option Value)(base:Heap)(N:List Str)(qual:Str)(scope:Scope)(f:Addr)(cd:Value)(A:Around)(outer:List Env)(s:Shared)(H:Hp)(E:XK):Cx where
 prog:=P
 w:=w
 K:=K
 mg:=mg
 base:=base
 A:=A.deeper (envOfC qual scope s.heap.objs.size f cd)
 N:=N
 s₀:=s
 H₀:=H
 env:=envOfC qual scope s.heap.objs.size f cd
 outer:=outer
 stack:=envOfC qual scope s.heap.objs.size f cd::outer
 ex:= []
 calm:=true
 fn:=fun _=>true
 pn:= []
 xe:=fun e s' =>wpAny (model P w) (A.deeper (envOfC qual scope s.heap.objs.size f cd)) (leaving (envOfC qual scope s.heap.objs.size f cd) e) (fun _ s'' =>CX outer H s E e s'') (fun e' s'' =>CX outer H s E e' s'') s'
theorem Wc{sc:Scope}{n:Nat}{x:Str}(h:sc.names.lookup x=some .cell):∃c,(cellsFrom n sc.names []).lookup x=some c:=by
 have q:=W.cellsFrom_some sc.names n [] (.inl h);exact Option.isSome_iff_exists.mp q
theorem ztq{CX:qN}{P:Program}{w:World}{K:W.Frag}{mg:Str ->Option Value}{base:Heap}{N ps:List Str}{qual:Str}{scope:Scope}{f:Addr}{cd:Value}{A:Around}{outer:List Env}{s s1:Shared}{H:Hp}{E:XK}{us:List Value}{vs:List V}
  (S:aA N ps scope) (hd:A.handled=none) (e0:vp P w K mg base A outer s H) (hl:vs.length=ps.length) (r:Vals vs us)
  (x:InCallC s s.heap.objs.size (bindL (envOfC qual scope s.heap.objs.size f cd).kindOf (ps.zip us) fun _=>none) (cellsFrom (s.heap.objs.size+1) scope.names []) (bindC (envOfC qual scope s.heap.objs.size f cd).kindOf (ps.zip us) fun _=>none) s1):
  Inv (jU CX P w K mg base N qual scope f cd A outer s H E) [] (start N vs) H s1:=by
 have hpl:ps.length<=N.length:=by have:=congrArg List.length S.pre;rw[List.length_take] at this;omega
 obtain⟨h1,tk,rfl,hk⟩:=x.done;have DN:∀b:Addr,b∉ (jU CX P w K mg base N qual scope f cd A outer s H E).ex:=fun b z=>absurd (show b∈ ([]:List Addr) from z) (by simp)
 refine⟨⟨e0.mod,S.kind,rfl,rfl,zO _,fun y z c h1 h2=> ?_,fun y hy=> ?_,fun y c _ h=> ?_,fun _=>hd,Around.frames_deeper e0.frames,.inr ⟨rfl,rfl⟩,fun b z=>absurd z (DN b),e0.bs,e0.Ar,fun b _ _=>DN b,fun b z=>absurd z (DN b),e0.funs,e0.Dd⟩,
  rfl,e0.bare,Un.kept hk,⟨_,x.toInCall.ns,fun i y v h1 h2 h3=> ?_⟩,fun y c h=>⟨_,x.cell y c h⟩,e0.hok.fresh (zO _),fun y c h=> ?_,fun p hp=>absurd (show p∈ ([]:bC) from hp) (by simp),e0.hok.kept hk,?_⟩
 ·exact name_of_addr x.apart (PySem.mem_of_lookup h1) (PySem.mem_of_lookup h2)
 ·have hy:scope.names.lookup y=some .cell\/scope.names.lookup y=some .free:=hy;rcases hy with hy | hy
  ·exact Wc hy
  ·exact absurd rfl (S.nofree _ (PySem.mem_of_lookup hy))
 ·exact Nat.le_of_lt (x.above y c (PySem.mem_of_lookup h))
 ·have hi:i<vs.length:=by
   unfold start at h2;by_cases hi:i<vs.length
   ·exact hi
   ·rw[List.getElem?_append_right (by simpa using hi)] at h2
    rw[List.getElem?_replicate] at h2;split at h2<;>cases h2
  have ha:vs[i]?=some v:=by
   unfold start at h2;rw[List.getElem?_append_left (by simpa using hi),List.getElem?_map] at h2
   cases e:vs[i]? with
   | none=>rw[e] at h2;cases h2
   | some a=>rw[e] at h2;cases h2;rfl
  obtain⟨u,hu,rv⟩:=r.get ha;have hp:ps[i]?=some y:=by
   rw[<- S.pre,List.getElem?_take_of_lt (by omega)];exact h1
  have Wd:ps.Nodup:=by rw[<- S.pre];exact S.nd.sublist (List.take_sublist _ _)
  refine⟨u,rv,?_⟩;rcases S.par y (zB hp) with k | k
  ·exact .inl ⟨k,Wa Wd hp hu k⟩
  ·obtain⟨c,e⟩:=Wc (n:=s.heap.objs.size+1) k;refine .inr ⟨.inl k,c,e,?_⟩;have q:=x.cell y c e;rw[Wb Wd hp hu (by show scope.names.lookup y≠_;rw[k];decide)] at q
   exact q
 ·exact e0.hok.fresh (Nat.le_of_lt (x.above y c (PySem.mem_of_lookup h)))
 ·unfold start;show _=N.length;rw[List.length_append,List.length_map,List.length_replicate];omega
theorem Wf{CX:qN}{P:Program}{w:World}{K:W.Frag}{mg:Str ->Option Value}{base:Heap}{k:Nat}{f:Addr}{name qual:Str}{params:Arguments}{body:List Stmt}{scope:Scope}{dV kV doc pm cdv ct oc:Value}{an od:Option Addr}
  {osl:Array (Option Value)} {N ps:List Str} {sp:Sp} (lk:K.lookup f=some ⟨oc,od,.func (W.fnOf name qual params body scope dV kV doc pm an cdv ct),osl⟩) (hcd:W.codeIn K cdv qual=true) (S:aA N ps scope)
  (len:∀vs H Q E,sp vs H Q E ->vs.length=ps.length)
  (hbody:∀(A:Around) (outer:List Env) (s:Shared) (H:Hp) (vs:List V) (Q:VK) (E:XK),eG k (A.deeper (envOfC qual scope s.heap.objs.size f cdv)) ->sp vs H Q E ->
   ∃t,rP (jU CX P w K mg base N qual scope f cdv A outer s H E) body t/\t {nx:=fun _ H' =>Q .non H',rt:=Q} (start N vs) H):
  d7 P w K mg base CX (k+1) f (W.fnOf name qual params body scope dV kV doc pm an cdv ct) ps sp:=by
 refine⟨len,fun A outer s H args us vs Q E hr e0 hb r hsp=> ?_⟩;have hl:=len _ _ _ _ hsp;have KX:K.In s.heap:=e0.mod.Dc.keeps fun b o e=>(e0.bs b o e).1;have lim:s.heap.NoLimit:=e0.mod.nolimit.keeps fun b o e=>(e0.bs b o e).1;have hkind:∀y∈ps.zip us,scope.names.lookup y.1=some .local\/ (scope.names.lookup y.1=some .cell/\ ((cellsFrom (s.heap.objs.size+1) scope.names []).lookup y.1).isSome=true):=fun⟨n,v⟩ hy=>by
  rcases S.par n (List.of_mem_zip hy).1 with q | q
  ·exact .inl q
  ·exact .inr ⟨q,W.cellsFrom_some _ _ _ (.inl q)⟩
 refine codeAny_call_function hr.depth (KX _ _ lk) rfl S.co S.gen rfl (W.codeRec_of KX hcd) (hb _ _ _ _ ?_);refine wpAny_newFunctionEnv_cells S.kind hkind fun env he s1 x=> ?_;subst he;refine⟨lim.keeps x.toInCall.keep,codeAny_func ?_⟩;obtain⟨t,ht,hq⟩:=hbody A outer s H vs Q E (hr.deeper _) hsp;have I:Inv (jU CX P w K mg base N qual scope f cdv A outer s H E) [] (start N vs) H s1:=ztq S hr.hd e0 hl r x;refine wpAny_mono (ht [] s1 (start N vs) H _ I hq) (fun fl s' hs=> ?_) fun e s' hs=>hs;have fin:∀{σ' :St} {H' :Hp} {v:V} {u:Value},Inv (jU CX P w K mg base N qual scope f cdv A outer s H E) [] σ' H' s' ->RelV v u ->Q v H' ->CE outer P w H s Q u s' :=
  fun{σ' H' v u} J rv q=>⟨v,H',J.os,J.bare,J.base,J.hok,rv,q⟩
 cases fl with
 | ret u=>
  obtain⟨v,σ',H',J,rv,q⟩:=hs;exact fin J rv q
 | next=>
  obtain⟨σ',H',J,q⟩:=hs;exact fin (v:=V.non) (u:=Value.none) J rfl q
 | brk=>
  obtain⟨_,_,_,q⟩:=hs;exact False.elim q
 | cont=>
  obtain⟨_,_,_,q⟩:=hs;exact False.elim q
section
variable{X:Cx}{x:Str}{p pos:Pos}{e:Expr}{es:List Expr}{t:TA}{id T:String}{r:List V ->Hp ->VK ->Prop}
def DP(r:List V ->Hp ->VK ->Prop)(t:TA):TE:=fun σ H Q=>t σ H fun vs H1=>r vs H1 Q
theorem Jt(hc:cH X (.builtin id) r)(hg:Gl X x)(hm:X.mg x=none)(hv:bootBuiltins x=some (.builtin id))(ha:PA X (e::es) t)(hn:x≠ "__name__" :=by decide)(hdb:(x==("__debug__" :Str))=false:=by decide)
  (he:starEach (e::es) X.env=(false,eval e X.env)::starEach es X.env:=by rfl) (hpl:(backTo pos (starEach es X.env)).any (·.1)=false:=by rfl):PE X (.Call (.Name x p) (e::es) [] pos) (DP r t):=by
 intro pins s σ H Q I h;refine wpAny_Call_Name_kw (vh I hg hm hv ?_ hn hdb);exact PyProof.Rows.callWith_builtin1 (bK (ha pos pins s σ H _ I h) fun us s1 Nq=>by obtain⟨vs,H1,I1,r1,q1⟩:=Nq;exact hc pins s1 σ H1 vs us Q I1 r1 q1) he hpl
theorem Nr(hc:cH X (.type T) r)(hg:Gl X x)(hm:X.mg x=none)(hv:bootBuiltins x=some (.type T))(ha:PA X (e::es) t)(hn:x≠ "__name__" :=by decide)(hdb:(x==("__debug__" :Str))=false:=by decide)
  (he:starEach (e::es) X.env=(false,eval e X.env)::starEach es X.env:=by rfl) (hpl:(backTo pos (starEach es X.env)).any (·.1)=false:=by rfl):PE X (.Call (.Name x p) (e::es) [] pos) (DP r t):=by
 intro pins s σ H Q I h;refine wpAny_Call_Name_kw (vh I hg hm hv ?_ hn hdb);exact PyProof.Rows.callWith_type1 (bK (ha pos pins s σ H _ I h) fun us s1 Nt=>by obtain⟨vs,H1,I1,r1,q1⟩:=Nt;exact hc pins s1 σ H1 vs us Q I1 r1 q1) he hpl
end
end L2
namespace HT
open PySem PyProof.Rows
def lexLt:List Int ->List Int ->Bool
 | [],[]=>false
 | [],_::_=>true
 | _::_,[]=>false
 | x::xs,y::ys=>if x=y then lexLt xs ys else decide (x<y)
section
open PySem.SeqAt
open PySem.AutoSeq1 (wpAny_loadPart')
open PySem.MeetsSeq PySem.MeetsSeq2 PySem.MeetsSeq3
end
section
variable{prog:Program}{w:World}{A:Around}{E:bJ}{s:Shared}
def sIx(n d:Nat):Option Int ->Nat
 | none=>d
 | some v=>if v<0 then(v+ (n:Int)).toNat else min v.toNat n
theorem z4m(n d:Nat)(hd:d<=n)(o:Option Int):sIx n d o<=n:=by
 cases o with
 | none=>exact hd
 | some v=>
  show(if v<0 then(v+ (n:Int)).toNat else min v.toNat n)<=n;by_cases hv:v<0
  ·rw[if_pos hv];omega
  ·rw[if_neg hv];exact Nat.min_le_right _ _
theorem Wg(v:Int)(n d:Nat):(if v<0 then max (v+ (n:Int)) 0 else min v (n:Int))=((sIx n d (some v):Nat):Int):=by
 show(if v<0 then max (v+ (n:Int)) 0 else min v (n:Int))=(((if v<0 then(v+ (n:Int)).toNat else min v.toNat n):Nat):Int);by_cases hv:v<0
 ·simp only [if_pos hv];omega
 ·simp only [if_neg hv];omega
theorem zrv(lo hi:Option Int)(n:Nat):Builtin.Slice.sliceAdjust lo hi 1 (n:Int)=(((sIx n 0 lo:Nat):Int),((sIx n n hi:Nat):Int)):=by
 have h1:¬((1:Int)<0):=by omega
 unfold Builtin.Slice.sliceAdjust;simp only [h1,if_false];refine Prod.ext ?_ ?_
 ·cases lo with
  | none=>rfl
  | some v=>exact Wg v n 0
 ·cases hi with
  | none=>rfl
  | some v=>exact Wg v n n
theorem zsf(i j:Nat):Builtin.Slice.slicePlaces (i:Int) (j:Int) 1=j - i:=by
 unfold Builtin.Slice.slicePlaces;have h1:(1:Int)>0:=by omega
 simp only [h1,if_true,Int.ediv_one];split<;>omega
theorem Wh{v:Value}{o:Option Int}{Q:Option Int ->Shared ->Prop}(p:IsPart v o)(h:Q o s):wpAny (model prog w) A (Builtin.Slice.slicePartIndex v) Q E s:=by
 cases p with
 | none=>exact slicePart_none h
 | int i t=>exact slicePart_int h
theorem zhc{sl:Addr}{vl vu:Value}{lo hi:Option Int}{n:Nat}{Q:Int×Int×Nat ->Shared ->Prop}(hs:s.heap.IsSliceOf sl vl vu .none)(pl:IsPart vl lo)(pu:IsPart vu hi)
  (h:Q (((sIx n 0 lo:Nat):Int),1,sIx n n hi - sIx n 0 lo) s):wpAny (model prog w) A (Builtin.Slice.sliceApplied (.ref sl) (pure (n:Int))) Q E s:=by
 obtain⟨os,hos,hcs,hds⟩:=id hs;unfold Builtin.Slice.sliceApplied Builtin.Slice.sliceFields;refine z6 (z6 (wpAny_field hos hds (x:=vl) rfl (z6 (wpAny_field hos hds (x:=vu) rfl (z6 (wpAny_field hos hds (x:= .none) rfl (z7 ?_)))))));refine z6 (slicePart_none ?_);show wpAny _ _ (if ((1:Int)==0)=true then _ else _) _ _ s;rw[if_neg (by decide)]
 refine z6 (Wh pl (z6 (Wh pu (z6 (z7 ?_)))));show wpAny _ _ (match Builtin.Slice.sliceAdjust lo hi 1 (n:Int) with | (lo,hi)=>pure (lo,(1:Int),Builtin.Slice.slicePlaces lo hi 1)) _ _ s
 rw[zrv lo hi n];show wpAny _ _ (pure (((sIx n 0 lo:Nat):Int),(1:Int),Builtin.Slice.slicePlaces ((sIx n 0 lo:Nat):Int) ((sIx n n hi:Nat):Int) 1)) _ _ s;rw[zsf];exact z7 h
theorem zxg(xs:Array Value)(i k:Nat):((List.range k).filterMap fun(m:Nat)=>xs[((i:Int)+ (m:Int)*1).toNat]?).toArray=((xs.toList.drop i).take k).toArray:=by
 have e:(fun(m:Nat)=>xs[((i:Int)+ (m:Int)*1).toNat]?)=fun m=>xs[i+m]?:=by
  funext m
  have:((i:Int)+ (m:Int)*1).toNat=i+m:=by omega
  rw[this]
 rw[e];have:=pick_run xs i k;rw[List.filterMap_map] at this;have e2:((fun x=>xs[x]?) ∘ fun x=>i+x)=fun m=>xs[i+m]?:=rfl;rw[e2] at this;rw[this]
theorem getItem_tuple_cut{t sl:Addr}{items:Array Value}{vl vu:Value}{lo hi:Option Int}{Q:bJ}(ht:IsTup s.heap t items)(hs:s.heap.IsSliceOf sl vl vu .none)(pl:IsPart vl lo)(pu:IsPart vu hi)
  (hw:¬(sIx items.size 0 lo=0/\sIx items.size items.size hi=items.size))
  (h:Q (.ref s.heap.objs.size) {s with heap:=s.heap.push {cls:= .type "tuple",data:= .seq ((items.toList.drop (sIx items.size 0 lo)).take (sIx items.size items.size hi - sIx items.size 0 lo)).toArray}})
  (hsz:items.size<=sizeLine):wpAny (model prog w) A (getItem (.ref t) (.ref sl)) Q E s:=by
 have qg:sizeOk (.seq ((items.toList.drop (sIx items.size 0 lo)).take (sIx items.size items.size hi - sIx items.size 0 lo)).toArray):=by
  show((items.toList.drop (sIx items.size 0 lo)).take (sIx items.size items.size hi - sIx items.size 0 lo)).toArray.size<=sizeLine;rw[List.size_toArray,List.length_take,List.length_drop,Array.length_toList];omega
 have hj:sIx items.size items.size hi<=items.size:=z4m _ _ (zO _) hi;obtain⟨os,hos,hcs,hds⟩:=id hs;have hTs:s.TypeIs (.ref sl) "slice" :=⟨os,hos,hcs⟩;unfold getItem
 try with_reducible refine wpAny_holding ?_
 first | refine z6 (z7 ?_) | skip
 refine z6 (wpAny_sequenceKey ht.typeIs (by decide) ?_)
 refine z6 (wpAny_callSpecial?_slot (name:=Str.ofString "__getitem__") ht.typeIs PyProof.Rows.slot_tuple_getitem
  (wpAny_call_entry PyProof.Rows.slot_tuple_getitem ht.typeIs entry_tuple_getitem ?_ (args_tuple_getitem _ _)))
 show wpAny _ _ (Builtin.Tuple.tupleItemsOf (.ref t)>>=_) _ _ s;refine z6 (tupleItemsOf_ ht ?_);refine z6 (wpAny_typeOf hTs ?_);rw[if_pos (by decide)]
 refine z6 (zhc hs pl pu ?_);have hno:¬((((sIx items.size 0 lo:Nat):Int)==0&&(1:Int)==1&&(sIx items.size items.size hi - sIx items.size 0 lo)==items.size)=true):=by
  intro q;rw[Bool.and_eq_true,Bool.and_eq_true] at q;have q1:((sIx items.size 0 lo:Nat):Int)=0:=eq_of_beq q.1.1;have q2:sIx items.size items.size hi - sIx items.size 0 lo=items.size:=eq_of_beq q.2;exact hw ⟨by omega,by omega⟩
 show wpAny _ _ (if (((sIx items.size 0 lo:Nat):Int)==0&&(1:Int)==1&&(sIx items.size items.size hi - sIx items.size 0 lo)==items.size)=true then _ else _) _ _ s;rw[if_neg hno,zxg]
 first
  | exact z6 (m:=Builtin.Tuple.tupleExact _) (wpAny_newObj_type (z7 ⟨_,rfl,z7 h⟩) qg)
  | exact z6 (m:=Builtin.Tuple.tupleExact _) (wpAny_newObj_type (z6 (z7 (z7 ⟨_,rfl,z7 h⟩))) qg)
  | exact z6 (z6 (m:=Builtin.Tuple.tupleExact _) (wpAny_newObj_type (z7 (z7 ⟨_,rfl,z7 h⟩)) qg))
  | exact z6 (z6 (m:=Builtin.Tuple.tupleExact _) (wpAny_newObj_type (z7 ⟨_,rfl,z7 h⟩) qg))
end
end HT
namespace L2
open PySem PySem.Spec PyProof.Rows
abbrev TO:=St ->Hp ->(Option Int ->Hp ->Prop) ->Prop
def PO(X:Cx)(e:Option Expr)(t:TO):Prop:=
 ∀(pins:bC) (s:Shared) (σ:St) (H:Hp) (Q:Option Int ->Hp ->Prop),Inv X pins σ H s ->t σ H Q ->
  wpAny (model X.prog X.w) X.A (evalPart e X.env) (fun u s' =>∃o H',Inv X pins σ H' s' /\IsPart u o/\Q o H') X.xe s
def z22:TO:=fun _ H Q=>Q none H
def DQ(t:TE):TO:=fun σ H Q=>t σ H fun x H1=>∃i,x= .int i/\Q (some i) H1
section
variable{X:Cx}{e:Expr}{te:TE}{lo hi:Option Expr}{tl th:TO}{pos p2:Pos}
theorem z1h:PO X none z22:=by
 intro pins s σ H Q I h;rw[evalPart_none];exact z7 ⟨none,H,I,.none,h⟩
theorem z17(h:PE X e te):PO X (some e) (DQ te):=by
 intro pins s σ H Q I hw;rw[evalPart_some];refine bK (h pins s σ H _ I hw) fun u s1 Nu=> ?_;obtain⟨x,H1,I1,r1,q1⟩:=Nu;obtain⟨i,rfl,q⟩:=q1;obtain⟨t,rfl⟩:=r1;exact⟨some i,H1,I1,.int i t,q⟩
def Nv(X:Cx)(r:V ->Option Int ->Option Int ->Hp ->VK ->Prop):Prop:=
 ∀(pins:bC) (s:Shared) (σ:St) (H:Hp) (x:V) (v vl vu:Value) (lo hi:Option Int) (sl:Addr) (Q:VK),Inv X pins σ H s ->RelV x v ->s.heap.IsSliceOf sl vl vu .none ->IsPart vl lo ->IsPart vu hi ->r x lo hi H Q ->
  ∃T id,typeLookup (.type T) "__getitem__" =pure (some (.builtin id))/\s.TypeIs v T/\wpAny (model X.prog X.w) X.A (getItem v (.ref sl)) (EP X pins σ Q) X.xe s
def tSl(r:V ->Option Int ->Option Int ->Hp ->VK ->Prop)(te:TE)(tl th:TO):TE:=fun σ H Q=>te σ H fun x H1=>tl σ H1 fun l H2=>th σ H2 fun u H3=>r x l u H3 Q
theorem Wi{r:V ->Option Int ->Option Int ->Hp ->VK ->Prop}(hr:Nv X r)(he:PE X e te)(hl:PO X lo tl)(hu:PO X hi th):PE X (.Subscript e (.Slice lo hi none p2) pos) (tSl r te tl th):=by
 intro pins s σ H Q I h;refine Subscript_ (bK (he pins s σ H _ I h) fun v s1 Nx=> ?_);obtain⟨x,H1,I1,r1,q1⟩:=Nx;refine wpAny_Slice (bK (hl pins s1 σ H1 _ I1 q1) fun vl s2 ⟨l,H2,I2,pl,q2⟩=>bK (hu pins s2 σ H2 _ I2 q2) fun vu s3 ⟨u,H3,I3,pu,q3⟩=> ?_);rw[evalPart_none];refine z7 ?_;have I4:Inv X pins σ H3 {s3 with heap:=s3.heap.push {cls:= .type "slice",data:= .fields #[vl,vu,.none]}}:=I3.kept (t' :=s3.toks) fun b ob q=>z8 _ q;obtain⟨T,id,hT,ht,hg⟩:=hr pins {s3 with heap:=s3.heap.push {cls:= .type "slice",data:= .fields #[vl,vu,.none]}} σ H3 x v vl vu l u s3.heap.objs.size Q I4 r1 (Heap.IsSliceOf.new ..) pl pu q3;show wpAny (model X.prog X.w) X.A (subscriptTail e (.Slice lo hi none p2) v (.ref s3.heap.objs.size)) (EP X pins σ Q) X.xe {s3 with heap:=s3.heap.push {cls:= .type "slice",data:= .fields #[vl,vu,.none]}};exact tail_any (ops:= [.ref s3.heap.objs.size,v]) ht hT hg (by with_unfolding_all rfl)
def m7(xs:List V)(lo hi:Option Int):List V:=(xs.drop (HT.sIx xs.length 0 lo)).take (HT.sIx xs.length xs.length hi - HT.sIx xs.length 0 lo)
theorem Wj(xs:List V)(lo hi:Option Int):(m7 xs lo hi).length<=xs.length:=by
 unfold m7;rw[List.length_take,List.length_drop];omega
def Ny(K:W.Frag):V ->Option Int ->Option Int ->Hp ->VK ->Prop:=fun x lo hi H Q=>∃a xs,x= .ref a/\iY K H a xs/\
 ¬(HT.sIx xs.length 0 lo=0/\HT.sIx xs.length xs.length hi=xs.length)/\∀p,H p=none ->Q (.ref p) (upd H p (.tup (m7 xs lo hi)))
theorem z5a:Nv X (Ny X.K):=by
 intro pins s σ H x v vl vu lo hi sl Q I rx hs pl pu h;obtain⟨a,xs,rfl,hx,hw,q⟩:=h;cases rx;obtain⟨its,r,ht,hz⟩:=I.tuple hx;have hlen:its.toArray.size=xs.length:=by rw[List.size_toArray];exact r.length.symm
 refine⟨"tuple",_,PyProof.Rows.slot_tuple_getitem.lookup,ht.typeIs,?_⟩;refine HT.getItem_tuple_cut ht hs pl pu (by rw[hlen];exact hw) ?_ (by rw[hlen];exact hz)
 rw[hlen];refine⟨.ref s.heap.objs.size,_,I.laid (t' :=s.toks) (o:= .tup (m7 xs lo hi)) (fun b ob q=>z8 _ q) (zO _) ?_,rfl,q _ (I.hok.fresh (zO _))⟩;exact⟨zP (Wj xs lo hi) hz,_,(r.drop (HT.sIx xs.length 0 lo)).take (HT.sIx xs.length xs.length hi - HT.sIx xs.length 0 lo),IsTup.new _ _⟩
def aaC(K:W.Frag):R2:=fun x y H Q=>∃a b ns ms,x= .ref a/\y= .ref b/\iY K H a (ns.map V.int)/\iY K H b (ms.map V.int)/\Q (.bl (HT.lexLt ns ms)) H
def Wk(K:W.Frag):R2:=fun x y H Q=>∃a b xs ys,x= .ref a/\y= .ref b/\iY K H a xs/\iY K H b ys/\xs≠ []/\xs.length+ys.length<=sizeLine/\
 (ys= [] ->Q (.ref a) H)/\ (ys≠ [] ->∀p,H p=none ->Q (.ref p) (upd H p (.tup (xs++ys))))
end
def qO(n:Nat)(i:Int):Option Nat:=if 0<=i then(if i<n then some i.toNat else none) else if -(n:Int)<=i then some (i+n).toNat else none
def jl{α:Type}(xs:List α)(i:Int):Option α:=(qO xs.length i).bind fun j=>xs[j]?
theorem Wl{n:Nat}{i:Int}{j:Nat}(h:qO n i=some j):seqIndex? i n=some j/\j<n/\ -(n:Int)<=i/\i<n:=by
 unfold qO at h;by_cases h0:0<=i
 ·rw[if_pos h0] at h;by_cases h1:i<n
  ·rw[if_pos h1] at h;have e:i.toNat=j:=zH h;exact⟨by rw[seqIndex_of h0 h1,e],by omega,by omega,h1⟩
  ·rw[if_neg h1] at h;cases h
 ·rw[if_neg h0] at h;by_cases h1: -(n:Int)<=i
  ·rw[if_pos h1] at h;have e:(i+n).toNat=j:=zH h;exact⟨by rw[seqIndex_neg (by omega) h1,e],by omega,h1,by omega⟩
  ·rw[if_neg h1] at h;cases h
theorem Nz{α:Type}{xs:List α}{i:Int}{v:α}(h:jl xs i=some v):∃j,seqIndex? i xs.length=some j/\xs[j]?=some v/\j<xs.length/\ -(xs.length:Int)<=i/\i<xs.length:=by
 unfold jl at h;cases e:qO xs.length i with
 | none=>rw[e] at h;cases h
 | some j=>
  rw[e] at h;obtain⟨h1,h2,h3,h4⟩:=Wl e;exact⟨j,h1,h,h2,h3,h4⟩
theorem uQ{α:Type}{xs:List α}{j:Nat}{v:α}(h:xs[j]?=some v):jl xs (j:Int)=some v:=by
 have hj:j<xs.length:=(zW.mp h).1;have e:qO xs.length (j:Int)=some j:=by
  unfold qO;rw[if_pos (by omega),if_pos (by omega)];simp
 unfold jl;rw[e];exact h
def Wm(b:Expr):Prop:=∀o i,subscripted b false o i=operate [o,i] (getItem o i)
def Ju(X:Cx)(r:R2):Prop:=
 ∀(value slice:Expr) (pins:bC) (s:Shared) (σ:St) (H:Hp) (x y:V) (v u:Value) (Q:VK),Inv X pins σ H s ->RelV x v ->RelV y u ->r x y H Q ->
  subscripted slice false v u=operate [v,u] (getItem v u) ->wpAny (model X.prog X.w) X.A (subscriptTail value slice v u) (EP X pins σ Q) X.xe s
def MtR(X:Cx)(id:String)(r:V ->List V ->Hp ->VK ->Prop):Prop:=
 ∀(pins:bC) (s:Shared) (σ:St) (H:Hp) (x:V) (xs:List V) (v:Value) (us:List Value) (Q:VK),Inv X pins σ H s ->RelV x v ->Vals xs us ->r x xs H Q ->
  wpAny (model X.prog X.w) X.A (call (.builtin id) (v::us)) (EP X pins σ Q) X.xe s
section
variable{X:Cx}{a b:Expr}{ta tb:TE}{pos:Pos}
theorem z6o{r:R2}(hr:Ju X r)(ha:PE X a ta)(hb:PE X b tb)(hs:Wm b):PE X (.Subscript a b pos) (Dv r ta tb):=by
 intro pins s σ H Q I h;exact Subscript_ (yd ha hb I h fun v u s2 x y H2 I2 rx ry q=>hr a b pins s2 σ H2 x y v u Q I2 rx ry q (hs _ _))
def DR(K:W.Frag):R2:=fun x y H Q=>∃p xs i v,x= .ref p/\y= .int i/\fM K H p xs/\jl xs i=some v/\Q v H
def DW(K:W.Frag):R2:=fun x y H Q=>∃p xs i v,x= .ref p/\y= .int i/\iY K H p xs/\jl xs i=some v/\Q v H
def DX:R2:=fun x y H Q=>∃z i c,x= .str z/\y= .int i/\z.length<=sizeLine/\jl z.cps.toList i=some c/\Q (.str ⟨#[c]⟩) H
theorem z1q:Ju X (DR X.K):=by
 intro value slice pins s σ H x y v u Q I rx ry h hs;obtain⟨p,xs,i,z,rfl,rfl,hq,he,q⟩:=h;cases rx;obtain⟨t,rfl⟩:=ry;obtain⟨its,r,pl,hz⟩:=I.list hq;obtain⟨j,h1,h2,h3,h4,h5⟩:=Nz he;obtain⟨w,ew,lV⟩:=r.get h2;have hl:=r.length;have hn:=jr;have fin:EP X pins σ Q w s:=⟨z,H,I,lV,q⟩;by_cases h0:0<=i
 ·have hj:i.toNat=j:=by
   rw[seqIndex_of h0 h5] at h1;exact zH h1
  exact item_listR pl.isList h0 (by omega) (by rw[hj];simpa using ew) fin hs
 ·have hj:(i+ (its.toArray.size:Int)).toNat=j:=by
   rw[seqIndex_neg (by omega) h4] at h1
   rw[List.size_toArray,<- hl];exact zH h1
  exact subscriptTail_builtinR (x:=w) pl.isList.typeIs slot_list_getitem.lookup
   (wpAny_getItem_list_neg (Q:=fun r s' =>r=w/\EP X pins σ Q r s') pl.isList (by omega) (by rw[List.size_toArray]<;>omega) (by omega) (by rw[hj];simpa using ew) ⟨rfl,fin⟩) hs
theorem z3g:Ju X (DW X.K):=by
 intro value slice pins s σ H x y v u Q I rx ry h hs;obtain⟨p,xs,i,z,rfl,rfl,hq,he,q⟩:=h;cases rx;obtain⟨t,rfl⟩:=ry;obtain⟨its,r,pl,hz⟩:=I.tuple hq;obtain⟨j,h1,h2,h3,h4,h5⟩:=Nz he;obtain⟨w,ew,lV⟩:=r.get h2;have hl:=r.length;have hn:=jr;have fin:EP X pins σ Q w s:=⟨z,H,I,lV,q⟩;exact subscriptTail_builtinR (x:=w) pl.typeIs slot_tuple_getitem.lookup
  (getItem_tuple (j:=j) (Q:=fun r s' =>r=w/\EP X pins σ Q r s') pl (by omega) (by omega) (by rw[List.size_toArray,<- hl];exact h1) (by simpa using ew) ⟨rfl,fin⟩) hs
theorem z47:Ju X DX:=by
 intro value slice pins s σ H x y v u Q I rx ry h hs;obtain⟨z,i,c,rfl,rfl,hz,he,q⟩:=h;obtain⟨t,rfl⟩:=rx;obtain⟨t',rfl⟩:=ry;obtain⟨j,h1,h2,h3,h4,h5⟩:=Nz he;have hl:z.cps.toList.length=z.length:=by simp [Str.length]
 rw[hl] at h1 h4 h5;have hn:=jr;exact tail_any (typeIs_str s z t) slot_str_getitem.lookup (getItem_str (c:=c) (by
  have e1:decide (i< -(2^63:Int))=false:=decide_eq_false (by omega)
  have e2:decide (i≥2^63)=false:=decide_eq_false (by omega)
  rw[e1,e2,Bool.or_false]) (by rw[h1];simpa using h2) ⟨.str ⟨#[c]⟩,H,I.tok _,⟨_,rfl⟩,q⟩) hs
def rIx(K:W.Frag):R2:=fun x y H Q=>DR K x y H Q\/DW K x y H Q\/DX x y H Q
theorem zr6(its:List Value)(n j:Nat)(u:Value):Obj.mapSeq (·.setIfInBounds j u) {cls:= .type "list",data:= .seq its.toArray n}={cls:= .type "list",data:= .seq (its.set j u).toArray n}:=by
 simp [Obj.mapSeq]
theorem Inv.lst{pins:bC}{σ:St}{H:Hp}{s:Shared}{p:Addr}{xs:List V}(I:Inv X pins σ H s)(h:H p=some (.lst xs)):
  ∃(its:List Value) (n:Nat),Vals xs its/\s.heap.get? p=some {cls:= .type "list",data:= .seq its.toArray n}/\xs.length<=sizeLine:=by
 obtain⟨z,its,n,r,e⟩:=I.hok p _ h;exact⟨its,n,r,e,z⟩
theorem Inv.lstUpd{pins:bC}{σ:St}{H:Hp}{s:Shared}{p:Addr}{xs ys:List V}{its its' :List Value}{n n' :Nat}{f:Obj ->Obj}(I:Inv X pins σ H s)(h:H p=some (.lst xs))
  (ho:s.heap.get? p=some {cls:= .type "list",data:= .seq its.toArray n}) (hf:f {cls:= .type "list",data:= .seq its.toArray n}={cls:= .type "list",data:= .seq its'.toArray n'}) (r:Vals ys its') (hz:ys.length<=sizeLine) (t:Nat):
  Inv X pins σ (upd H p (.lst ys)) {s with heap:=s.heap.update p f,toks:=t}:=by
 have e:(s.heap.update p f).get? p=some {cls:= .type "list",data:= .seq its'.toArray n'}:=by
  rw[Heap.get?_update_self f ho (by rw[hf]<;>rfl),hf]
 refine I.write (x:=p) (e:=p) (by rw[h];trivial) (.inl rfl) (fun b u hb q=>(Heap.get?_update_other _ _ (Ne.symm hb)).trans q) ⟨_,e⟩ ?_
 exact⟨hz,its',n',r,e⟩
def DY:V ->V ->V ->Hp ->(Hp ->Prop) ->Prop:=fun o i v H Q=>∃p xs k j,o= .ref p/\i= .int k/\H p=some (.lst xs)/\qO xs.length k=some j/\Q (upd H p (.lst (xs.set j v)))
theorem zzk:Dq X DY:=by
 intro pins s σ H o i v ov iv u Q I ro ri rv h;obtain⟨p,xs,k,j,rfl,rfl,hp,hj,q⟩:=h;cases ro;obtain⟨t,rfl⟩:=ri;obtain⟨its,n,r,ho,hz⟩:=I.lst hp;obtain⟨h1,h2,h3,h4⟩:=Wl hj;have hl:=r.length;have hn:=jr;have I' :Inv X pins σ (upd H p (.lst (xs.set j v))) {s with heap:=s.heap.update p (Obj.mapSeq (·.setIfInBounds j u))}:=
  I.lstUpd hp ho (zr6 its n j u) (r.set rv j) (by rw[List.length_set];exact hz) s.toks
 by_cases h0:0<=k
 ·have hk:k.toNat=j:=by
   rw[seqIndex_of h0 h4] at h1;exact zH h1
  exact W.ki_setAt ho h0 (by omega) (by rw[List.size_toArray,<- hl];exact h4) (by rw[hk];exact⟨_,I',q⟩)
 ·have hk:(k+ (its.toArray.size:Int)).toNat=j:=by
   rw[seqIndex_neg (by omega) h3] at h1
   rw[List.size_toArray,<- hl];exact zH h1
  exact W.ki_setBack ho (by omega) (by rw[List.size_toArray,<- hl];exact h3) (by omega) (by rw[hk];exact⟨_,I',q⟩)
theorem znh(lo hi:Option Int)(n:Nat):(sliceBounds lo hi none n).1=((HT.sIx n 0 lo:Nat):Int)/\ (sliceBounds lo hi none n).2.1=((HT.sIx n n hi:Nat):Int)/\ (sliceBounds lo hi none n).2.2=1:=by
 refine⟨?_,?_,rfl⟩
 ·cases lo with
  | none=>simp [sliceBounds,HT.sIx]
  | some i=>
   simp only [sliceBounds,HT.sIx,Option.getD_none,show(1:Int)>0 by decide,if_true]
   by_cases h:i<0
   ·simp only [h,if_true]<;>omega
   ·simp only [h,if_false]<;>omega
 ·cases hi with
  | none=>simp [sliceBounds,HT.sIx]
  | some i=>
   simp only [sliceBounds,HT.sIx,Option.getD_none,show(1:Int)>0 by decide,if_true]
   by_cases h:i<0
   ·simp only [h,if_true]<;>omega
   ·simp only [h,if_false]<;>omega
theorem zlh(its:List Value)(lo hi:Option Int):slicePick its.toArray lo hi none=((its.drop (HT.sIx its.length 0 lo)).take (HT.sIx its.length its.length hi - HT.sIx its.length 0 lo)).toArray:=by
 obtain⟨h1,h2,h3⟩:=znh lo hi its.toArray.size;unfold slicePick;rw[h1,h2,h3];simp only [sliceRange_one,pick_run,List.size_toArray]<;>rfl
def NK(K:W.Frag):V ->Option Int ->Option Int ->Hp ->VK ->Prop:=fun x lo hi H Q=>∃a xs,x= .ref a/\fM K H a xs/\∀p,H p=none ->Q (.ref p) (upd H p (.lst (m7 xs lo hi)))
theorem z3b:Nv X (NK X.K):=by
 intro pins s σ H x v vl vu lo hi sl Q I rx hs pl pu h;obtain⟨a,xs,rfl,hx,q⟩:=h;cases rx;obtain⟨its,r,ht,hz⟩:=I.list hx;have hlen:=r.length;refine⟨"list",_,slot_list_getitem.lookup,ht.isList.typeIs,?_⟩;refine wpAny_getItem_list_slice ht.isList hs pl pu .none (by simp) ?_ (by rw[List.size_toArray]<;>omega)
 rw[zlh,<- hlen];refine⟨.ref s.heap.objs.size,_,I.laid (t' :=s.toks) (o:= .lst (m7 xs lo hi)) (fun b ob q=>z8 _ q) (zO _) ?_,rfl,q _ (I.hok.fresh (zO _))⟩;exact⟨zP (Wj xs lo hi) hz,_,0,(r.drop (HT.sIx xs.length 0 lo)).take (HT.sIx xs.length xs.length hi - HT.sIx xs.length 0 lo),z9 _ rfl⟩
def iw:V ->Bool
 | .non=>true
 | .bl _=>true
 | .int _=>true
 | .str _=>true
 | _=>false
def vq:V ->V ->Bool
 | .non,.non=>true
 | .bl a,.bl b=>a==b
 | .bl a,.int b=>(if a then 1 else 0)==b
 | .int a,.bl b=>a==(if b then 1 else 0)
 | .int a,.int b=>a==b
 | .str a,.str b=>a==b
 | _,_=>false
theorem z48{A:Around}{s:Shared}{y x:V}{u v:Value}(ry:RelV y u)(rx:RelV x v)(fy:iw y=true)(fx:iw x=true):SeqAt.EqAt A s u v (vq y x):=by
 cases y with
 | non=>
  cases ry;cases x with
  | non=>cases rx;exact SeqAt.EqAt.same _
  | bl b=>cases rx;exact SeqAt.EqAt.none_bool b
  | int b=>obtain⟨t,rfl⟩:=rx;exact SeqAt.EqAt.none_int b t
  | str b=>obtain⟨t,rfl⟩:=rx;exact SeqAt.EqAt.none_str b t
  | _=>exact absurd (show false=true from fx) zK
 | bl a=>
  cases ry;cases x with
  | non=>cases rx;exact SeqAt.EqAt.bool_none a
  | bl b=>cases rx;exact SeqAt.EqAt.bool_bool a b
  | int b=>obtain⟨t,rfl⟩:=rx;exact SeqAt.EqAt.bool_int a b t
  | str b=>obtain⟨t,rfl⟩:=rx;exact SeqAt.EqAt.bool_str a b t
  | _=>exact absurd (show false=true from fx) zK
 | int a=>
  obtain⟨t',rfl⟩:=ry;cases x with
  | non=>cases rx;exact SeqAt.EqAt.int_none a t'
  | bl b=>cases rx;exact SeqAt.EqAt.int_bool a t' b
  | int b=>obtain⟨t,rfl⟩:=rx;exact SeqAt.EqAt.int_int a t' b t
  | str b=>obtain⟨t,rfl⟩:=rx;exact SeqAt.EqAt.int_str a t' b t
  | _=>exact absurd (show false=true from fx) zK
 | str a=>
  obtain⟨t',rfl⟩:=ry;cases x with
  | non=>cases rx;exact SeqAt.EqAt.str_none a t'
  | bl b=>cases rx;exact SeqAt.EqAt.str_bool a t' b
  | int b=>obtain⟨t,rfl⟩:=rx;exact SeqAt.EqAt.str_int a t' b t
  | str b=>obtain⟨t,rfl⟩:=rx;exact SeqAt.EqAt.str_str a t' b t
  | _=>exact absurd (show false=true from fx) zK
 | _=>exact absurd (show false=true from fy) zK
def vA(x:V)(u:Value):Bool:=match u with
 | .none=>vq .non x
 | .bool b=>vq (.bl b) x
 | .int i _=>vq (.int i) x
 | .str z _=>vq (.str z) x
 | _=>false
theorem Wn{x y:V}{u:Value}(r:RelV y u)(f:iw y=true):vA x u=vq y x:=by
 cases y with
 | non=>cases r;rfl
 | bl b=>cases r;rfl
 | int i=>obtain⟨t,rfl⟩:=r;rfl
 | str z=>obtain⟨t,rfl⟩:=r;rfl
 | _=>exact absurd (show false=true from f) zK
theorem NP{x:V}:∀{xs:List V} {us:List Value},Vals xs us ->xs.all iw=true ->us.any (vA x)=xs.any fun y=>vq y x
 | _,_,.nil,_=>rfl
 | y::xs,u::us,.cons r t,f=>by
  rw[List.all_cons,Bool.and_eq_true] at f;rw[List.any_cons,List.any_cons,Wn r f.1,NP t f.2]
theorem NQ{A:Around}{s:Shared}{x:V}{v:Value}(rx:RelV x v)(fx:iw x=true):∀{xs:List V} {us:List Value},Vals xs us ->xs.all iw=true ->∀u∈us,SeqAt.EqAt A s u v (vA x u)
 | _,_,.nil,_=>fun u hu=>by cases hu
 | y::xs,u::us,.cons r t,f=>fun u' hu=>by
  rw[List.all_cons,Bool.and_eq_true] at f;rcases zV.mp hu with rfl | hu
  ·rw[Wn r f.1];exact z48 r rx f.1 fx
  ·exact NQ rx fx t f.2 u' hu
def inV(x:V)(xs:List V):Bool:=xs.any fun y=>vq y x
def rIn(K:W.Frag)(neg:Bool):R2:=fun x y H Q=>∃p xs,y= .ref p/\ (fM K H p xs\/iY K H p xs)/\iw x=true/\xs.all iw=true/\Q (.bl (if neg then !inV x xs else inV x xs)) H
theorem Wo:iu X (compareOp .In) (rIn X.K false):=by
 intro pins s σ H x y v u Q I rx ry h;obtain⟨p,xs,rfl,hq,fx,fs,q⟩:=h;cases ry;rcases hq with hq | hq
 ·obtain⟨its,r,pl,hz⟩:=I.list hq;refine SeqAt.in_listAt (vA x) pl.isList (fun w hw=>NQ rx fx r fs w (by simpa using hw)) ⟨.bl _,H,I,rfl,?_⟩
  rw[show its.toArray.any (vA x)=its.any (vA x) by simp,NP r fs]
  exact q
 ·obtain⟨its,r,pl,hz⟩:=I.tuple hq;refine SeqAt.in_tupleAt (vA x) pl (fun w hw=>NQ rx fx r fs w (by simpa using hw)) ⟨.bl _,H,I,rfl,?_⟩
  rw[show its.toArray.any (vA x)=its.any (vA x) by simp,NP r fs]
  exact q
theorem Wq:cH X (.builtin "len") (fun xs H Q=>∃p ys,xs= [.ref p]/\ (fM X.K H p ys\/iY X.K H p ys)/\Q (.int ys.length) H):=by
 intro pins s σ H xs us Q I r h;obtain⟨p,ys,rfl,hq,q⟩:=h;obtain⟨u,rfl,rx⟩:=vals1 r;cases rx;have hn:=jr;rcases hq with hq | hq
 ·obtain⟨its,r',pl,hz⟩:=I.list hq;have hlen:=r'.length;exact Calls.call_len_list pl.isList (by simp only [List.size_toArray]<;>omega) ⟨.int ys.length,H,I.tok _,⟨s.toks+1,by rw[List.size_toArray,hlen]⟩,q⟩
 ·obtain⟨its,r',pl,hz⟩:=I.tuple hq;have hlen:=r'.length;exact len_tuple pl (by simp only [List.size_toArray]<;>omega) ⟨.int ys.length,H,I.tok _,⟨s.toks+1,by rw[List.size_toArray,hlen]⟩,q⟩
theorem znz:cH X (.builtin "len") (fun xs H Q=>∃z,xs= [.str z]/\z.length<=sizeLine/\Q (.int z.length) H):=by
 intro pins s σ H xs us Q I r h;obtain⟨z,rfl,hz,q⟩:=h;obtain⟨u,rfl,t,rfl⟩:=vals1 r;have hn:=jr;exact len_str (by omega) ⟨.int z.length,H,I.tok _,⟨_,rfl⟩,q⟩
theorem Wr:cH X (.type "list") (fun xs H Q=>∃p ys,xs= [.ref p]/\ (fM X.K H p ys\/iY X.K H p ys)/\∀l,H l=none ->Q (.ref l) (upd H l (.lst ys))):=by
 intro pins s σ H xs us Q I r h;obtain⟨p,ys,rfl,hq,q⟩:=h;obtain⟨u,rfl,rx⟩:=vals1 r;cases rx;have fin:∀(its:List Value),Vals ys its ->ys.length<=sizeLine ->∀(h' :Heap) (c' :Nat),(∀b o',s.heap.get? b=some o' ->h'.get? b=some o') ->
   h'.get? s.heap.objs.size=some {cls:= .type "list",dict:=none,data:= .seq its.toArray c',slots:= #[]} ->EP X pins σ Q (.ref s.heap.objs.size) {s with heap:=h'}:=fun its r' hz h' c' kp e=>
  ⟨.ref s.heap.objs.size,_,I.laid (t' :=s.toks) kp (zO _) (show aU X.prog X.w _ h' _ (.lst ys) from ⟨hz,its,c',r',e⟩),rfl,q _ (I.hok.fresh (zO _))⟩
 rcases hq with hq | hq
 ·obtain⟨its,r',pl,hz⟩:=I.list hq;have hlen:=r'.length;obtain⟨o,ho,hc,n,hd⟩:=pl.isList;exact call_list_seq p (.inl rfl) ho hc hd (fun h' c' kp e=>fin its r' hz h' c' kp e) (by simp only [List.size_toArray]<;>omega)
 ·obtain⟨its,r',pl,hz⟩:=I.tuple hq;have hlen:=r'.length;obtain⟨o,ho,hc,n,hd⟩:=pl;exact call_list_seq p (.inr rfl) ho hc hd (fun h' c' kp e=>fin its r' hz h' c' kp e) (by simp only [List.size_toArray]<;>omega)
def Jv(K:W.Frag)(T:String)(x:V)(H:Hp):Prop:=match x with
 | .str _=>T= "str"
 | .int _=>T= "int"
 | .ref p=>(T= "list" /\∃xs,fM K H p xs)\/ (T= "tuple" /\∃o,K.lookup p=some o/\o.cls= .type "tuple" /\o.dict=none)\/
   (T= "dict" /\ ((∃kvs,H p=some (.dK kvs))\/∃kvs,H p=some (.dT kvs)))\/ (T= "set" /\∃S n,H p=some (.set S n))
 | _=>False
theorem z4y{pins:bC}{σ:St}{H:Hp}{s:Shared}{T:String}{x:V}{v:Value}(I:Inv X pins σ H s)(r:RelV x v)(ty:Jv X.K T x H):
  s.TypeIs v T/\∀a,v= .ref a ->∃ob,s.heap.get? a=some ob/\ob.dict=none:=by
 cases x with
 | str z=>
  obtain⟨t,rfl⟩:=r;cases (show T= "str" from ty);exact⟨typeIs_str s z t,fun _ e=>nomatch e⟩
 | int i=>
  obtain⟨t,rfl⟩:=r;cases (show T= "int" from ty);exact⟨typeIs_int s i t,fun _ e=>nomatch e⟩
 | ref p=>
  cases r;rcases ty with ⟨rfl,xs,hq⟩ | ⟨rfl,o,hk,hc,hd⟩ | ⟨rfl,hk⟩ | ⟨rfl,S,n,hk⟩
  ·obtain⟨its,_,pl,_⟩:=I.list hq;refine⟨pl.isList.typeIs,fun a e=> ?_⟩;cases e;obtain⟨o,n,e,c,hd,_⟩:=pl;exact⟨o,e,hd⟩
  ·refine⟨⟨o,I.kIn p o hk,hc⟩,fun a e=> ?_⟩;cases e;exact⟨o,I.kIn _ o hk,hd⟩
  ·have z:∃o,s.heap.get? p=some o/\o.ExactDict:=by
    rcases hk with ⟨kvs,hk⟩ | ⟨kvs,hk⟩
    ·obtain⟨_,_,_,_,o,_,_,e,ex,_⟩:=I.hok p _ hk;exact⟨o,e,ex⟩
    ·obtain⟨_,_,_,_,o,_,_,e,ex,_⟩:=I.hok p _ hk;exact⟨o,e,ex⟩
   obtain⟨o,e,ex⟩:=z;refine⟨⟨o,e,ex.1⟩,fun a e2=> ?_⟩;cases e2;exact⟨o,e,ex.2.1⟩
  ·obtain⟨o,_,_,_,e,ex,_⟩:=I.hok p _ hk;refine⟨⟨o,e,ex.1⟩,fun a e2=> ?_⟩;cases e2;exact⟨o,e,ex.2.1⟩
 | _=>exact False.elim ty
def aaD(K:W.Frag)(T:String)(r:V ->List V ->Hp ->VK ->Prop)(to:TE):TE:=fun σ H Q=>to σ H fun x H1=>Jv K T x H1/\r x [] H1 Q
def tBM(K:W.Frag)(T:String)(r:V ->List V ->Hp ->VK ->Prop)(to:TE)(t:TA):TE:=fun σ H Q=>to σ H fun x H1=>Jv K T x H1/\t σ H1 fun xs H2=>r x xs H2 Q
variable{o e:Expr}{es:List Expr}{to:TE}{t:TA}{name:Str}{apos cpos:Pos}{T id:String}{r:V ->List V ->Hp ->VK ->Prop}
theorem z54(pa:PlainAttrs T)(slot:Slot T name id)(hty:typeOf (.builtin id)=pure (.type "method_descriptor"))(hm:MtR X id r)(ho:PE X o to)(ha:PA X (e::es) t)
  (hbase:attributeBase o name X.env (eval o X.env)=eval o X.env:=by rfl)
  (hfew:((backTo cpos (starEach (e::es) X.env)).all (fun x=> !x.1)&&(backToKw cpos (keywordEach [] X.env)).all (fun x=>x.1.isSome)
   &&decide ((e::es).length+ ([]:List Keyword).length+ (if ([]:List Keyword).isEmpty then 0 else 1)<30))=true:=by rfl)
  (hline:(apos.endLine==cpos.line)=true:=by rfl) (hs:starEach (e::es) X.env=(false,eval e X.env)::starEach es X.env:=by rfl) (hplain:(backTo cpos (starEach es X.env)).any (·.1)=false:=by rfl):
  PE X (.Call (.Attribute o name apos) (e::es) [] cpos) (tBM X.K T r to t):=by
 intro pins s σ H Q I h;refine wpAny_Call_method_late hbase hfew hline rfl (bK (ho pins s σ H _ I h) fun v s1 NT=> ?_);obtain⟨x,H1,I1,r1,ty,q1⟩:=NT;obtain⟨h1,h2⟩:=z4y I1 r1 ty;refine⟨T,id,pa,slot,hty,h1,h2,?_⟩;have hA:=ha cpos pins s1 σ H1 _ I1 q1;rw[hs] at hA⊢;refine Calls.callWith_builtin (by show(false || (backTo cpos (starEach es X.env)).any (·.1))=false;rw[hplain]<;>rfl) (Calls.evalArgs_plain ?_)
 exact bK hA fun us s2 NZ=>by obtain⟨vs,H2,I2,r2,q2⟩:=NZ;exact hm pins s2 σ H2 x vs v us Q I2 r1 r2 q2
end
def MtM(X:Cx)(id:String)(r:V ->List V ->Hp ->VK ->Prop):Prop:=
 ∀(pins:bC) (s:Shared) (σ:St) (H:Hp) (x:V) (xs:List V) (v:Value) (us:List Value) (Q:VK),Inv X pins σ H s ->RelV x v ->Vals xs us ->r x xs H Q ->
  wpAny (model X.prog X.w) X.A (call (.builtin id) (v::us)) (EP X pins σ Q) X.xe s
theorem Vals.one:∀{x:V} {us:List Value},Vals [x] us ->∃u,us= [u]/\RelV x u
 | _,_,.cons r .nil=>⟨_,rfl,r⟩
section
variable{X:Cx}{pins:bC}{σ:St}{H:Hp}{s:Shared}{l b:Addr}{xs ys zs:List V}
theorem Inv.lset{its its' :List Value}{n:Nat}{f:Array Value ->Array Value}{t' :Nat}(I:Inv X pins σ H s)(hH:H l=some (.lst xs))
  (e:s.heap.get? l=some {cls:= .type "list",data:= .seq its.toArray n}) (hf:f its.toArray=its'.toArray) (hv:Vals ys its') (hz:ys.length<=sizeLine):
  Inv X pins σ (upd H l (.lst ys)) {s with heap:=s.heap.update l (Obj.mapSeq f),toks:=t'}:=by
 have q:=PySem.IsL.update e f;rw[hf] at q;refine I.write (x:=l) (e:=l) (by rw[hH];exact trivial) (.inl rfl) (fun b' u hb hu=>(Heap.get?_update_other s.heap (Obj.mapSeq f) (Ne.symm hb)).trans hu) ⟨_,q⟩ ?_
 exact⟨hz,its',_,hv,q⟩
theorem Inv.lnew{its:List Value}{t' :Nat}(I:Inv X pins σ H s)(hv:Vals ys its)(hz:ys.length<=sizeLine):
  Inv X pins σ (upd H s.heap.objs.size (.lst ys)) {s with heap:=s.heap.push {cls:= .type "list",data:= .seq its.toArray},toks:=t'}:=
 I.laid (fun _ _ q=>z8 _ q) (zO _) ⟨hz,its,0,hv,z9 _ rfl⟩
theorem Inv.fresh(I:Inv X pins σ H s):H s.heap.objs.size=none:=I.hok.fresh (zO _)
theorem Inv.lstM(I:Inv X pins σ H s)(hH:H l=some (.lst xs)):xs.length<=sizeLine/\∃(its:List Value) (n:Nat),Vals xs its/\xs.length=its.length/\s.heap.get? l=some {cls:= .type "list",data:= .seq its.toArray n}:=by
 obtain⟨z,its,n,r,e⟩:=I.hok l _ hH;exact⟨z,its,n,r,r.length,e⟩
theorem zyl{n:Nat}(h:n<=sizeLine):Builtin.List.listTooLong n=false:=by
 unfold Builtin.List.listTooLong;exact decide_eq_false (by omega)
end
section
variable{X:Cx}
def z27:V ->List V ->Hp ->VK ->Prop:=fun x vs H Q=>∃l xs y,x= .ref l/\vs= [y]/\H l=some (.lst xs)/\xs.length<sizeLine/\Q .non (upd H l (.lst (xs++ [y])))
theorem Ws:MtM X "list.append" z27:=by
 intro pins s σ H x vs v us Q I rx rv h;obtain⟨l,xs,y,rfl,rfl,hH,hz,q⟩:=h;cases rx;obtain⟨u,rfl,ru⟩:=rv.one;obtain⟨z,its,n,r,hl,e⟩:=I.lstM hH;refine call_meets F.slot_list_append ⟨_,e,rfl⟩ F.entry_list_append (F.args_list_append_2 _ _) (PySem.list_append l its.toArray n u (by rw[List.size_toArray];omega)) ⟨e,?_⟩
 refine⟨.non,_,I.lset (its' :=its++ [u]) hH e (by simp) (r.append (.cons ru .nil)) ?_,rfl,q⟩
 rw[List.length_append,List.length_singleton];omega
def z5y:V ->List V ->Hp ->VK ->Prop:=fun x vs H Q=>∃l b xs zs,x= .ref l/\vs= [.ref b]/\H l=some (.lst xs)/\H b=some (.lst zs)/\xs.length+zs.length<=sizeLine/\Q .non (upd H l (.lst (xs++zs)))
def aaE:V ->List V ->Hp ->VK ->Prop:=fun x vs H Q=>∃l xs y,x= .ref l/\vs= []/\H l=some (.lst xs)/\xs[xs.length - 1]?=some y/\Q y (upd H l (.lst xs.dropLast))
def N5:V ->List V ->Hp ->VK ->Prop:=fun x vs H Q=>∃l xs i k y,x= .ref l/\vs= [.int i]/\H l=some (.lst xs)/\ -(2^63)<=i/\i<2^63/\seqIndex? i xs.length=some k/\xs[k]?=some y/\Q y (upd H l (.lst (xs.eraseIdx k)))
def z5p:V ->List V ->Hp ->VK ->Prop:=fun x vs H Q=>∃l xs,x= .ref l/\vs= []/\H l=some (.lst xs)/\Q .non (upd H l (.lst xs.reverse))
def N6:V ->List V ->Hp ->VK ->Prop:=fun x vs H Q=>∃l xs,x= .ref l/\vs= []/\H l=some (.lst xs)/\Q .non (upd H l (.lst []))
def aaF:R2:=fun x y H Q=>∃l b xs zs,x= .ref l/\y= .ref b/\H l=some (.lst xs)/\H b=some (.lst zs)/\xs.length+zs.length<=sizeLine/\∀p,H p=none ->Q (.ref p) (upd H p (.lst (xs++zs)))
def aaG:R2:=fun x y H Q=>∃l k xs,x= .ref l/\y= .int k/\H l=some (.lst xs)/\ -(2^63)<=k/\k<2^63/\xs.length*k.toNat<=sizeLine/\
 ∀p,H p=none ->Q (.ref p) (upd H p (.lst (List.replicate k.toNat xs).flatten))
end
section
variable{prog:Program}{w:World}{A:Around}{E:bJ}{s:Shared}
end
section
variable{X:Cx}
end
section
variable{κ:Type}[DecidableEq κ]
def dH(kvs:List (κ×V))(k:κ):Option V:=(kvs.find? fun kv=>decide (kv.1=k)).map (·.2)
def putK(kvs:List (κ×V))(k:κ)(v:V):List (κ×V):=
 if (kvs.any fun kv=>decide (kv.1=k))=true then kvs.map (fun kv=>if kv.1=k then(kv.1,v) else kv) else kvs++ [(k,v)]
def qj(kvs:List (κ×V))(k:κ):List (κ×V):=kvs.filter fun kv=>decide (kv.1≠k)
theorem N7{p:κ×V}{r:List (κ×V)}{k:κ}(e:p.1=k):dH (p::r) k=some p.2:=by simp [dH,List.find?_cons,e]
theorem N8{p:κ×V}{r:List (κ×V)}{k:κ}(e:¬p.1=k):dH (p::r) k=dH r k:=by simp [dH,List.find?_cons,e]
theorem Wt(k:κ):∀kvs:List (κ×V),(kvs.any fun kv=>decide (kv.1=k))=(dH kvs k).isSome
 | []=>rfl
 | p::r=>by
  rw[List.any_cons];by_cases e:p.1=k
  ·simp only [N7 e,decide_eq_true e,Bool.true_or,Option.isSome_some]
  ·rw[N8 e,decide_eq_false e,Bool.false_or];exact Wt k r
theorem Wu(kvs:List (κ×V))(k:κ)(v:V):(putK kvs k v).length<=kvs.length+1:=by
 unfold putK;split
 ·rw[List.length_map];omega
 ·rw[List.length_append,List.length_cons,List.length_nil];omega
theorem jZ.fK{o:Option V}{u:Option Value}(r:jZ o u):o.isSome=u.isSome:=by
 cases o with
 | none=>cases u with
  | none=>rfl
  | some _=>exact(show False from r).elim
 | some _=>cases u with
  | none=>exact(show False from r).elim
  | some _=>rfl
theorem KV.val{kvs:List (κ×V)}{vs:List (κ×Value)}(r:KV kvs vs)(k:κ):jZ (dH kvs k) (valueAt vs k):=by
 unfold KV at r;induction r with
 | nil=>exact True.intro
 | @cons p q ps qs h t ih=>
  obtain⟨h1,h2⟩:=h;by_cases e:p.1=k
  ·have e' :q.1=k:=h1.symm.trans e;have b:valueAt (q::qs) k=some q.2:=by simp [valueAt,List.find?_cons,e']
   rw[N7 e,b];exact h2
  ·have e' :¬q.1=k:=fun z=>e (h1.trans z);have b:valueAt (q::qs) k=valueAt qs k:=by simp [valueAt,List.find?_cons,e']
   rw[N8 e,b];exact ih
theorem KV.any{kvs:List (κ×V)}{vs:List (κ×Value)}(r:KV kvs vs)(k:κ):(kvs.any fun kv=>decide (kv.1=k))=vs.any fun kv=>decide (kv.1=k):=by
 unfold KV at r;induction r with
 | nil=>rfl
 | cons h t ih=>rw[List.any_cons,List.any_cons,ih,h.1]
theorem KV.repl{kvs:List (κ×V)}{vs:List (κ×Value)}(r:KV kvs vs)(k:κ){y:V}{u:Value}(ry:RelV y u):
  KV (kvs.map fun kv=>if kv.1=k then(kv.1,y) else kv) (vs.map fun kv=>if kv.1=k then(kv.1,u) else kv):=by
 unfold KV at r⊢;induction r with
 | nil=>exact .nil
 | @cons p q ps qs h t ih=>
  rw[List.map_cons,List.map_cons];refine .cons ?_ ih;obtain⟨h1,h2⟩:=h;by_cases e:p.1=k
  ·rw[if_pos e,if_pos (h1.symm.trans e)];exact⟨h1,ry⟩
  ·rw[if_neg e,if_neg (fun z=>e (h1.trans z))];exact⟨h1,h2⟩
theorem KV.put{kvs:List (κ×V)}{vs:List (κ×Value)}(r:KV kvs vs)(k:κ){y:V}{u:Value}(ry:RelV y u):KV (putK kvs k y) (stored vs k u):=by
 unfold putK stored;rw[r.any k];by_cases e:(vs.any fun kv=>decide (kv.1=k))=true
 ·rw[if_pos e,if_pos e];exact r.repl k ry
 ·rw[if_neg e,if_neg e];exact Paired.snoc r ⟨rfl,ry⟩
theorem KV.length{kvs:List (κ×V)}{vs:List (κ×Value)}(r:KV kvs vs):kvs.length=vs.length:=Paired.length r
end
theorem Ea{P:Program}{w:World}{k:Key}{u:Value}(r:RelV (kV k) u):(jq P w).is k u=true:=by
 cases k with
 | inl i=>obtain⟨t,e⟩:=(show∃t,u=Value.int i t from r);subst e;exact zpq P w i t
 | inr x=>obtain⟨t,e⟩:=(show∃t,u=Value.str x t from r);subst e;exact Vt P w x t
theorem Wv{P:Program}{w:World}:∀{ks:List Key} {us:List Value},Vals (ks.map kV) us ->ItemsAre (jq P w) ks us
 | [],_,r=>by rw[List.map_nil] at r;cases r;exact .nil
 | k::ks,_,r=>by
  rw[List.map_cons] at r;cases r with
  | cons h t=>exact .cons (Ea h) (Wv t)
abbrev KT(H:Hp):List (List Key×V) ->List (List Key×Addr×Value) ->Prop:=Paired fun p q=>p.1=q.1/\H q.2.1=some (.tup (p.1.map kV))/\RelV p.2 q.2.2
theorem KT.val{H:Hp}{kvs:List (List Key×V)}{xs:List (List Key×Addr×Value)}(r:KT H kvs xs)(k:List Key):jZ (dH kvs k) ((atKey xs k).map (·.2)):=by
 induction r with
 | nil=>exact True.intro
 | @cons p q ps qs h t ih=>
  obtain⟨h1,_,h2⟩:=h;by_cases e:p.1=k
  ·have e' :q.1=k:=h1.symm.trans e;have b:atKey (q::qs) k=some q.2:=by simp [atKey,List.find?_cons,e']
   rw[N7 e,b];exact h2
  ·have e' :¬q.1=k:=fun z=>e (h1.trans z);have b:atKey (q::qs) k=atKey qs k:=by simp [atKey,List.find?_cons,e']
   rw[N8 e,b];exact ih
theorem KT.repl{H:Hp}{kvs:List (List Key×V)}{xs:List (List Key×Addr×Value)}(r:KT H kvs xs)(k:List Key){y:V}{u:Value}(ry:RelV y u):
  KT H (kvs.map fun kv=>if kv.1=k then(kv.1,y) else kv) (xs.map (putAt k u)):=by
 induction r with
 | nil=>exact .nil
 | @cons p q ps qs h t ih=>
  rw[List.map_cons,List.map_cons];refine .cons ?_ ih;obtain⟨h1,h2,h3⟩:=h;unfold putAt;by_cases e:p.1=k
  ·rw[if_pos e,if_pos (h1.symm.trans e)];exact⟨h1,h2,ry⟩
  ·rw[if_neg e,if_neg (fun z=>e (h1.trans z))];exact⟨h1,h2,h3⟩
theorem KT.put{H:Hp}{kvs:List (List Key×V)}{xs:List (List Key×Addr×Value)}(r:KT H kvs xs)(k:List Key){b:Addr}{y:V}{u:Value}(hb:H b=some (.tup (k.map kV)))(ry:RelV y u):
  KT H (putK kvs k y) (storedH xs k b u):=by
 have e:(kvs.any fun kv=>decide (kv.1=k))=(atKey xs k).isSome:=by
  rw[Wt,(r.val k).fK,Option.isSome_map]
 unfold putK storedH;rw[e];by_cases q:(atKey xs k).isSome=true
 ·rw[if_pos q,if_pos q];exact r.repl k ry
 ·rw[if_neg q,if_neg q];exact Paired.snoc r ⟨rfl,hb,ry⟩
theorem KT.keeps{H H' :Hp}{kvs:List (List Key×V)}{xs:List (List Key×Addr×Value)}(r:KT H kvs xs)(ht:∀b ys,H b=some (.tup ys) ->H' b=some (.tup ys)):KT H' kvs xs:=
 Paired.mapP r fun _ _ z=>⟨z.1,ht _ _ z.2.1,z.2.2⟩
section
variable{P:Program}{w:World}{H:Hp}{h:Heap}{a:Addr}
theorem Ww{u:HO}(ok:gO P w H h)(e:Rd H a u):aU P w H h a u:=e.ok ok
theorem wu{kvs:List (Key×V)}(ok:gO P w H h)(e:Rd H a (.dK kvs)):kvs.length<=sizeLine/\ (a==sysModules)=false/\∃vs,KV kvs vs/\h.DictOf (jq P w) a vs:=
 show aU P w H h a (.dK kvs) from Ww ok e
theorem Jw{kvs:List (Key×V)}(ok:gO P w H h)(e:H a=some (.dK kvs)):kvs.length<=sizeLine/\ (a==sysModules)=false/\∃vs,KV kvs vs/\h.DictOf (jq P w) a vs:=wu ok (.inl e)
theorem Ec{ks:List Key}(ok:gO P w H h)(e:H a=some (.tup (ks.map kV))):(tupleKind (jq P w)).is h ks a:=by
 obtain⟨_,its,r,o,h1,h2,n,h3⟩:=(show aU P w H h a (.tup (ks.map kV)) from ok a _ e);exact⟨o,its.toArray,n,h1,h2,h3,by simpa using Wv r⟩
theorem Ax{kvs:List (List Key×V)}(ok:gO P w H h)(e:Rd H a (.dT kvs)):kvs.length<=sizeLine/\ (a==sysModules)=false/\
  ∃xs,KT H kvs xs/\h.DictOfH (tupleKind (jq P w)) a xs:=by
 obtain⟨z,y,xs,r,o,es,ep,h1,h2,h3,h4,h5⟩:=(show aU P w H h a (.dT kvs) from Ww ok e);refine⟨z,y,xs,r,o,es,ep,h1,h2,h3,h4,fun x hx=> ?_,h5⟩;have all:∀{l:List (List Key×V)} {m:List (List Key×Addr×Value)},KT H l m ->∀x∈m,(tupleKind (jq P w)).is h x.1 x.2.1:=by
  intro l m q;induction q with
  | nil=>intro x hx;exact nomatch hx
  | @cons p q ps qs hq t ih=>
   intro x hx;rcases zV.mp hx with e | hx
   ·subst e;exact Ec ok (by rw[<- hq.1];exact hq.2.1)
   ·exact ih x hx
 exact all r x hx
theorem z50{kvs:List (List Key×V)}(ok:gO P w H h)(e:H a=some (.dT kvs)):kvs.length<=sizeLine/\ (a==sysModules)=false/\
  ∃xs,KT H kvs xs/\h.DictOfH (tupleKind (jq P w)) a xs:=Ax ok (.inl e)
end
def iJ(H:Hp)(a:Addr)(y:V)(r:Option V):Prop:=
 (∃kvs k,Rd H a (.dK kvs)/\y=kV k/\r=dH kvs k)\/∃kvs k b,Rd H a (.dT kvs)/\y= .ref b/\H b=some (.tup (k.map kV))/\r=dH kvs k
def oh(H:Hp)(a:Addr)(y v:V)(H' :Hp):Prop:=
 (∃kvs k,H a=some (.dK kvs)/\y=kV k/\kvs.length<sizeLine/\H' =upd H a (.dK (putK kvs k v)))\/
 ∃kvs k b,H a=some (.dT kvs)/\y= .ref b/\H b=some (.tup (k.map kV))/\kvs.length<sizeLine/\H' =upd H a (.dT (putK kvs k v))
theorem iJ.k{H:Hp}{a:Addr}{kvs:List (Key×V)}{k:Key}(e:H a=some (.dK kvs)):iJ H a (kV k) (dH kvs k):= .inl ⟨kvs,k,.inl e,rfl,rfl⟩
theorem oh.k{H:Hp}{a:Addr}{kvs:List (Key×V)}{k:Key}{v:V}(e:H a=some (.dK kvs))(hl:kvs.length<sizeLine):oh H a (kV k) v (upd H a (.dK (putK kvs k v))):= .inl ⟨kvs,k,e,rfl,hl,rfl⟩
section
variable{X:Cx}{pins:bC}{σ:St}{H:Hp}{s:Shared}{a:Addr}{y v:V}{u r:Value}{o:Option V}{A:Around}{E:bJ}
theorem Inv.big(I:Inv X pins σ H s):sysModules<s.heap.objs.size:=by
 have h:mainGlobals<s.heap.objs.size:=(I.mod.glob.keeps I.bk).lt;exact Nat.lt_trans (by decide) h
theorem zvq{Q:bJ}(hu:A.units+1<cLine)(I:Inv X pins σ H s)(g:iJ H a y (some v))(ry:RelV y u)(h:∀w' s',Inv X pins σ H s' ->RelV v w' ->Q w' s'):
  wpAny (model X.prog X.w) A (getItem (.ref a) u) Q E s:=by
 rcases g with ⟨kvs,k,e,ey,l⟩ | ⟨kvs,k,b,e,ey,eb,l⟩
 ·subst ey;obtain⟨z,hd,vs,rel,dd⟩:=wu I.hok e;obtain⟨w',hw,lV⟩:=jZ.some_of (v:=v) (o:=valueAt vs k) (by rw[l];exact rel.val k)
  exact wpAny_getItem_of (Ea ry) dd.mapOf hw (h w' _ (I.tok _) lV)
 ·subst ey;cases (show u=Value.ref b from ry);obtain⟨z,hd,xs,rel,dd⟩:=Ax I.hok e;obtain⟨w',hw,lV⟩:=jZ.some_of (v:=v) (o:=(atKey xs k).map (·.2)) (by rw[l];exact rel.val k)
  obtain⟨p,hp,hp2⟩:=Option.map_eq_some_iff.mp hw;refine wpAny_getItem_heap (tupleKind_room_in1 hu) (Ec I.hok eb) dd hp ?_;rw[hp2];exact h w' _ (I.tok _) lV
theorem Oa{Q:bJ}(hu:A.units+1<cLine)(I:Inv X pins σ H s)(g:iJ H a y o)(ry:RelV y u)(h:∀s',Inv X pins σ H s' ->Q (.bool o.isSome) s'):
  wpAny (model X.prog X.w) A (compareOp .In u (.ref a)) Q E s:=by
 rcases g with ⟨kvs,k,e,ey,l⟩ | ⟨kvs,k,b,e,ey,eb,l⟩
 ·subst ey;obtain⟨z,hd,vs,rel,dd⟩:=wu I.hok e;refine wpAny_in_of (Ea ry) hd dd.mapOf ?_;rw[<- (rel.val k).fK,<- l];exact h _ (I.tok _)
 ·subst ey;cases (show u=Value.ref b from ry);obtain⟨z,hd,xs,rel,dd⟩:=Ax I.hok e;refine wpAny_in_heap (tupleKind_room_in1 hu) (Ec I.hok eb) hd dd ?_;have q:=(rel.val k).fK;rw[Option.isSome_map] at q;rw[<- q,<- l];exact h _ (I.tok _)
theorem z1z{Q:bJ}(hu:A.units+1<cLine)(I:Inv X pins σ H s)(g:iJ H a y o)(ry:RelV y u)(h:∀s',Inv X pins σ H s' ->Q (.bool (!o.isSome)) s'):
  wpAny (model X.prog X.w) A (compareOp .NotIn u (.ref a)) Q E s:=by
 rcases g with ⟨kvs,k,e,ey,l⟩ | ⟨kvs,k,b,e,ey,eb,l⟩
 ·subst ey;obtain⟨z,hd,vs,rel,dd⟩:=wu I.hok e;refine wpAny_notIn_of (Ea ry) hd dd.mapOf ?_;rw[<- (rel.val k).fK,<- l];exact h _ (I.tok _)
 ·subst ey;cases (show u=Value.ref b from ry);obtain⟨z,hd,xs,rel,dd⟩:=Ax I.hok e;refine wpAny_notIn_heap (tupleKind_room_in1 hu) (Ec I.hok eb) hd dd ?_;have q:=(rel.val k).fK;rw[Option.isSome_map] at q;rw[<- q,<- l];exact h _ (I.tok _)
theorem Wx{h' :Heap}{t' :Nat}{ob:HO}(I:Inv X pins σ H s)(mu:CW (H a))(hs:Heap.SameBut a s.heap h')(he:∃q,h'.get? a=some q)(new:aU X.prog X.w (upd H a ob) h' a ob):
  Inv X pins σ (upd H a ob) {s with heap:=h',toks:=t'}:=
 I.write (x:=a) (e:=a) mu (.inl rfl) (fun b q hb z=>(hs.2 b hb).trans z) he new
theorem z3n{P:Program}{w:World}{H' :Hp}{h' :Heap}{kvs:List (Key×V)}{vs:List (Key×Value)}(z:kvs.length<=sizeLine)(hd:(a==sysModules)=false)(rel:KV kvs vs)(dd:h'.DictOf (jq P w) a vs):
  aU P w H' h' a (.dK kvs):=⟨z,hd,vs,rel,dd⟩
theorem zu2{H' :Hp}{Q:Unit ->Shared ->Prop}(hu:A.units+1<cLine)(I:Inv X pins σ H s)(g:oh H a y v H')(ry:RelV y u)(rv:RelV v r)(h:∀s',Inv X pins σ H' s' ->Q () s'):
  wpAny (model X.prog X.w) A (setItem (.ref a) u r) Q E s:=by
 rcases g with ⟨kvs,k,e,ey,l,eH⟩ | ⟨kvs,k,b,e,ey,eb,l,eH⟩
 ·subst ey eH;obtain⟨z,hd,vs,rel,dd⟩:=Jw I.hok e;have hz:vs.length<=sizeLine:=by rw[<- rel.length];exact z
  have hl:(putK kvs k v).length<=sizeLine:=by have:=Wu kvs k v;omega
  refine wpAny_setItem_pairs (hsz:=hz) (Ea ry) dd fun h' Ed hs=>h _ ?_;have he:∃q,h'.get? a=some q:=let ⟨q,_,_,hq,_⟩:=Ed;⟨q,hq⟩;exact Wx I (by rw[e];exact True.intro) hs he (z3n hl hd (rel.put k rv) Ed)
 ·subst ey eH;cases (show u=Value.ref b from ry);obtain⟨z,hd,xs,rel,dd⟩:=z50 I.hok e;have hz:xs.length<=sizeLine:=by rw[<- Paired.length rel];exact z
  have hl:(putK kvs k v).length<=sizeLine:=by have:=Wu kvs k v;omega
  refine wpAny_setItem_heap (hsz:=hz) (tupleKind_room_in1 hu) (Ec I.hok eb) dd fun h' Ed hs=>h _ ?_;obtain⟨q,es,ep,hq,h2,h3,h4,_,h5⟩:=Ed;refine Wx I (by rw[e];exact True.intro) hs ⟨q,hq⟩ ⟨hl,hd,_,(rel.put k eb rv).keeps fun c ys ec=> ?_,q,es,ep,hq,h2,h3,h4,h5⟩
  rw[c7 (z6t ec e (fun z=>nomatch z))];exact ec
end
section
variable{X:Cx}{pins:bC}{σ:St}{H:Hp}{s:Shared}{a:Addr}{kvs:List (Key×V)}{k:Key}{u:Value}{A:Around}{E:bJ}
theorem z6h{Q:bJ}(I:Inv X pins σ H s)(e:Rd H a (.dK kvs))(h:∀t s',Inv X pins σ H s' ->Q (.int kvs.length t) s'):wpAny (model X.prog X.w) A (call (.builtin "len") [.ref a]) Q E s:=by
 obtain⟨z,hd,vs,rel,dd⟩:=wu I.hok e;refine call_len_dict hd dd (by rw[<- rel.length];rw[sizeLine_eq] at z;omega) ?_
 rw[<- rel.length];exact h _ _ (I.tok _)
end
def vB(i:Expr):Prop:=∀ov iv,subscripted i false ov iv=operate [ov,iv] (getItem ov iv)
theorem z0z{prog:Program}{w:World}{A:Around}{E:bJ}{s:Shared}{env:Env}{value slice:Expr}{pos:Pos}{T id:String}{Q:bJ}
  (hl:typeLookup (.type T) "__getitem__" =pure (some (.builtin id))) (hs:vB slice)
  (h:wpAny (model prog w) A (eval value env) (fun o s₁=>wpAny (model prog w) A (eval slice env) (fun i s₂=>s₂.TypeIs o T/\wpAny (model prog w) A (getItem o i) Q E s₂) E s₁) E s):
  wpAny (model prog w) A (eval (.Subscript value slice pos) env) Q E s:=by
 refine Subscript_ (wpAny_mono h (fun o s₁ h₁=>wpAny_mono h₁ (fun i s₂ h₂=> ?_) fun _ _ x=>x) fun _ _ x=>x);obtain⟨hT,h₂⟩:=h₂;unfold subscriptTail;refine z6 ?_;rw[getitemInPython_of_ne hT.not_modules];refine z6 (wpAny_specialOf hT hl ?_);have fin:wpAny (model prog w) A (subscripted slice false o i) (fun r s₃=>wpAny (model prog w) A (letTemporaryGo value o r>>=fun _=>pure r) Q E s₃) E s₂:=by
  rw[hs o i];exact wpAny_operating (wpAny_mono h₂ (fun r s₃ h₃=>z6 (wpAny_letTemporaryGo (z7 h₃))) fun _ _ x=>x)
 first
  | exact z7 (z6 fin)
  | exact z6 (z7 (z6 fin))
  | exact z6 fin
theorem zo8{X:Cx}{pins:bC}{σ:St}{H:Hp}{s:Shared}{a:Addr}{y:V}{o:Option V}(I:Inv X pins σ H s)(g:iJ H a y o):s.TypeIs (.ref a) "dict" :=by
 rcases g with ⟨kvs,k,e,_,_⟩ | ⟨kvs,k,b,e,_,_,_⟩
 ·obtain⟨_,_,vs,_,dd⟩:=wu I.hok e;exact dd.typeIs
 ·obtain⟨_,_,xs,_,dd⟩:=Ax I.hok e;exact dd.typeIs
def Ef(td ty:TE):TE:=fun σ H Q=>td σ H fun x H1=>ty σ H1 fun y H2=>∃a v,x= .ref a/\iJ H2 a y (some v)/\Q v H2
def Ob(ty td:TE):TE:=fun σ H Q=>ty σ H fun y H1=>td σ H1 fun x H2=>∃a o,x= .ref a/\iJ H2 a y o/\Q (.bl o.isSome) H2
def z1s(ty td:TE):TE:=fun σ H Q=>ty σ H fun y H1=>td σ H1 fun x H2=>∃a o,x= .ref a/\iJ H2 a y o/\Q (.bl (!o.isSome)) H2
def Eh(td ty tv:TE):TS:=fun D σ H=>tv σ H fun v H1=>td σ H1 fun x H2=>ty σ H2 fun y H3=>∃a H4,x= .ref a/\oh H3 a y v H4/\D.nx σ H4
def Wy(td ty tv:TE)(rd:V ->V ->Hp ->VK ->Prop):TS:=fun D σ H=>td σ H fun x H1=>ty σ H1 fun y H2=>∃a v,x= .ref a/\iJ H2 a y (some v)/\
 tv σ H2 fun y2 H3=>rd v y2 H3 fun z H4=>∃H5,oh H4 a y z H5/\D.nx σ H5
def Wz(td ty:TE):TS:=fun D σ H=>td σ H fun x H1=>ty σ H1 fun y H2=>∃a kvs k,x= .ref a/\H2 a=some (.dK kvs)/\y=kV k/\ (dH kvs k).isSome=true/\D.nx σ (upd H2 a (.dK (qj kvs k)))
section
variable{X:Cx}{o i e value:Expr}{pos pos' tpos:Pos}{td ty tv:TE}
theorem WD(hu:X.A.units+1<cLine)(ho:PE X o td)(hi:PE X i ty)(hs:vB i):PE X (.Subscript o i pos) (Ef td ty):=by
 intro pins s σ H Q I h;refine z0z PySem.F.slot_dict_getitem.lookup hs (bK (ho pins s σ H _ I h) fun u s1 ⟨x,H1,I1,rx,q1⟩=>bK (hi pins s1 σ H1 _ I1 q1) fun iv s2 ⟨y,H2,I2,ry,a,v,ex,g,q2⟩=> ?_);subst ex;obtain rfl:u=Value.ref a:=rx;exact⟨zo8 I2 g,zvq hu I2 g ry fun w' s3 I3 lV =>⟨v,H2,I3,lV,q2⟩⟩
theorem z49(hu:X.A.units+1<cLine)(hi:PE X i ty)(ho:PE X o td):PC X .In i o (Ob ty td):=by
 intro pins s σ H Q I h;refine bK (hi pins s σ H _ I h) fun iv s1 ⟨y,H1,I1,ry,q1⟩=>bK (ho pins s1 σ H1 _ I1 q1) fun u s2 ⟨x,H2,I2,rx,a,ov,ex,g,q2⟩=> ?_;subst ex;obtain rfl:u=Value.ref a:=rx;exact Oa hu I2 g ry fun s3 I3=>⟨.bl ov.isSome,H2,I3,rfl,q2⟩
theorem zw5(hu:X.A.units+1<cLine)(hi:PE X i ty)(ho:PE X o td):PC X .NotIn i o (z1s ty td):=by
 intro pins s σ H Q I h;refine bK (hi pins s σ H _ I h) fun iv s1 ⟨y,H1,I1,ry,q1⟩=>bK (ho pins s1 σ H1 _ I1 q1) fun u s2 ⟨x,H2,I2,rx,a,ov,ex,g,q2⟩=> ?_;subst ex;obtain rfl:u=Value.ref a:=rx;exact z1z hu I2 g ry fun s3 I3=>⟨.bl (!ov.isSome),H2,I3,rfl,q2⟩
theorem Oc(hu:X.A.units+1<cLine)(ho:PE X o td)(hi:PE X i ty)(hv:PE X value tv)(hs:swapsWith value (some (.Subscript o i pos')) pos.line X.env=pure false):
  PS X (.Assign [.Subscript o i pos'] value pos) (Eh td ty tv):=by
 intro pins s σ H D I h;refine wpAny_Assign_Subscript (bK (hv pins s σ H _ I h) fun r s1 ⟨v,H1,I1,rv,q1⟩=>bK (ho pins s1 σ H1 _ I1 q1) fun u s2 ⟨x,H2,I2,rx,q2⟩=>bK (hi pins s2 σ H2 _ I2 q2) fun iv s3 ⟨y,H3,I3,ry,a,H4,ex,g,q3⟩=> ?_) hs;subst ex;obtain rfl:u=Value.ref a:=rx;exact zu2 hu I3 g ry rv fun s4 I4=>⟨σ,H4,I4,q3⟩
end
theorem zw8{P:Program}{w:World}{H:Hp}(h:Heap)(hb:sysModules<h.objs.size):aU P w H (h.push {cls:= .type "dict",data:= .dict #[]}) h.objs.size (.dK []):=
 ⟨Nat.zero_le _,beq_eq_false_iff_ne.mpr (Ne.symm (zL hb)),[],.nil,Heap.DictOf.new h⟩
def yp:TE:=fun _ H Q=>∀p,H p=none ->Q (.ref p) (upd H p (.dK []))
def Od:TE:=fun _ H Q=>∀p,H p=none ->Q (.ref p) (upd H p (.dT []))
section
variable{X:Cx}{pos:Pos}
theorem zx2:PE X (.Dict [] [] pos) yp:=fun pins s σ H Q I h=>
 wpAny_Dict_empty ⟨.ref s.heap.objs.size,_,I.laid (a:=s.heap.objs.size) (o:= .dK []) (t' :=s.toks) (fun _ _ q=>z8 _ q) (zO _) (zw8 s.heap I.big),rfl,h _ (I.hok.fresh (zO _))⟩
end
def pH:List (TE×TE) ->St ->Hp ->(List (V×V) ->Hp ->Prop) ->Prop
 | [],_,H,Q=>Q [] H
 | (tk,tv)::r,σ,H,Q=>tk σ H fun x H1=>tv σ H1 fun y H2=>pH r σ H2 fun ps H3=>Q ((x,y)::ps) H3
abbrev VV:List (V×V) ->List (Value×Value) ->Prop:=Paired fun p q=>RelV p.1 q.1/\RelV p.2 q.2
def PPs(X:Cx)(pos:Pos)(keys:List (Option Expr))(values:List Expr)(Oe:List (TE×TE)):Prop:=
 ∀(pins:bC) (s:Shared) (σ:St) (H:Hp) (Q:List (V×V) ->Hp ->Prop),Inv X pins σ H s ->pH Oe σ H Q ->
  wpAny (model X.prog X.w) X.A (evalPairs (pairTrees keys values X.env pos)) (fun vs s' =>∃ps H',Inv X pins σ H' s' /\VV ps vs/\Q ps H') X.xe s
def yq(kvs more:List (Key×V)):List (Key×V):=more.foldl (fun acc kv=>putK acc kv.1 kv.2) kvs
def WK(Oe:List (TE×TE)):TE:=fun σ H Q=>∀p,H p=none ->pH Oe σ (upd H p (.dK [])) fun ps H2=>H2 p=some (.dK [])/\∃kvs:List (Key×V),ps=kvs.map (fun kv=>(kV kv.1,kv.2))/\kvs.length<=15/\Q (.ref p) (upd H2 p (.dK (yq [] kvs)))
structure M1 (X:Cx) (o:Expr) (m:Str) (apos:Pos) (e:Expr) (cpos:Pos):Prop where
 base:attributeBase o m X.env (eval o X.env)=eval o X.env
 few:((backTo cpos (starEach [e] X.env)).all (fun x=> !x.1)&&(backToKw cpos (keywordEach [] X.env)).all (fun x=>x.1.isSome)
  &&decide (([e]:List Expr).length+ ([]:List Keyword).length+ (if ([]:List Keyword).isEmpty then 0 else 1)<30))=true
 line:(apos.endLine==cpos.line)=true
 trees:backTo cpos (starEach [e] X.env)= [(false,eval e X.env)]
structure M2 (X:Cx) (o:Expr) (m:Str) (apos:Pos) (e f:Expr) (cpos:Pos):Prop where
 base:attributeBase o m X.env (eval o X.env)=eval o X.env
 few:((backTo cpos (starEach [e,f] X.env)).all (fun x=> !x.1)&&(backToKw cpos (keywordEach [] X.env)).all (fun x=>x.1.isSome)
  &&decide (([e,f]:List Expr).length+ ([]:List Keyword).length+ (if ([]:List Keyword).isEmpty then 0 else 1)<30))=true
 line:(apos.endLine==cpos.line)=true
 trees:backTo cpos (starEach [e,f] X.env)= [(false,eval e X.env),(false,eval f X.env)]
def Ay(H:Hp)(a:Addr):Prop:=(∃kvs,Rd H a (.dK kvs))\/∃kvs,Rd H a (.dT kvs)
theorem WL{X:Cx}{pins:bC}{σ:St}{H:Hp}{s:Shared}{a:Addr}(I:Inv X pins σ H s)(d:Ay H a):
  s.TypeIs (.ref a) "dict" /\ (∀b,Value.ref a= .ref b ->∃ob,s.heap.get? b=some ob/\ob.dict=none)/\ (a==sysModules)=false:=by
 rcases d with ⟨kvs,e⟩ | ⟨kvs,e⟩
 ·obtain⟨_,hd,vs,_,dd⟩:=wu I.hok e;refine⟨dd.typeIs,fun b q=> ?_,hd⟩;cases q;obtain⟨ob,_,_,h1,h2,_⟩:=dd;exact⟨ob,h1,h2.2.1⟩
 ·obtain⟨_,hd,xs,_,dd⟩:=Ax I.hok e;refine⟨dd.typeIs,fun b q=> ?_,hd⟩;cases q;obtain⟨ob,_,_,h1,h2,_⟩:=dd;exact⟨ob,h1,h2.2.1⟩
section
variable{X:Cx}{pins:bC}{σ:St}{H:Hp}{s:Shared}{a:Addr}{y d:V}{u r:Value}{o:Option V}{A:Around}{E:bJ}
end
def Og(td ty:TE):TE:=fun σ H Q=>td σ H fun x H1=>∃a,x= .ref a/\Ay H1 a/\ty σ H1 fun y H2=>∃o,iJ H2 a y o/\Q (o.getD .non) H2
def Oh(td ty tx:TE):TE:=fun σ H Q=>td σ H fun x H1=>∃a,x= .ref a/\Ay H1 a/\ty σ H1 fun y H2=>tx σ H2 fun z H3=>∃o,iJ H3 a y o/\Q (o.getD z) H3
def Oi(td ty:TE):TE:=fun σ H Q=>td σ H fun x H1=>∃a,x= .ref a/\Ay H1 a/\ty σ H1 fun y H2=>∃kvs k v,H2 a=some (.dK kvs)/\y=kV k/\dH kvs k=some v/\Q v (upd H2 a (.dK (qj kvs k)))
def Oj(td ty tx:TE):TE:=fun σ H Q=>td σ H fun x H1=>∃a,x= .ref a/\Ay H1 a/\ty σ H1 fun y H2=>tx σ H2 fun z H3=>∃kvs k,H3 a=some (.dK kvs)/\y=kV k/\
 (∀v,dH kvs k=some v ->Q v (upd H3 a (.dK (qj kvs k))))/\ (dH kvs k=none ->Q z H3)
section
variable{X:Cx}{o e f:Expr}{apos cpos:Pos}{td ty tx:TE}
end
section
variable{X:Cx}{pins:bC}{σ:St}{H:Hp}{s:Shared}{a:Addr}{kvs:List (Key×V)}{A:Around}{E:bJ}
end
section
variable{X:Cx}{pins:bC}{σ:St}{H:Hp}{s:Shared}{a:Addr}{y:V}{u:Value}{A:Around}{E:bJ}
end
end L2
namespace WM
open PySem PySem.W PySem.Calls PyProof.Rows
theorem zib{P:Params}{h:Heap}:∀(ns:List Int) (vs:List Value),WellAll P h vs (ns.map WData.int) ->IntsAre vs ns:=by
 intro ns;induction ns with
 | nil=>
  intro vs w;rw[List.map_nil] at w;cases w;exact .nil
 | cons n ns ih=>
  intro vs w;rw[List.map_cons] at w;cases w with
  | cons a b=>
   cases a;exact .cons _ _ (ih _ b)
theorem zvm{l:OpenLaw}{n:Nat}(hn:l.most=some n){P:Params}{h:Heap}{args:List WData}{vals:List Value}
  (hpre:l.row.toRowW.claim.pre args=true) (hwl:WellAll P h vals args):
  ∃a vs ns,vals= [Value.ref a]/\args= [WData.list (ns.map WData.int)]/\h.get? a=some {cls:= .type "list",data:= .seq vs.toArray}/\IntsAre vs ns/\ns.length<=n:=by
 have hsh:WShape.hasAll [] args [.list .int]=true:=(pre_splitW hpre).1;have hc:l.pre.holds [] {args:=args}=true:=(pre_splitW hpre).2;obtain⟨d,r,rfl,h1,h2⟩:=hasAllW_cons hsh;obtain rfl:=hasAllW_nil h2;obtain⟨xs,rfl,h3⟩:=hasW_list h1;obtain⟨ns,rfl⟩:=items_int h3;have hlen:ns.length<=n:=by
  unfold OpenLaw.pre at hc;have h4:(WTm.not (.lt (.lit (.int (n:Int))) (.len (.arg 0)))).holds [] {args:= [.list (ns.map .int)]}=true:=by
   have h4:=(holds_andW hc).1;rw[hn] at h4;exact h4
  have h5:=condW_of h4 (w_not (w_lt w_lit (w_len_list (w_arg rfl))));rw[List.length_map] at h5;refine Nat.le_of_not_lt fun q=> ?_;have q' :(n:Int)< ((ns.length:Nat):Int):=by omega
  first
   | (rw[decide_eq_true q'] at h5;exact absurd h5 (by decide))
   | (simp at h5;omega)
 cases hwl with
 | cons w1 w2=>
  cases w2;cases w1 with
  | list ho hall=>exact⟨_,_,ns,rfl,rfl,ho,zib ns _ hall,hlen⟩
theorem zvd(l:OpenLaw)(args:List WData):l.row.toRowW.claim.post args (.bool true) args=true:=
 postW_of (r:=l.row.toRowW) (X:=(true==true))
  (show WShape.has [] (.bool true) .bool=true by first | rfl | decide | simp [WShape.has,WShape.arms,WShape.armsAll])
  (show(WTm.eq .res (.lit (.bool true))).value [] {args:=args,res:=some (.bool true),after:=args}=some (.bool (true==true)) from w_eq_bool (w_res rfl) w_lit) rfl
theorem ou{l:OpenLaw}{n:Nat}{q:Program}{loose:List Str}{XP:(Str ->Option Value) ->Heap ->Prop}{YP:World ->Heap ->Prop}{d:DefRec}
  (hn:l.most=some n) (hdf:d.params.defaults= [])
  (call:∀(w:World) (s₀ s₁:Shared) (mg mb:Str ->Option Value) (fa:Addr) (o:Obj) (pm cd doc:Value) (a:Addr) (vs:List Value) (ns:List Int),
   Ground q loose [] XP w s₀ mg mb s₁.heap ->YP w s₁.heap ->
   s₁.heap.get? fa=some o ->o.data= .func (docDef d.name d.params d.body d.scope pm cd doc) ->s₁.heap.CodeRec cd d.name ->mg d.name=some (.ref fa) ->
   s₁.heap.get? a=some {cls:= .type "list",data:= .seq vs.toArray} ->IntsAre vs ns ->ns.length<=n ->s₁.gens= #[] ->
   codeAny (model l.prog w) callerA (.call (.ref fa) ⟨[.ref a],[]⟩) (fun r s' =>r= .ok (.ret (.bool true))/\OldK s₁.heap s'.heap/\s'.os=s₁.os/\AllBare s'.gens) s₁):
  WalkO q loose XP YP l.row.toRowW d [] (fun f vs=>PySem.call f vs):=by
 intro w s₀ s₁ mg mb G Y fa o pm cd doc dV kV ho hd hcd hD hmg hg args vals as hpre hlay hrd hwl hlo;obtain rfl:dV= .none:=Dflts.none hD hdf;obtain rfl:kV= .none:=Dflts.noKw hD;obtain⟨a,vs,ns,rfl,rfl,hobj,hints,hlen⟩:=zvm hn hpre hwl;refine enter_call (codeAny_mono (call w s₀ s₁ mg mb fa o pm cd doc a vs ns G Y ho (fd_plain hd) hcd hmg hobj hints hlen hg) fun r s' hq=> ?_);obtain⟨rfl,h2,h3,h4⟩:=hq;exact⟨.inl ⟨.bool true,.bool true,[],rfl,fun _=>rfl,.bool true,zvd l _,fun _=>⟨List.Pairwise.nil,fun _ hm=>(nomatch hm)⟩⟩,h2,h3,h4⟩
section
variable{prog:Program}{w:World}{A:Around}{E:bJ}{s:Shared}{K:Frag}
def Ol(h:Heap):Heap:={h with objs:= #[]}
def ledger(h:Heap)(L d:Addr):bC:=(List.range h.objs.size).filterMap fun a=>if a=L\/a=d then none else(h.get? a).map fun o=>(a,o)
end
end WM
namespace L2
open PySem PySem.Spec PyProof.Rows
theorem WQ:∀{vs:List Value} {ns:List Int},IntsAre vs ns ->Vals (ns.map V.int) vs
 | _,_,.nil=> .nil
 | _,_,.cons n t h=> .cons ⟨t,rfl⟩ (WQ h)
def Only(H:Hp):Prop:=∀b,H b=none\/∃o xs,H b=some (.frz o (.lst xs))
theorem zy0{P:Program}{w:World}{K:W.Frag}{mg mb:Str ->Option Value}{CX:qN}{k:Nat}{fa a:Addr}{fd:FuncData}{x:Str}{sp:Sp}{s₁:Shared}{vs:List Value}{ns:List Int}
  (KX:K.In s₁.heap) (hns:s₁.heap.Ns mainGlobals mg) (hb:s₁.heap.Ns builtinsNs mb) (hbb:∀x:Str,x≠ "__name__" ->mb x=bootBuiltins x) (hlim:s₁.heap.NoLimit) (hg:s₁.gens= #[])
  (ha:s₁.heap.get? a=some {cls:= .type "list",data:= .seq vs.toArray}) (hi:IntsAre vs ns) (hl:ns.length<=sizeLine) (hr:eG k callerA)
  (F:∀base:Heap,K.In base ->base.Ns mainGlobals mg ->d7 P w K mg base CX k fa fd [x] sp) (hbind:∀(s:Shared) (u:Value),BindsTo s fd ⟨[u],[]⟩ [(x,u)])
  (hsp:∀H:Hp,Only H ->fM K H a (ns.map V.int) ->sp [.ref a] H (fun v _=>v= .bl true) fun _ _ _=>False)
  (Om:∀H e s',CX [] H s₁ (fun _ _ _=>False) e s' ->False):
  codeAny (model P w) callerA (.call (.ref fa) ⟨[.ref a],[]⟩) (fun r s' =>r= .ok (.ret (.bool true))/\OldK s₁.heap s'.heap/\s'.os=s₁.os/\AllBare s'.gens) s₁:=by
 have rv:=WQ hi;have lenV:=hi.length
 
 have core:∀H:Hp,Only H ->fM K H a (ns.map V.int) ->gO P w H s₁.heap ->(∀b,H b≠none ->b=a) ->(H a≠none ->K.lookup a=none) ->
   codeAny (model P w) callerA (.call (.ref fa) ⟨[.ref a],[]⟩) (fun r s' =>r= .ok (.ret (.bool true))/\OldK s₁.heap s'.heap/\s'.os=s₁.os/\AllBare s'.gens) s₁:=by
  intro H hO hS hok hA hK;have ql:∀{b:Addr} {o:Obj},s₁.heap.get? b=some o ->H b=none ->(m5 s₁.heap H).get? b=some o:=fun e n=>zx6 e n;have DN:∀{b:Addr} {o:Obj} {es:Array DictEntry} {ep:Nat},s₁.heap.get? b=some o ->o.data= .dict es ep ->H b=none:=fun{b o es ep} e d=>by
   cases q:H b with
   | none=>rfl
   | some u=>
    have e' :b=a:=hA b (by rw[q];simp)
    subst e';rw[ha] at e;cases e;have d' :Data.seq vs.toArray _=Data.dict es ep:=d;cases d'
  have Jx:∀{b:Addr} {m:Str ->Option Value},s₁.heap.Ns b m ->(m5 s₁.heap H).Ns b m:=fun{b m} Ei=>by obtain⟨o,es,ep,e,d,r⟩:=Ei;exact⟨o,es,ep,ql e (DN e d),d,r⟩
  have WR:K.In (m5 s₁.heap H):=fun b o e=>ql (KX b o e) (by
   cases q:H b with
   | none=>rfl
   | some u=>
    have e' :b=a:=hA b (by rw[q];simp)
    subst e';rw[hK (by rw[q];simp)] at e;cases e)
  have hM:Mod K mg (m5 s₁.heap H):=⟨WR,Jx hns,⟨mb,Jx hb,hbb⟩,let ⟨mc,h1,h2⟩:=hlim;⟨mc,Jx h1,h2⟩⟩;have e0:vp P w K mg (m5 s₁.heap H) callerA [] s₁ H:=⟨rfl,hM,fun b o e=>z2i e,Nat.le_of_eq (zv6 _ _),trivial,fun b hb=>absurd (show b∈ ([]:List Addr) from hb) (by simp),hok,.of_eq hg⟩
  refine codeAny_mono ((F _ WR (Jx hns)).run callerA [] s₁ H ⟨[.ref a],[]⟩ [.ref a] [.ref a] _ _ hr e0 (hbind s₁ (.ref a)) (.cons rfl .nil) (hsp H hO hS)) fun r s' h=> ?_;cases r with
  | error e=>exact(Om H e s' h).elim
  | ok fl=>
   cases fl with
   | next=>exact False.elim h
   | brk=>exact False.elim h
   | cont=>exact False.elim h
   | ret u=>
    obtain⟨v,H',os,bare,un,hok',r',q⟩:=h;have q' :v= .bl true:=q;subst q';obtain rfl:u=Value.bool true:=r';refine⟨rfl,OldK.of_keep fun b o e=> ?_,os,bare⟩;cases q:H b with
    | none=>exact un.keep b o e q (by intro z;exact absurd (show b∈ ([]:List Addr) from z) (by simp)) (by simp)
    | some u=>
     rcases hO b with z | ⟨ob,xs,z⟩
     ·rw[q] at z;cases z
     ·have z2:=un.lX b ob _ z;obtain⟨e1,_⟩:=hok b _ z;obtain⟨e2,_⟩:=hok' b _ z2;rw[e] at e1;cases e1;exact e2
 cases hk:K.lookup a with
 | some o=>
  
  have e:=KX a o hk;rw[ha] at e;cases e;refine core (fun _=>none) (fun _=> .inl rfl) (.inr ⟨_,vs.toArray,_,hk,rfl,rfl,rfl,by rw[List.size_toArray,lenV];exact hl,by simpa using rv⟩) (fun b u z=>by have z' :(none:Option HO)=some u:=z;cases z') (fun b z=>absurd rfl z) fun z=>absurd rfl z
 | none=>
  refine core (fun b=>if b=a then some (.frz {cls:= .type "list",data:= .seq vs.toArray} (.lst (ns.map V.int))) else none) (fun b=> ?_) (.inl (.inr ⟨{cls:= .type "list",data:= .seq vs.toArray},if_pos rfl⟩)) (fun b u z=> ?_) (fun b z=> ?_) fun _=>hk
  ·by_cases hb:b=a
   ·exact .inr ⟨_,_,if_pos hb⟩
   ·exact .inl (if_neg hb)
  ·by_cases hb:b=a
   ·have z' :=(if_pos hb).symm.trans z;cases z';subst hb;exact⟨ha,by rw[List.length_map];exact hl,vs,_,rv,ha⟩
   ·have z' :=(if_neg hb).symm.trans z;cases z'
  ·by_cases hb:b=a
   ·exact hb
   ·exact absurd (if_neg hb) z
abbrev KOf{K:W.Frag}{h:Heap}(_:K.In h):W.Frag:=K
def z6s(s:Stmt)(j:Nat):Stmt:=match s with
 | .ClassDef _ _ _ body _ _ _ _ _ _ _=>body.getD j (.Pass ⟨0,0,0,0⟩)
 | _=> .Pass ⟨0,0,0,0⟩
def vC(s:Stmt):Arguments:=match s with
 | .FunctionDef _ a _ _ _ _ _ _ _ _=>a
 | _=>{posonlyargs:= [],args:= [],vararg:=none,kwonlyargs:= [],kw_defaults:= [],kwarg:=none,defaults:= []}
def sG(s:Stmt):List Stmt:=match s with
 | .FunctionDef _ _ b _ _ _ _ _ _ _=>b
 | _=> []
def bL(s:Stmt):Scope:=match s with
 | .FunctionDef _ _ _ _ _ _ sc _ _ _=>sc
 | _=>{kind:= .function,names:= [],isGenerator:=false,isCoroutine:=false}
abbrev CX0:qN:=fun _ _ _ _ _ _=>False
abbrev E0:XK:=fun _ _ _=>False
structure fu (K:W.Frag) (x qual:Str) (st:Stmt) (f:Addr) (fd:FuncData):Prop where
 ex:∃(oc:Value) (od:Option Addr) (kV doc pm:Value) (an:Option Addr) (cdv ct:Value) (osl:Array (Option Value)),
  fd=W.fnOf x qual (vC st) (sG st) (bL st) .none kV doc pm an cdv ct/\K.lookup f=some ⟨oc,od,.func fd,osl⟩/\W.codeIn K cdv qual=true
 kp:W.keepIn K (.ref f)=true
section
variable{P:Program}{w:World}{K:W.Frag}{mg:Str ->Option Value}{base:Heap}
theorem fu.binds{x qual:Str}{st:Stmt}{f:Addr}{fd:FuncData}{ps:List Str}(F:fu K x qual st f fd)
  (h:∀(kV doc pm:Value) (an:Option Addr) (cdv ct:Value) (us:List Value),us.length=ps.length ->bindArgs (W.fnOf x qual (vC st) (sG st) (bL st) .none kV doc pm an cdv ct) ⟨us,[]⟩=pure (ps.zip us)):Binds K fd ps []:=by
 obtain⟨oc,od,kV,doc,pm,an,cdv,ct,osl,rfl,lk,hcd⟩:=F.ex;exact .all (h kV doc pm an cdv ct)
end
section
variable{X:Cx}
end
def Same(H H' :Hp):Prop:=∀b o,H b=some o ->H' b=some o
theorem Same.refl(H:Hp):Same H H:=fun _ _ h=>h
theorem Same.trans{H H1 H2:Hp}(a:Same H H1)(b:Same H1 H2):Same H H2:=fun c o h=>b c o (a c o h)
theorem Same.free{H H' :Hp}(e:Same H H'){l:Addr}(h:H' l=Option.none):H l=Option.none:=by
 cases q:H l with
 | none=>rfl
 | some o=>
  rw[e l o q] at h;cases h
theorem Same.seq{K:W.Frag}{H H' :Hp}{a:Addr}{xs:List V}(e:Same H H')(h:fM K H a xs):fM K H' a xs:=by
 rcases h with (h | ⟨o,h⟩) | h
 ·exact .inl (.inl (e _ _ h))
 ·exact .inl (.inr ⟨o,e _ _ h⟩)
 ·exact .inr h
section
variable{X:Cx}
end
section
variable{κ:Type}[DecidableEq κ]
end
end L2
namespace L3
open PySem PySem.Spec PyProof.Rows L2
abbrev St:=L2.St
inductive D where
 | non | bl (b:Bool) | int (i:Int) | str (x:Str) | tup (xs:List D) | lst (xs:List D) | exc (C:Addr) | ptr (a:Addr)
 | obj (C:Addr) (fs:List Str) (xs:List D) | dic (ks:List Key) (xs:List D) | gh (ks:List (List Key)) (xs:List D) | dik (ks:List Key) (xs:List D)
def Ej(a C:Addr):HO:= .ext fun h=>∃o vs,h.get? a=some o/\o.cls= .ref C/\o.data= .fields vs/\vs[2]?=some Value.none
def Oo(F:Hp)(a:Addr):Prop:=∃o C,F a=some (.frz o (Ej a C))
mutual
def Rep(K:W.Frag)(F:Hp):D ->V ->Prop
 | .non,v=>v= .non
 | .bl b,v=>v= .bl b
 | .int i,v=>v= .int i
 | .str x,v=>v= .str x
 | .tup ds,v=>∃a vs,v= .ref a/\iY K F a vs/\ak K F ds vs
 | .lst ds,v=>∃a vs,v= .ref a/\fM K F a vs/\ak K F ds vs
 | .exc C,v=>∃a o,v= .ref a/\F a=some (.frz o (Ej a C))
 | .ptr a,v=>v= .ref a
 | .obj C fs ds,v=>∃a dx vs,v= .ref a/\F a=some (.ins C dx (fs.zip vs))/\fs.length=vs.length/\ak K F ds vs
 | .dic ks ds,v=>∃a vs,v= .ref a/\F a=some (.dK (ks.zip vs))/\ks.length=vs.length/\ak K F ds vs
 | .gh ks ds,v=>∃a vs,v= .ref a/\F a=some (.dT (ks.zip vs))/\ks.length=vs.length/\ak K F ds vs
 | .dik ks ds,v=>∃a o vs,v= .ref a/\F a=some (.frz o (.dK (ks.zip vs)))/\ks.length=vs.length/\ak K F ds vs
def ak(K:W.Frag)(F:Hp):List D ->List V ->Prop
 | [],vs=>vs= []
 | d::ds,vs=>∃v r,vs=v::r/\Rep K F d v/\ak K F ds r
end
theorem jX{K:W.Frag}{H H' :Hp}{a:Addr}{xs:List V}(e:Same H H')(h:iY K H a xs):iY K H' a xs:=by
 rcases h with (h | ⟨o,h⟩) | h
 ·exact .inl (.inl (e _ _ h))
 ·exact .inl (.inr ⟨o,e _ _ h⟩)
 ·exact .inr h
mutual
theorem WT{K:W.Frag}{F F' :Hp}(e:Same F F'):∀(d:D) (v:V),Rep K F d v ->Rep K F' d v
 | .non,_,h=>by unfold Rep at h⊢;exact h
 | .bl _,_,h=>by unfold Rep at h⊢;exact h
 | .int _,_,h=>by unfold Rep at h⊢;exact h
 | .str _,_,h=>by unfold Rep at h⊢;exact h
 | .tup ds,_,h=>by
  unfold Rep at h⊢;obtain⟨a,vs,h0,h1,h2⟩:=h;exact⟨a,vs,h0,jX e h1,wz e ds vs h2⟩
 | .lst ds,_,h=>by
  unfold Rep at h⊢;obtain⟨a,vs,h0,h1,h2⟩:=h;exact⟨a,vs,h0,e.seq h1,wz e ds vs h2⟩
 | .ptr _,_,h=>by unfold Rep at h⊢;exact h
 | .exc C,_,h=>by
  unfold Rep at h⊢;obtain⟨a,o,h0,h1⟩:=h;exact⟨a,o,h0,e _ _ h1⟩
 | .obj C fs ds,_,h=>by
  unfold Rep at h⊢;obtain⟨a,dx,vs,h0,h1,h3,h4⟩:=h;exact⟨a,dx,vs,h0,e _ _ h1,h3,wz e ds vs h4⟩
 | .dic ks ds,_,h=>by
  unfold Rep at h⊢;obtain⟨a,vs,h0,h1,h3,h4⟩:=h;exact⟨a,vs,h0,e _ _ h1,h3,wz e ds vs h4⟩
 | .gh ks ds,_,h=>by
  unfold Rep at h⊢;obtain⟨a,vs,h0,h1,h3,h4⟩:=h;exact⟨a,vs,h0,e _ _ h1,h3,wz e ds vs h4⟩
 | .dik ks ds,_,h=>by
  unfold Rep at h⊢;obtain⟨a,o,vs,h0,h1,h3,h4⟩:=h;exact⟨a,o,vs,h0,e _ _ h1,h3,wz e ds vs h4⟩
theorem wz{K:W.Frag}{F F' :Hp}(e:Same F F'):∀(ds:List D) (vs:List V),ak K F ds vs ->ak K F' ds vs
 | [],_,h=>by unfold ak at h⊢;exact h
 | d::ds,_,h=>by
  unfold ak at h⊢;obtain⟨v,r,h0,h1,h2⟩:=h;exact⟨v,r,h0,WT e d v h1,wz e ds r h2⟩
end
theorem Rep.up{K:W.Frag}{F F' :Hp}{d:D}{v:V}(h:Rep K F d v)(e:Same F F'):Rep K F' d v:=WT e d v h
theorem ak.up{K:W.Frag}{F F' :Hp}{ds:List D}{vs:List V}(h:ak K F ds vs)(e:Same F F'):ak K F' ds vs:=wz e ds vs h
theorem gj{K:W.Frag}{F:Hp}:∀{ds:List D} {vs:List V},ak K F ds vs ->ds.length=vs.length
 | [],_,h=>by unfold ak at h;subst h;rfl
 | _::_,_,h=>by
  unfold ak at h;obtain⟨v,r,rfl,_,h2⟩:=h;simp only [List.length_cons,gj h2]
theorem oA{K:W.Frag}{F:Hp}:∀{ds:List D} {vs:List V} {i:Nat} {d:D},ak K F ds vs ->ds[i]?=some d ->∃v,vs[i]?=some v/\Rep K F d v
 | [],_,_,_,_,e=>by simp at e
 | _::_,_,0,_,h,e=>by
  unfold ak at h;obtain⟨v,r,rfl,h1,_⟩:=h;simp at e;subst e;exact⟨v,rfl,h1⟩
 | _::_,_,i+1,d,h,e=>by
  unfold ak at h;obtain⟨v,r,rfl,_,h2⟩:=h;obtain⟨u,e1,e2⟩:=oA (i:=i) h2 (by simpa using e)
  exact⟨u,by simpa using e1,e2⟩
theorem WW{K:W.Frag}{F:Hp}:∀{ds:List D} {vs:List V} {i:Nat} {v:V},ak K F ds vs ->vs[i]?=some v ->∃d,ds[i]?=some d/\Rep K F d v
 | [],_,_,_,h,e=>by unfold ak at h;subst h;simp at e
 | d::_,_,0,_,h,e=>by
  unfold ak at h;obtain⟨v,r,rfl,h1,_⟩:=h;simp at e;subst e;exact⟨d,rfl,h1⟩
 | _::_,_,i+1,v,h,e=>by
  unfold ak at h;obtain⟨v',r,rfl,_,h2⟩:=h;obtain⟨u,e1,e2⟩:=WW (i:=i) h2 (by simpa using e)
  exact⟨u,by simpa using e1,e2⟩
theorem Az{K:W.Frag}{F:Hp}:∀{ds es:List D} {vs us:List V},ak K F ds vs ->ak K F es us ->ak K F (ds++es) (vs++us)
 | [],_,_,_,h,k=>by unfold ak at h;subst h;exact k
 | _::_,_,_,_,h,k=>by
  unfold ak at h;obtain⟨v,r,rfl,h1,h2⟩:=h;show ak K F (_::(_++_)) _;unfold ak;exact⟨v,_,rfl,h1,Az h2 k⟩
theorem Jy{K:W.Frag}{F:Hp}{d:D}{v:V}(h:Rep K F d v):ak K F [d] [v]:=by
 unfold ak;exact⟨v,[],rfl,h,by unfold ak;rfl⟩
theorem pI{K:W.Frag}{F:Hp}{d:D}{v:V}{ds:List D}{vs:List V}(h:Rep K F d v)(k:ak K F ds vs):ak K F (d::ds) (v::vs):=by
 unfold ak;exact⟨v,vs,rfl,h,k⟩
theorem WX{K:W.Frag}{F:Hp}:∀{ds:List D} {vs:List V} (n:Nat),ak K F ds vs ->ak K F (ds.take n) (vs.take n)
 | _,_,0,_=>by simp [ak]
 | [],_,_+1,h=>by unfold ak at h;subst h;simp [ak]
 | _::_,_,n+1,h=>by
  unfold ak at h;obtain⟨u,r,rfl,h1,h2⟩:=h;exact pI h1 (WX n h2)
theorem WY{K:W.Frag}{F:Hp}:∀{ds:List D} {vs:List V} (n:Nat),ak K F ds vs ->ak K F (ds.drop n) (vs.drop n)
 | _,_,0,h=>h
 | [],_,_+1,h=>by unfold ak at h;subst h;simp [ak]
 | _::_,_,n+1,h=>by
  unfold ak at h;obtain⟨u,r,rfl,h1,h2⟩:=h;exact WY n h2
def sH(H:Hp)(b:Addr)(o:HO):Prop:=H b=none\/ (∃xs,o= .tup xs)/\H b=some o
theorem sH.back(s:Same H H1)(h:sH H1 b o):sH H b o:=by
 rcases h with h | ⟨⟨xs,e⟩,h⟩
 ·exact .inl (s.free h)
 ·cases q:H b with
  | none=>exact .inl q
  | some u=>
   have:=s _ _ q;rw[h] at this;cases this;exact .inr ⟨⟨xs,e⟩,q⟩
structure Gr (F H F' H' :Hp):Prop where
 f:Same F F'
 g:Same F' H'
 h:Same H H'
 n:∀b o,F' b=some o ->F b=none ->sH H b o
theorem Gr.refl(h:Same F H):Gr F H F H:=⟨.refl _,h,.refl _,fun b o e n=>by rw[e] at n;cases n⟩
theorem Gr.trans(a:Gr F H F1 H1)(b:Gr F1 H1 F2 H2):Gr F H F2 H2:=by
 refine⟨a.f.trans b.f,b.g,a.h.trans b.h,fun c o e n=> ?_⟩;cases q:F1 c with
 | none=>exact sH.back a.h (b.n c o e q)
 | some u=>have:=b.f _ _ q;rw[e] at this;cases this;exact a.n c _ q n
theorem Gr.laid(h:Same F H)(hp:H p=none):Gr F H (L2.upd F p o) (L2.upd H p o):=by
 refine⟨fun b u e=> ?_,fun b u e=> ?_,fun b u e=> ?_,fun b u e n=> ?_⟩
 ·rw[c7 (lU (h b u e) hp)];exact e
 ·by_cases hb:b=p
  ·subst hb;rw[lW] at e⊢;exact e
  ·rw[c7 hb] at e⊢;exact h b u e
 ·rw[c7 (lU e hp)];exact e
 ·by_cases hb:b=p
  ·subst hb;exact .inl hp
  ·rw[c7 hb,n] at e;cases e
inductive T where
 | leaf (d:D) | lst (ts:List T) | dic (ks:List L2.Key) (ts:List T) | gh (ks:List (List L2.Key)) (ts:List T) | ob (C:Addr) (fs:List Str) (ts:List T) | kt (k:List L2.Key)
def cX:Key ->D | .inl i=> .int i | .inr x=> .str x
def sI(fs:List Str):Bool:= !decide (fs= [("points" :Str)])
mutual
def TR(K:W.Frag)(F H:Hp):T ->V ->List Addr ->Prop
 | .leaf d,v,as=>as= []/\Rep K F d v
 | .lst ts,v,as=>∃a vs bs,v= .ref a/\as=a::bs/\H a=some (.lst vs)/\cW K F H ts vs bs
 | .dic ks ts,v,as=>∃a vs bs,v= .ref a/\as=a::bs/\H a=some (.dK (ks.zip vs))/\ks.length=vs.length/\cW K F H ts vs bs
 | .gh ks ts,v,as=>∃a vs bs,v= .ref a/\as=a::bs/\H a=some (.dT (ks.zip vs))/\ks.length=vs.length/\cW K F H ts vs bs
 | .ob C fs ts,v,as=>∃a dx vs bs,v= .ref a/\as=a::dx::bs/\H a=some (.ins C dx (fs.zip vs))/\H dx=some (.own a)/\fs.length=vs.length/\sI fs=true/\cW K F H ts vs bs
 | .kt k,v,as=>as= []/\∃a,v= .ref a/\F a=some (.tup (k.map kV))
def cW(K:W.Frag)(F H:Hp):List T ->List V ->List Addr ->Prop
 | [],vs,as=>vs= []/\as= []
 | t::ts,vs,as=>∃v us bs cs,vs=v::us/\as=bs++cs/\TR K F H t v bs/\cW K F H ts us cs
end
section
variable{K:W.Frag}{F H F' H' :Hp}
mutual
theorem TR.move(f:Same F F'):∀(t:T) (v:V) (as:List Addr),(∀a∈as,∀u,H a=some u ->H' a=some u) ->TR K F H t v as ->TR K F' H' t v as
 | .leaf d,v,as,k,h=>by unfold TR at h⊢;exact⟨h.1,h.2.up f⟩
 | .lst ts,v,as,k,h=>by
  unfold TR at h⊢;obtain⟨a,vs,bs,e1,rfl,e3,h⟩:=h;exact⟨a,vs,bs,e1,rfl,k a zY _ e3,cW.move f ts vs bs (fun b hb=>k b (zX _ hb)) h⟩
 | .dic ks ts,v,as,k,h=>by
  unfold TR at h⊢;obtain⟨a,vs,bs,e1,rfl,e3,e4,h⟩:=h;exact⟨a,vs,bs,e1,rfl,k a zY _ e3,e4,cW.move f ts vs bs (fun b hb=>k b (zX _ hb)) h⟩
 | .gh ks ts,v,as,k,h=>by
  unfold TR at h⊢;obtain⟨a,vs,bs,e1,rfl,e3,e4,h⟩:=h;exact⟨a,vs,bs,e1,rfl,k a zY _ e3,e4,cW.move f ts vs bs (fun b hb=>k b (zX _ hb)) h⟩
 | .ob C fs ts,v,as,k,h=>by
  unfold TR at h⊢;obtain⟨a,dx,vs,bs,e1,rfl,e3,e4,e5,e6,h⟩:=h;exact⟨a,dx,vs,bs,e1,rfl,k a zY _ e3,k dx (zX _ zY) _ e4,e5,e6,cW.move f ts vs bs (fun b hb=>k b (zX _ (zX _ hb))) h⟩
 | .kt _,v,as,k,h=>by unfold TR at h⊢;obtain⟨e,a,e1,e2⟩:=h;exact⟨e,a,e1,f _ _ e2⟩
theorem cW.move(f:Same F F'):∀(ts:List T) (vs:List V) (as:List Addr),(∀a∈as,∀u,H a=some u ->H' a=some u) ->cW K F H ts vs as ->cW K F' H' ts vs as
 | [],vs,as,k,h=>by unfold cW at h⊢;exact h
 | t::ts,vs,as,k,h=>by
  unfold cW at h⊢;obtain⟨v,us,bs,cs,e1,rfl,h1,h2⟩:=h;exact⟨v,us,bs,cs,e1,rfl,TR.move f t v bs (fun b hb=>k b (zQ _ hb)) h1,cW.move f ts us cs (fun b hb=>k b (zR _ hb)) h2⟩
end
def LD(u:HO):Prop:=(∃vs,u= .lst vs)\/ (∃kvs,u= .dK kvs)\/ (∃kvs,u= .dT kvs)\/ (∃C dx kvs,u= .ins C dx kvs/\sI (kvs.map (·.1))=true)\/∃a,u= .own a
theorem W0:∀{fs:List Str} {vs:List V},fs.length=vs.length ->(fs.zip vs).map (·.1)=fs
 | [],_,_=>rfl
 | _::_,[],h=>by cases h
 | f::fs,v::vs,h=>by rw[List.zip_cons_cons,List.map_cons,W0 (by simpa using h)]
theorem LD.tup(h:LD (.tup xs)):False:=by rcases h with ⟨_,z⟩ | ⟨_,z⟩ | ⟨_,z⟩ | ⟨_,_,_,z,_⟩ | ⟨_,z⟩<;>cases z
mutual
theorem TR.there:∀(t:T) (v:V) (as:List Addr),TR K F H t v as ->∀a∈as,∃u,H a=some u/\LD u
 | .leaf d,v,as,h,a,ha=>by unfold TR at h;rw[h.1] at ha;cases ha
 | .lst ts,v,as,h,a,ha=>by
  unfold TR at h;obtain⟨b,vs,bs,e1,rfl,e3,h⟩:=h;rcases zV.mp ha with rfl | ha
  ·exact⟨_,e3,.inl ⟨_,rfl⟩⟩
  ·exact cW.there ts vs bs h a ha
 | .dic ks ts,v,as,h,a,ha=>by
  unfold TR at h;obtain⟨b,vs,bs,e1,rfl,e3,_,h⟩:=h;rcases zV.mp ha with rfl | ha
  ·exact⟨_,e3,.inr (.inl ⟨_,rfl⟩)⟩
  ·exact cW.there ts vs bs h a ha
 | .gh ks ts,v,as,h,a,ha=>by
  unfold TR at h;obtain⟨b,vs,bs,e1,rfl,e3,_,h⟩:=h;rcases zV.mp ha with rfl | ha
  ·exact⟨_,e3,.inr (.inr (.inl ⟨_,rfl⟩))⟩
  ·exact cW.there ts vs bs h a ha
 | .ob C fs ts,v,as,h,a,ha=>by
  unfold TR at h;obtain⟨b,dx,vs,bs,e1,rfl,e3,e4,e5,e6,h⟩:=h;rcases zV.mp ha with rfl | ha
  ·exact⟨_,e3,.inr (.inr (.inr (.inl ⟨_,_,_,rfl,by rw[W0 e5];exact e6⟩)))⟩
  ·rcases zV.mp ha with rfl | ha
   ·exact⟨_,e4,.inr (.inr (.inr (.inr ⟨_,rfl⟩)))⟩
   ·exact cW.there ts vs bs h a ha
 | .kt _,v,as,h,a,ha=>by unfold TR at h;rw[h.1] at ha;cases ha
theorem cW.there:∀(ts:List T) (vs:List V) (as:List Addr),cW K F H ts vs as ->∀a∈as,∃u,H a=some u/\LD u
 | [],vs,as,h,a,ha=>by unfold cW at h;rw[h.2] at ha;cases ha
 | t::ts,vs,as,h,a,ha=>by
  unfold cW at h;obtain⟨v,us,bs,cs,e1,rfl,h1,h2⟩:=h;rcases zU.mp ha with ha | ha
  ·exact TR.there t v bs h1 a ha
  ·exact cW.there ts us cs h2 a ha
end
end
mutual
def toD:T ->D
 | .leaf d=>d
 | .lst ts=> .lst (d8 ts)
 | .dic ks ts=> .dic ks (d8 ts)
 | .gh ks ts=> .gh ks (d8 ts)
 | .ob C fs ts=> .obj C fs (d8 ts)
 | .kt k=> .tup (k.map cX)
def d8:List T ->List D
 | []=> []
 | t::ts=>toD t::d8 ts
end
theorem Jz{K:W.Frag}{F:Hp}:∀ks:List Key,ak K F (ks.map cX) (ks.map kV)
 | []=>by unfold List.map ak;rfl
 | .inl i::ks=>pI (by unfold cX Rep;rfl) (Jz ks)
 | .inr x::ks=>pI (by unfold cX Rep;rfl) (Jz ks)
section
variable{K:W.Frag}{F H F' :Hp}
mutual
theorem TR.rep(f:Same F F'):∀(t:T) (v:V) (as:List Addr),(∀a∈as,∀u,H a=some u ->F' a=some u) ->TR K F H t v as ->Rep K F' (toD t) v
 | .leaf d,v,as,k,h=>by unfold TR at h;unfold toD;exact h.2.up f
 | .lst ts,v,as,k,h=>by
  unfold TR at h;obtain⟨a,vs,bs,e1,rfl,e3,h⟩:=h;unfold toD Rep;exact⟨a,vs,e1,.inl (.inl (k a zY _ e3)),cW.rep f ts vs bs (fun b hb=>k b (zX _ hb)) h⟩
 | .dic ks ts,v,as,k,h=>by
  unfold TR at h;obtain⟨a,vs,bs,e1,rfl,e3,e4,h⟩:=h;unfold toD Rep;exact⟨a,vs,e1,k a zY _ e3,e4,cW.rep f ts vs bs (fun b hb=>k b (zX _ hb)) h⟩
 | .gh ks ts,v,as,k,h=>by
  unfold TR at h;obtain⟨a,vs,bs,e1,rfl,e3,e4,h⟩:=h;unfold toD Rep;exact⟨a,vs,e1,k a zY _ e3,e4,cW.rep f ts vs bs (fun b hb=>k b (zX _ hb)) h⟩
 | .ob C fs ts,v,as,k,h=>by
  unfold TR at h;obtain⟨a,dx,vs,bs,e1,rfl,e3,e4,e5,e6,h⟩:=h;unfold toD Rep;exact⟨a,dx,vs,e1,k a zY _ e3,e5,cW.rep f ts vs bs (fun b hb=>k b (zX _ (zX _ hb))) h⟩
 | .kt k,v,as,_,h=>by
  unfold TR at h;obtain⟨_,a,e1,e2⟩:=h;unfold toD Rep;exact⟨a,_,e1,.inl (.inl (f _ _ e2)),Jz k⟩
theorem cW.rep(f:Same F F'):∀(ts:List T) (vs:List V) (as:List Addr),(∀a∈as,∀u,H a=some u ->F' a=some u) ->cW K F H ts vs as ->ak K F' (d8 ts) vs
 | [],vs,as,k,h=>by unfold cW at h;unfold d8 ak;exact h.1
 | t::ts,vs,as,k,h=>by
  unfold cW at h;obtain⟨v,us,bs,cs,e1,rfl,h1,h2⟩:=h;unfold d8 ak;exact⟨v,us,e1,TR.rep f t v bs (fun b hb=>k b (zQ _ hb)) h1,cW.rep f ts us cs (fun b hb=>k b (zR _ hb)) h2⟩
end
end
inductive Slot where
 | no | pu (d:D) | ow (ds:List D) | tr (as:List Addr) (t:T)
def iZ(K:W.Frag)(F H H0:Hp):Slot ->Option V ->Prop
 | .no,_=>True
 | .pu d,o=>∃v,o=some v/\Rep K F d v
 | .ow ds,o=>∃a vs,o=some (.ref a)/\H a=some (.lst vs)/\F a=none/\H0 a=none/\ak K F ds vs
 | .tr as t,o=>∃v,o=some v/\as.Nodup/\ (∀b∈as,F b=none/\H0 b=none)/\TR K F H t v as
def eN:Slot ->Option V ->Addr ->Prop
 | .ow _,o,a=>o=some (.ref a)
 | .tr as _,_,a=>a∈as
 | _,_,_=>False
def jc(Γ:List Slot)(σ:St)(i:Nat)(a:Addr):Prop:=∃s o,Γ[i]?=some s/\σ[i]?=some o/\eN s o a
structure SR (K:W.Frag) (F0 H0 F H:Hp) (σ:St) (Γ:List Slot):Prop where
 gr:Gr F0 H0 F H
 len:σ.length=Γ.length
 sl:∀(i:Nat) s,Γ[i]?=some s ->∃o,σ[i]?=some o/\iZ K F H H0 s o
 ap:∀(i j:Nat) a,jc Γ σ i a ->jc Γ σ j a ->i=j
section
variable{K:W.Frag}{F0 H0 F H F' H' :Hp}{σ:St}{Γ:List Slot}
theorem SR.g(R:SR K F0 H0 F H σ Γ):Same F H:=R.gr.g
theorem uR(r:iZ K F H H0 s o)(h:eN s o a):F a=none/\H0 a=none/\∃u,H a=some u/\LD u:=by
 cases s with
 | no=>exact h.elim
 | pu d=>exact h.elim
 | ow ds=>obtain⟨b,vs,rfl,h1,h2,h3,_⟩:=r;cases h;exact⟨h2,h3,_,h1,.inl ⟨_,rfl⟩⟩
 | tr as t=>obtain⟨v,_,_,h2,h3⟩:=r;exact⟨(h2 a h).1,(h2 a h).2,TR.there t v as h3 a h⟩
theorem Ek(r:iZ K F H H0 s o)(f:Same F F')(k:∀a,eN s o a ->F' a=none/\∀u,H a=some u ->H' a=some u):iZ K F' H' H0 s o:=by
 cases s with
 | no=>trivial
 | pu d=>
  obtain⟨v,e,r⟩:=r;exact⟨v,e,r.up f⟩
 | ow ds=>
  obtain⟨a,vs,e,e1,e2,e3,r⟩:=r;obtain⟨k1,k2⟩:=k a e;exact⟨a,vs,e,k2 _ e1,k1,e3,r.up f⟩
 | tr as t=>
  obtain⟨v,e,nd,h,r⟩:=r;exact⟨v,e,nd,fun b hb=>⟨(k b hb).1,(h b hb).2⟩,TR.move f t v as (fun a ha=>(k a ha).2) r⟩
theorem zse(r:iZ K F H H0 s o)(g:Gr F H F' H'):iZ K F' H' H0 s o:=
 Ek r g.f fun a ha=>by
  obtain⟨h1,_,u,h3,ld⟩:=uR r ha;refine⟨?_,fun u e=>g.h _ _ e⟩;cases q:F' a with
  | none=>rfl
  | some w=>
   rcases g.n a w q h1 with z | ⟨⟨xs,e⟩,z⟩
   ·rw[h3] at z;cases z
   ·rw[h3] at z;cases z;subst e;exact ld.tup.elim
theorem SR.grow(R:SR K F0 H0 F H σ Γ)(g:Gr F H F' H'):SR K F0 H0 F' H' σ Γ:=by
 refine⟨R.gr.trans g,R.len,fun i s e=> ?_,R.ap⟩;obtain⟨o,e1,r⟩:=R.sl i s e;exact⟨o,e1,zse r g⟩
theorem El(h:jc (Γ.set i s) (σ.set i o) j a):(j=i/\eN s o a)\/ (j≠i/\jc Γ σ j a):=by
 obtain⟨t,p,e1,e2,h⟩:=h;by_cases hj:i=j
 ·subst hj;have hi:i<Γ.length:=by
   rcases Nat.lt_or_ge i Γ.length with h | h
   ·exact h
   ·rw[List.getElem?_eq_none (by simpa using h)] at e1;cases e1
  have hi' :i<σ.length:=by
   rcases Nat.lt_or_ge i σ.length with h | h
   ·exact h
   ·rw[List.getElem?_eq_none (by simpa using h)] at e2;cases e2
  rw[List.getElem?_set_self hi] at e1;rw[List.getElem?_set_self hi'] at e2;cases e1;cases e2;exact .inl ⟨rfl,h⟩
 ·rw[List.getElem?_set_ne hj] at e1 e2;exact .inr ⟨Ne.symm hj,t,p,e1,e2,h⟩
def Apart(σ:St)(Γ:List Slot)(a:Addr):Prop:=∀j,¬jc Γ σ j a
theorem SR.apart(R:SR K F0 H0 F H σ Γ)(h:H a=none):Apart σ Γ a:=fun j hq1=>by
 obtain⟨s,o,e1,e2,q⟩:=hq1;obtain⟨o',e3,r⟩:=R.sl j s e1;rw[e2] at e3;cases e3;obtain⟨_,_,u,e,_⟩:=uR r q;rw[h] at e;cases e
theorem SR.put(R:SR K F0 H0 F H σ Γ)(i:Nat)(r:iZ K F H H0 s o)(ha:∀a,eN s o a ->Apart σ Γ a):SR K F0 H0 F H (σ.set i o) (Γ.set i s):=by
 refine⟨R.gr,by simp [R.len],fun j t e=> ?_,fun j k a e1 e2=> ?_⟩
 ·by_cases hj:i=j
  ·subst hj;have hi:i<Γ.length:=by
    rcases Nat.lt_or_ge i Γ.length with h | h
    ·exact h
    ·rw[List.getElem?_eq_none (by simpa using h)] at e;cases e
   rw[List.getElem?_set_self hi] at e;cases e;exact⟨o,List.getElem?_set_self (by rw[R.len];exact hi),r⟩
  ·rw[List.getElem?_set_ne hj] at e;rw[List.getElem?_set_ne hj];exact R.sl j t e
 ·rcases El e1 with ⟨rfl,q1⟩ | ⟨n1,q1⟩
  ·rcases El e2 with ⟨rfl,_⟩ | ⟨_,q2⟩
   ·rfl
   ·exact(ha a q1 _ q2).elim
  ·rcases El e2 with ⟨rfl,q2⟩ | ⟨_,q2⟩
   ·exact(ha a q2 _ q1).elim
   ·exact R.ap j k a q1 q2
theorem SR.set(R:SR K F0 H0 F H σ Γ)(i:Nat)(r:Rep K F d v):SR K F0 H0 F H (σ.set i (some v)) (Γ.set i (.pu d)):=R.put i ⟨v,rfl,r⟩ fun _ h=>h.elim
theorem SR.drop(R:SR K F0 H0 F H σ Γ)(i:Nat)(o:Option V):SR K F0 H0 F H (σ.set i o) (Γ.set i .no):=R.put i trivial fun _ h=>h.elim
theorem SR.setOw(R:SR K F0 H0 F H σ Γ)(i:Nat)(h1:H a=some (.lst vs))(h2:F a=none)(h3:H0 a=none)(r:ak K F ds vs)(ha:Apart σ Γ a):
  SR K F0 H0 F H (σ.set i (some (.ref a))) (Γ.set i (.ow ds)):=R.put i ⟨a,vs,rfl,h1,h2,h3,r⟩ fun b h=>by cases h;exact ha
theorem Oq(g:Same F H)(h1:H a=some (.lst vs))(h2:F a=none):Same F (L2.upd F a (.lst vs))/\Same (L2.upd F a (.lst vs)) H:=by
 refine⟨fun b u e=> ?_,fun b u e=> ?_⟩
 ·rw[c7 (lU e h2)];exact e
 ·by_cases hb:b=a
  ·subst hb;rw[lW] at e;cases e;exact h1
  ·rw[c7 hb] at e;exact g b u e
theorem SR.frzM(R:SR K F0 H0 F H σ Γ)(s1:Same F F')(s2:Same F' H)(n:∀b u,F' b=some u ->F b=none ->H0 b=none/\Apart σ Γ b):SR K F0 H0 F' H σ Γ:=by
 refine⟨⟨R.gr.f.trans s1,s2,R.gr.h,fun b o e q=> ?_⟩,R.len,fun j s e=> ?_,R.ap⟩
 ·cases z:F b with
  | none=>exact .inl (n b o e z).1
  | some u=>have:=s1 _ _ z;rw[e] at this;cases this;exact R.gr.n b _ z q
 ·obtain⟨o,e1,r⟩:=R.sl j s e;refine⟨o,e1,Ek r s1 fun b hb=>⟨?_,fun _ q=>q⟩⟩;obtain⟨h1,_,_⟩:=uR r hb;cases q:F' b with
  | none=>rfl
  | some u=>exact((n b u q h1).2 j ⟨s,o,e,e1,hb⟩).elim
def aaH(F H:Hp):Hp:=fun b=>match F b with | some u=>some u | none=>match H b with | some (.tup xs)=>some (.tup xs) | _=>none
theorem SR.frzA(R:SR K F0 H0 F H σ Γ)(h1:H a=some (.lst vs))(h2:F a=none)(h3:H0 a=none)(ha:Apart σ Γ a):SR K F0 H0 (L2.upd F a (.lst vs)) H σ Γ:=by
 obtain⟨s1,s2⟩:=Oq R.g h1 h2;refine R.frzM s1 s2 fun b u e n=> ?_;by_cases hb:b=a
 ·subst hb;exact⟨h3,ha⟩
 ·rw[c7 hb,n] at e;cases e
theorem Ba(e1:σ[i]?=some o):σ.set i o=σ:=by
 obtain⟨hl,e2⟩:=zW.mp e1;rw[<- e2];simp
theorem SR.less(R:SR K F0 H0 F H σ Γ)(e:Γ[i]?=some s)(e1:σ[i]?=some o)(h:eN s o a):Apart σ (Γ.set i .no) a:=fun j q=>by
 have q' :jc (Γ.set i .no) (σ.set i o) j a:=by rw[Ba e1];exact q
 rcases El q' with ⟨_,z⟩ | ⟨n,z⟩
 ·exact z
 ·exact n (R.ap j i a z ⟨s,o,e,e1,h⟩)
theorem SR.dropAt(R:SR K F0 H0 F H σ Γ)(e1:σ[i]?=some o):SR K F0 H0 F H σ (Γ.set i .no):=by
 have q:=R.drop i o;rw[Ba e1] at q;exact q
theorem SR.frz(R:SR K F0 H0 F H σ Γ)(e:Γ[i]?=some (.ow ds)):∃a F',σ[i]?=some (some (.ref a))/\Same F F' /\SR K F0 H0 F' H σ (Γ.set i (.pu (.lst ds)))/\Rep K F' (.lst ds) (.ref a):=by
 obtain⟨o,e1,a,vs,rfl,h1,h2,h3,r⟩:=R.sl i _ e;obtain⟨s1,_⟩:=Oq R.g h1 h2;have rp:Rep K (L2.upd F a (.lst vs)) (.lst ds) (.ref a):=by
  unfold Rep;exact⟨a,vs,rfl,.inl (.inl lW),r.up s1⟩
 have R2:=((R.dropAt e1).frzA h1 h2 h3 (R.less e e1 (show eN (Slot.ow ds) (some (.ref a)) a from rfl))).set i rp;rw[Ba e1,List.set_set] at R2;exact⟨a,_,e1,s1,R2,rp⟩
theorem SR.wrO(R:SR K F0 H0 F H σ Γ)(e:Γ[i]?=some s)(e1:σ[i]?=some o)(h:eN s o a)(r:iZ K F (L2.upd H a u) H0 t o)(ht:∀b,eN t o b ->eN s o b):
  SR K F0 H0 F (L2.upd H a u) σ (Γ.set i t):=by
 obtain⟨o',e2,r0⟩:=R.sl i _ e;rw[e1] at e2;cases e2;obtain⟨h2,h3,w,h1,_⟩:=uR r0 h;have hi:i<Γ.length:=(zW.mp e).1;have R1:SR K F0 H0 F (L2.upd H a u) σ (Γ.set i .no):=by
  have R0:=R.dropAt e1;refine⟨⟨R0.gr.f,fun b u q=> ?_,fun b u q=> ?_,fun b o q n=>R0.gr.n b o q n⟩,R0.len,fun j s' q=> ?_,R0.ap⟩
  ·rw[c7 (lU q h2)];exact R0.g b u q
  ·rw[c7 (lU q h3)];exact R0.gr.h b u q
  ·obtain⟨o,p1,p2⟩:=R0.sl j s' q;refine⟨o,p1,Ek p2 (.refl _) fun b hb=>⟨(uR p2 hb).1,fun u q' => ?_⟩⟩;have:b≠a:=fun z=>by subst z;exact R.less e e1 h j ⟨s',o,q,p1,hb⟩
   rw[c7 this];exact q'
 have R2:=R1.put i r fun b hb=>R.less e e1 (ht b hb);rw[Ba e1,List.set_set] at R2;exact R2
theorem SR.wr(R:SR K F0 H0 F H σ Γ)(e:Γ[i]?=some (.ow ds))(e1:σ[i]?=some (some (.ref a)))(r:ak K F es us):
  SR K F0 H0 F (L2.upd H a (.lst us)) σ (Γ.set i (.ow es)):=by
 obtain⟨o,e2,r0⟩:=R.sl i _ e;rw[e1] at e2;cases e2;obtain⟨h2,h3,_⟩:=uR r0 (show eN (Slot.ow ds) (some (.ref a)) a from rfl);exact R.wrO e e1 (show eN (Slot.ow ds) (some (.ref a)) a from rfl) ⟨a,us,rfl,lW,h2,h3,r⟩ fun b hb=>hb
end
def W3(h B:Heap)(e:Addr)(cls:Value)(dd:Option Addr)(fl:Value):Prop:=
 ∃oe vs T oT ts,h.get? e=some oe/\ (oe.cls=cls/\oe.dict=dd/\vs[2]?=some Value.none)/\oe.data= .fields vs/\vs[1]?=some (.ref T)/\B.get? T=none/\T≠e/\h.get? T=some oT/\oT.data= .fields ts/\ts[3]?=some fl
def Em(B:Heap)(l:List Env)(a:Addr)(cls:Value)(h:Heap):Prop:=
 B.StaysIn h/\B.get? a=none/\h.FunFrames B l/\
  ((∃dd,W3 h B a cls dd .none)\/∃oe vs,h.get? a=some oe/\oe.cls=cls/\oe.data= .fields vs/\vs[1]?=some Value.none/\vs[2]?=some Value.none)
def qm(B:Heap)(l:List Env)(e:Addr)(cls:Value)(dd:Option Addr)(fl:Value)(h:Heap):Prop:=B.StaysIn h/\B.get? e=none/\h.FunFrames B l/\W3 h B e cls dd fl
section
variable{M:Model}{A:Around}{E:bJ}{s:Shared}{B:Heap}{env:Env}{outer:List Env}{L a:Addr}{cls fl:Value}{dd:Option Addr}{Q:Unit ->Shared ->Prop}
theorem zuj(f:Array Value ->Array Value)(o:Obj):(Obj.mapFields f o).dict=o.dict:=by
 unfold Obj.mapFields;split<;>rfl
theorem Bb{h:Heap}{T b:Addr}{oT o:Obj}{ts:Array Value}(hT:h.get? T=some oT)(hd:oT.data= .fields ts)(hb:h.get? b=some o)(hn:∀vs,o.data≠ .fields vs):b≠T:=fun q=>by
 rw[q,hT] at hb;injection hb with hb;subst hb;exact hn ts hd
theorem En{l:List Env}(x:qm B l a cls dd fl s.heap)(hQ:∀h',qm B l a cls dd .none h' ->s.heap.UpToSlots h' ->Q () {s with heap:=h'}):wpAny M A (setFlight (.ref a) none) Q E s:=by
 obtain⟨f1,f2,f3,oe,vs,T,oT,ts,he,hk,hd,h1,hB,hne,hT,hdT,h3⟩:=x;have far:∀b,b≠T ->(s.heap.update T (Obj.mapFields (·.setIfInBounds 3 ((none:Option Addr).elim Value.none fun f=>rawInt f)))).get? b=s.heap.get? b:=fun b hb=>Heap.get?_update_other _ _ (Ne.symm hb);have hz:3<ts.size:=(Array.getElem?_eq_some_iff.mp h3).1;unfold setFlight;refine z6 (wpAny_field he hd h1 ?_);rw[if_pos (by simp)]
 refine wpAny_setField hT hdT hz (hQ _ ⟨fun b o q=> ?_,f2,f3.of_keeps fun b o q n=>⟨o,?_,rfl⟩,oe,vs,T,_,_,(far a (Ne.symm hne)).trans he,hk,hd,h1,hB,hne,Heap.get?_update_self _ hT (Obj.isFreed_of_fields (Obj.data_mapFields hdT _)),Obj.data_mapFields hdT _,by simp [hz]⟩ fun b o q n=>⟨o.slots,?_⟩)
 ·exact(far b fun z=>by rw[z,hB] at q;cases q).trans (f1 b o q)
 ·exact(far b (Bb hT hdT q n)).trans q
 ·exact(far b (Bb hT hdT q n)).trans q
theorem sJ{oe:Obj}{vs:Array Value}{head:Value}{more:Bool}(hfr:A.frames=some (env::outer))(hl:s.heap.FunFrames B (env::outer))(hf:env.frame=some L)(he:s.heap.get? a=some oe)(hkb:B.StaysIn s.heap)(hen:B.get? a=none)
  (hd:oe.data= .fields vs) (hz:1<vs.size) (h2:vs[2]?=some Value.none) (hQ:∀h',qm B (env::outer) a oe.cls oe.dict (rawInt L) h' ->s.heap.UpToSlots h' ->Q () {s with heap:=h'}):
  wpAny M A (do let x<- frameOf env;let pl<- entryPlaceOf L more;let b<- EntryCells.newEntry head x .none (rawInt L) .none pl;setField (.ref a) 1 b) Q E s:=by
 have nf:a∉ (env::outer).filterMap (·.frame):=fun hm=>by
  obtain⟨_,o,ho,hn⟩:=hl.mem hm;rw[he] at ho;injection ho with ho;subst ho;exact hn vs hd
 refine z6 (wpAny_frameOf_fun hfr hl hf fun h1 k1=> ?_);refine z6 (wpAny_entryPlaceOf fun pl hp=> ?_);unfold EntryCells.newEntry newFields;refine z6 (wpAny_newObj_type ?_ (hp.sizeOk5 _ _ _ _ _));have e1:h1.get? a=some oe:=(k1.2.1 a nf).trans he;have b1:B.StaysIn h1:=fun b o q=>(k1.2.1 b fun hm=>by rw[(hl.mem hm).1] at q;cases q).trans (hkb b o q)
 refine wpAny_setField (z8 _ e1) hd hz (hQ _ ?_ ?_)
 all_goals
  have ne:h1.objs.size≠a:=Nat.ne_of_gt (zJ e1);have d3:=Obj.data_mapFields hd (·.setIfInBounds 1 (Value.ref h1.objs.size));have far:∀b o,b≠a ->h1.get? b=some o ->((h1.push {cls:= .type "traceback",dict:=none,data:= .fields ([head,.ref L,.none,rawInt L,.none]++ (if pl.isEmpty then List.replicate 6 Value.none else pl)).toArray}).update a (Obj.mapFields (·.setIfInBounds 1 (Value.ref h1.objs.size)))).get? b=some o:=
   fun b o hb q=>by rw[Heap.get?_update_other _ _ (Ne.symm hb)];exact z8 _ q
 ·refine⟨fun b o q=>far b o (fun z=>by rw[z,hen] at q;cases q) (b1 b o q),hen,hl.of_keeps fun b o q n=> ?_,?_⟩
  ·obtain⟨sl,k⟩:=k1.2.2 b o q;exact⟨_,far b _ (Bb he hd q n) k,rfl⟩
  ·exact⟨_,_,h1.objs.size,_,_,Heap.get?_update_self _ (z8 _ e1) (Obj.isFreed_of_fields d3),⟨Obj.cls_mapFields _ _,zuj _ _,by rw[Array.getElem?_setIfInBounds_ne (by decide)];exact h2⟩,d3,by simp [hz],b1.fresh,ne,
    (Heap.get?_update_other _ _ (Ne.symm ne)).trans (z9 h1 rfl),rfl,by first | (simp;done) | (rcases hp with rfl | ⟨_,_,_,_,_,_,_,rfl⟩<;>simp)⟩
 ·intro b o q n;obtain⟨sl,k⟩:=k1.2.2 b o q;exact⟨sl,far b _ (Bb he hd q n) k⟩
theorem zyk(hfr:A.frames=some (env::outer))(hf:env.frame=some L)(x:Em B (env::outer) a cls s.heap)
  (hQ:∀h' dd,qm B (env::outer) a cls dd (rawInt L) h' ->s.heap.UpToSlots h' ->Q () {s with heap:=h'}):wpAny M A (noteFrame (.ref a) env) Q E s:=by
 obtain⟨f1,f2,f3,⟨dd,oe,vs,T,oT,ts,he,⟨rfl,rfl,h2⟩,hd,h1,hB,hne,hT,hdT,h3⟩ | ⟨oe,vs,he,rfl,hd,h1,h2⟩⟩:=x
 ·unfold noteFrame;simp only [hf];refine z6 (wpAny_field he hd h1 ?_);rw[if_pos (by simp)]
  refine z6 (wpAny_field hT hdT h3 ?_);rw[if_neg (by simp [rawInt])]
  refine z6 (wpAny_setField hT hdT (Array.getElem?_eq_some_iff.mp h3).1 ?_);have far:∀b,b≠T ->(s.heap.update T (Obj.mapFields (·.setIfInBounds 3 Value.none))).get? b=s.heap.get? b:=fun b hb=>Heap.get?_update_other _ _ (Ne.symm hb);refine sJ (s:={s with heap:=s.heap.update T (Obj.mapFields (·.setIfInBounds 3 Value.none))}) hfr (f3.of_keeps fun b o q n=>⟨o,(far b (Bb hT hdT q n)).trans q,rfl⟩) hf ((far a (Ne.symm hne)).trans he) (fun b o q=>(far b fun z=>by rw[z,hB] at q;cases q).trans (f1 b o q)) f2 hd (Array.getElem?_eq_some_iff.mp h1).1 h2 fun h' w up=> ?_
  exact hQ h' _ w fun b o q n=>up b o ((far b (Bb hT hdT q n)).trans q) n
 ·unfold noteFrame;simp only [hf];refine z6 (wpAny_field he hd h1 ?_);rw[if_neg (by decide)]
  exact sJ hfr f3 hf he f1 f2 hd (Array.getElem?_eq_some_iff.mp h1).1 h2 fun h' w up=>hQ h' _ w up
theorem zs4(hfr:A.frames=some (env::outer))(hf:env.frame=some L)(x:Em B (env::outer) a cls s.heap)
  (hQ:∀h',Em B outer a cls h' ->s.heap.UpToSlots h' ->Q () {s with heap:=h'}):wpAny M A (leaving env (.ref a)) Q E s:=by
 unfold leaving;refine z6 (zyk hfr hf x fun h1 dd w up=>En (s:={s with heap:=h1}) w fun h2 w2 up2=> ?_);obtain⟨k1,k2,⟨_,_,k3⟩,k4⟩:=w2;exact hQ h2 ⟨k1,k2,k3,.inl ⟨dd,k4⟩⟩ (up.trans up2)
end
def gP(P:Program)(w:World):qN:=fun outer H s E e s' =>
 ∃a C H' B,e= .ref a/\s'.os=s.os/\AllBare s'.gens/\Un (frs outer) [] H H' s.heap s'.heap/\gO P w H' s'.heap/\Em B outer a C s'.heap/\
  (∀b o,s.heap.get? b=some o ->b∉frs outer ->∃o',B.get? b=some o')/\ (∀b u,H' b=some u ->∃o',B.get? b=some o')/\E C none H'
theorem gP.imp(h:gP P w outer H s E e s')(k:∀C dx H',E C dx H' ->E' C dx H'):gP P w outer H s E' e s' :=by
 obtain⟨a,C,H',B,h1,h2,h3,h4,h5,h6,h7,h8,h9⟩:=h;exact⟨a,C,H',B,h1,h2,h3,h4,h5,h6,h7,h8,k _ _ _ h9⟩
section
variable{X:Cx}{pins:bC}{σ:St}{H H' :Hp}{s s' :Shared}{B:Heap}{h' :Heap}
theorem z19(hok:gO X.prog X.w H' s'.heap)(b1:B.StaysIn s'.heap)(b2:B.StaysIn h')(uO:∀b u,H' b=some u ->∃o',B.get? b=some o'):gO X.prog X.w H' h' :=fun b u e=>
 (hok b u e).stay (fun c v hc q=>by
  have:∃o',B.get? c=some o' :=by
   rcases hc with rfl | hc
   ·exact uO _ _ e
   ·exact uO _ _ hc
  obtain⟨o',e'⟩:=this;have z:=b1 c o' e';rw[q] at z;cases z;exact b2 c _ e') (fun _ q=>q) fun _ _ q=>q
theorem z4e(I:Inv X pins σ H s)(hex:X.ex= [])(os:s'.os=s.os)(bare:AllBare s'.gens)(un:Un (frs X.stack) [] H H' s.heap s'.heap)(hok:gO X.prog X.w H' s'.heap)(b1:B.StaysIn s'.heap)(b2:B.StaysIn h')
  (inB:∀b o,s.heap.get? b=some o ->b∉frs X.stack ->∃o',B.get? b=some o') (up:s'.heap.UpToSlots h'):
  Un X.fs [] X.H₀ H' X.s₀.heap h' /\∀b o,X.s₀.heap.get? b=some o ->b∉X.fs ->∃o',B.get? b=some o' :=by
 have I' :Inv X pins σ H' s' :=I.call' os un hok bare (fun b z=>absurd z (by simp))
 have hb:=I'.base;rw[hex] at hb;have hb0:=I.base;rw[hex] at hb0;have Eo:∀b o,X.s₀.heap.get? b=some o ->b∉X.fs ->∃o',B.get? b=some o' :=fun b o e n=>by
  obtain⟨o1,e1⟩:=hb0.there b o e (by simp)
  refine inB b o1 e1 fun z=> ?_;rcases zV.mp (I.stkSub b z) with z | z
  ·exact absurd (zN (zJ e) I.ok.above) (by rw[z];exact yZ _)
  ·exact n z
 refine⟨⟨fun b o e n hf hx=> ?_,fun b o e n hf hx=> ?_,fun b o e n hx=>hb.free b o e n hx,fun b o e hx=> ?_,hb.tups,hb.lX,hb.mZ⟩,Eo⟩
 ·have e1:=hb.keep b o e n hf (by simp)
  obtain⟨o',e'⟩:=Eo b o e hf;have z:=b1 b o' e';rw[e1] at z;cases z;exact b2 b _ e'
 ·obtain⟨sl,e1⟩:=hb.slot b o e n hf (by simp)
  obtain⟨_,o2,e2,nf⟩:=I.ok.funs.mem hf;rw[e] at e2;cases e2;obtain⟨sl',e3⟩:=up b _ e1 nf;exact⟨sl',e3⟩
 ·by_cases hf:b∈X.fs
  ·obtain⟨sl,e1⟩:=hb.slot b o e (I.ok.Dd b hf) hf (by simp)
   obtain⟨_,o2,e2,nf⟩:=I.ok.funs.mem hf;rw[e] at e2;cases e2;obtain⟨sl',e3⟩:=up b _ e1 nf;exact⟨_,e3⟩
  ·obtain⟨o',e'⟩:=Eo b o e hf;exact⟨o',b2 b o' e'⟩
theorem W4(I:Inv X pins σ H s)(hex:X.ex= [])(hst:X.stack=X.env::X.outer)(hfr:X.env.frame=some X.env.locals)
  (h:gP X.prog X.w X.stack H s E e s'):wpAny (model X.prog X.w) X.A (leaving X.env e) (fun _ s'' =>gP X.prog X.w X.outer X.H₀ X.s₀ E e s'') Eb s' :=by
 obtain⟨a,C,H',B,rfl,os,bare,un,hok,Ot,inB,uO,hE⟩:=h;refine zs4 (by rw[I.ok.frames,hst]) hfr (by rw[<- hst];exact Ot) fun h' yr up=> ?_
 obtain⟨un',Eo⟩:=z4e I hex os bare un hok Ot.1 yr.1 inB up;exact⟨a,C,H',B,rfl,os.trans I.os,bare,un',z19 hok Ot.1 yr.1 uO,yr,Eo,uO,hE⟩
end
def oE(K:W.Frag)(C:Addr):Prop:=W.excIn K C [.type "ValueError",.type "Exception",.type "BaseException",.type "object"] "ValueError.__new__" =true
theorem zza{K:W.Frag}{h:Heap}{C:Addr}(X:K.In h)(q:oE K C):
  ∃bm N nm qn bs hdct sn sub ab col dd k0 k1 k2 k3 k5 mN,h.get? C=some (excClassObj nm qn C N bs bm hdct sn sub ab col dd k0 k1 k2 k3 k5 "ValueError.__new__")/\h.Ns N mN/\mN "__init__" =none/\
   OwnTail h [.type "ValueError",.type "Exception",.type "BaseException",.type "object"] bm:=by
 unfold oE W.excIn at q;split at q
 ·rename_i dd cd sl ho;split at q
  ·rename_i C' bm k0 k1 k2 k3 n k5 hm hs;simp only [Bool.and_eq_true,beq_iff_eq,Bool.not_eq_true'] at q;obtain⟨⟨⟨⟨⟨rfl,rfl⟩,hdel⟩,ht⟩,hok⟩,hni⟩:=q;obtain⟨nm,bs,mro,ns,qn,hd,sn,sub,ab,col,del⟩:=cd;dsimp only at hm hdel hok hni;subst hm hdel;obtain rfl:sl= #[k0,k1,k2,k3,some (.builtin "ValueError.__new__"),k5]:=by
    cases sl;simp only at hs;rw[hs]
   exact⟨bm,ns,nm,qn,bs,hd,sn,sub,ab,col,dd,k0,k1,k2,k3,k5,_,X _ _ ho,.of_isNs (W.isNs_of_in X hok),W.nsMap_none_of_in X hok hni,W.tail_of_in X ht⟩
  ·cases q
 ·cases q
abbrev Ou:List Value:= [.type "ValueError",.type "Exception",.type "BaseException",.type "object"]
def Ep(K:W.Frag)(C:Addr):Bool:=match K.lookup C with
 | some ⟨.type "type",_,.cls cd,sl⟩=>(match cd.mro,sl.toList with
  | .ref C' ::bm,[_,_,_,_,some (.builtin n),_]=>C' ==C&&n== "ValueError.__new__" && !cd.hasDel&&W.tailIn K Ou bm
  | _,_=>false)
 | _=>false
def sO(K:W.Frag)(C:Addr):Prop:=Ep K C=true
section
variable{X:Cx}{pins:bC}{σ:St}{H:Hp}{s:Shared}
theorem z04(hl:h.FunFrames base l)(hm:Heap.MadeExcOf h h1 a (.ref C) vs):Em (W.hideAll h (frs l)) l a (.ref C) h1:=by
 obtain⟨t,he,_,_⟩:=hm.there;refine⟨fun b o q=>hm.keeps b o (W.of_hideAll _ q),?_,?_,.inr ⟨_,_,he,rfl,rfl,rfl,rfl⟩⟩
 ·cases q:(W.hideAll h (frs l)).get? a with
  | none=>rfl
  | some o=>
   have z:=W.of_hideAll _ q;rw[hm.new] at z;cases z
 ·have k:=W.funFrames_hide (as:=frs l) hl fun env he a ha=>List.mem_filterMap.mpr ⟨env,he,ha⟩;exact k.of_keeps fun b o e _=>⟨o,hm.keeps b o e,rfl⟩
theorem zy3{x:Str}{C:Addr}{np cpos pos:Pos}{e:Expr}{es:List Expr}{t:TA}{Q:Flow ->Shared ->Prop}{E:XK}(hg:Gl X x)(hm:X.mg x=some (.ref C))(hC:oE X.K C)(ha:PA X (e::es) t)(hh:X.calm=true)
  (I:Inv X pins σ H s) (h:t σ H fun vs H1=>vs.length<=sizeLine/\E (.ref C) none H1)
  (px:∀H1 s1 e s',Inv X pins σ H1 s1 ->gP X.prog X.w X.stack H1 s1 (fun C' dx H' =>C' = .ref C/\dx=none/\H' =H1/\E (.ref C) none H1) e s' ->X.xe e s')
  (hd:(x==("__debug__" :Str))=false:=by decide) (he:starEach (e::es) X.env=(false,eval e X.env)::starEach es X.env:=by rfl) (hpl:(backTo cpos (starEach es X.env)).any (·.1)=false:=by rfl):
  wpAny (model X.prog X.w) X.A (exec (.Raise (some (.Call (.Name x np) (e::es) [] cpos)) none pos) X.env) Q X.xe s:=by
 obtain⟨bm,N,nm,qn,bs,hdct,sn,sub,ab,col,dd,k0,k1,k2,k3,k5,mN,e1,e2,e3,e4⟩:=zza I.mod.Dc hC;refine wpAny_Raise_call_subT (C:=C) (nm:=nm) (q:=qn) (N:=N) (bs:=bs) (bm:=bm) (hdct:=hdct) (sn:=sn) (sub:=sub) (ab:=ab) (col:=col) (dd:=dd) (k0:=k0) (k1:=k1) (k2:=k2) (k3:=k3) (k5:=k5)
  PySem.F.excBase_ValueError (mN:=mN) (e4.hasType PySem.F.excBase_ValueError.hasBase) (I.ok.hd hh) ?_ e3 (Mg I hg hm ⟨rfl,?_⟩ hd)
 ·rw[he];show(false || (backTo cpos (starEach es X.env)).any (·.1))=false
  rw[hpl];rfl
 ·have key:=ha cpos pins s σ H _ I h;rw[he] at key⊢;refine Calls.evalArgs_plain (wpAny_mono key (fun us s2 ⟨vs,H1,I1,r,z,q⟩=>⟨rfl,by rw[<- r.length];exact z,I1.bk _ _ e1,e2.keeps I1.bk,e4.keeps I1.bk,fun h' a hm=> ?_⟩) fun _ _ y=>y)
  refine px H1 s2 _ _ I1 ⟨a,.ref C,H1,W.hideAll s2.heap (frs X.stack),rfl,rfl,I1.bare,Un.kept hm.keeps,I1.hok.kept hm.keeps,z04 I1.stack hm,fun b o e n=>⟨o,W.hideAll_get _ e n⟩,fun b u e=> ?_,rfl,rfl,rfl,q⟩;obtain⟨o,eo⟩:∃o,s2.heap.get? b=some o:=by
   have k:=I1.hok b u e;cases u with
   | lst xs=>obtain⟨_,_,_,_,e⟩:=k;exact⟨_,e⟩
   | tup xs=>obtain⟨_,_,_,o,e,_⟩:=k;exact⟨_,e⟩
   | dK kvs=>obtain⟨_,_,_,_,o,_,_,e,_⟩:=k;exact⟨_,e⟩
   | dT kvs=>obtain⟨_,_,_,_,o,_,_,e,_⟩:=k;exact⟨_,e⟩
   | set S n=>obtain⟨o,_,_,_,e,_⟩:=k;exact⟨_,e⟩
   | ins C dx fs=>obtain⟨_,_,_,e,_⟩:=k;exact⟨_,e⟩
   | own y=>exact k
   | xd fs=>obtain⟨_,⟨_,_,_,e,_⟩,_⟩:=k;exact⟨_,e⟩
   | rng lo hi=>obtain⟨_,_,_,e⟩:=k;exact⟨_,e⟩
   | frz ob u=>obtain⟨e,_⟩:=k;exact⟨_,e⟩
   | v9 ps=>exact⟨_,(show s2.heap.get? b=some _ from k)⟩
   | met f y=>exact⟨_,(show s2.heap.get? b=some _ from k)⟩
   | ext φ=>obtain⟨_,e,_⟩:=k;exact e
  refine⟨o,W.hideAll_get _ eo fun z=> ?_⟩;have:=I1.stkFree b z;rw[e] at this;cases this
end
abbrev G2:=List Slot
abbrev XW:=G2 ->Value ->Prop
abbrev aH:=G2 ->(D ->G2 ->Prop) ->XW ->Prop
abbrev bh:=G2 ->(List D ->G2 ->Prop) ->XW ->Prop
abbrev TT2:=G2 ->(Bool ->G2 ->Prop) ->XW ->Prop
structure j6 where
 nx:G2 ->Prop
 rt:D ->Prop
 bk:G2 ->Prop:=fun _=>False
 ct:G2 ->Prop:=fun _=>False
 rf:D ->Prop:=fun _=>False
 rT:T ->Prop:=fun _=>False
 rm:D ->G2 ->Prop:=fun _ _=>False
abbrev au:=j6 ->G2 ->XW ->Prop
open Classical in
noncomputable def qp (F0 F:Hp):Hp:=fun b=>if∃w,LD w/\F0 b=some w then none else F b
section
variable(K:W.Frag)(F0 H0:Hp)
def yt(t:aH)(E:XW):TE:=fun σ H Q=>∃F Γ P,SR K F0 H0 F H σ Γ/\t Γ P E/\∀d Γ' F' H' v,SR K F0 H0 F' H' σ Γ' ->Same F F' ->Rep K F' d v ->P d Γ' ->Q v H'
def Er(t:TT2)(E:XW):TT:=fun σ H Q=>∃F Γ P,SR K F0 H0 F H σ Γ/\t Γ P E/\∀b Γ' F' H',SR K F0 H0 F' H' σ Γ' ->Same F F' ->P b Γ' ->Q b H'
def Es(t:bh)(E:XW):TA:=fun σ H Q=>∃F Γ P,SR K F0 H0 F H σ Γ/\t Γ P E/\∀ds Γ' F' H' vs,SR K F0 H0 F' H' σ Γ' ->Same F F' ->ak K F' ds vs ->P ds Γ' ->Q vs H'
def W5(t:bh)(E:XW):TE:=fun σ H Q=>∃F Γ P,SR K F0 H0 F H σ Γ/\t Γ P E/\∀ds Γ' F' H' a vs,SR K F0 H0 F' H' σ Γ' ->Same F F' ->H' a=some (.lst vs) ->F' a=none ->H0 a=none ->ak K F' ds vs ->Apart σ Γ' a ->P ds Γ' ->Q (.ref a) H'
structure qP (F:Hp) (D2:j6) (D:Ends):Prop where
 nx:∀Γ F' H σ,SR K F0 H0 F' H σ Γ ->Same F F' ->D2.nx Γ ->D.nx σ H
 bk:∀Γ F' H σ,SR K F0 H0 F' H σ Γ ->Same F F' ->D2.bk Γ ->D.bk σ H
 ct:∀Γ F' H σ,SR K F0 H0 F' H σ Γ ->Same F F' ->D2.ct Γ ->D.ct σ H
 rt:∀d v F' H,Gr F0 H0 F' H ->Rep K F' d v ->D2.rt d ->D.rt v H
 rf:∀d v F' H,Gr F0 H0 F' H ->Rep K (qp F0 F') d v ->D2.rf d ->D.rt v H
 rT:∀t v as F' H,Gr F0 H0 F' H ->as.Nodup ->(∀a∈as,F' a=none/\H0 a=none) ->TR K F' H t v as ->D2.rT t ->D.rt v H
 rm:∀d v Γ F' H σ,SR K F0 H0 F' H σ Γ ->Rep K F' d v ->D2.rm d Γ ->D.rt v H
def JB(t:au)(E:XW):TS:=fun D σ H=>∃F Γ D2,SR K F0 H0 F H σ Γ/\t D2 Γ E/\qP K F0 H0 F D2 D
end
theorem qP.mono{K:W.Frag}{F0 H0 F F' :Hp}{D2:j6}{D:Ends}(k:qP K F0 H0 F D2 D)(s:Same F F'):qP K F0 H0 F' D2 D:=
 ⟨fun Γ F1 H σ R s1 h=>k.nx Γ F1 H σ R (s.trans s1) h,fun Γ F1 H σ R s1 h=>k.bk Γ F1 H σ R (s.trans s1) h,fun Γ F1 H σ R s1 h=>k.ct Γ F1 H σ R (s.trans s1) h,k.rt,k.rf,k.rT,k.rm⟩
structure W6 where
 xe:bJ
 pn:bC
abbrev _root_.L2.Cx.wsh(X:Cx)(z:W6):Cx:={X with xe:=z.xe,pn:=z.pn}
structure Ctx (X:Cx) (F0 H0:Hp) (E:XW):Prop where
 pX:∀pins σ Γ F H s e s',Inv X pins σ H s ->SR X.K F0 H0 F H σ Γ ->gP X.prog X.w X.stack H s (fun C dx H' =>∃Γ' F',SR X.K F0 H0 F' H' σ Γ' /\Same F F' /\E Γ' C/\dx=none) e s' ->X.xe e s'
 po:PassesOwn (model X.prog X.w) X.A X.env X.xe
theorem Ctx.px(cx:Ctx X F0 H0 E)(pins:bC)(σ:St)(Γ:G2)(F H:Hp)(s:Shared)(e:Value)(s' :Shared)(I:Inv X pins σ H s)(R:SR X.K F0 H0 F H σ Γ)(hx:gP X.prog X.w X.stack H s (fun C dx H' =>E Γ C/\dx=none/\Same H H') e s'):X.xe e s' :=
 cx.pX pins σ Γ F H s e s' I R (hx.imp fun _ _ H' ⟨h1,h2,h3⟩=>⟨Γ,F,R.grow ⟨.refl _,R.g.trans h3,h3,fun b o e n=>by rw[e] at n;cases n⟩,.refl _,h1,h2⟩)
def QE(X:Cx)(F0 H0:Hp)(e:Expr)(t:aH):Prop:=∀z E,Ctx (X.wsh z) F0 H0 E ->PE (X.wsh z) e (yt X.K F0 H0 t E)
def QF(X:Cx)(F0 H0:Hp)(e:Expr)(t:bh):Prop:=∀z E,Ctx (X.wsh z) F0 H0 E ->PE (X.wsh z) e (W5 X.K F0 H0 t E)
def QT(X:Cx)(F0 H0:Hp)(e:Expr)(t:TT2):Prop:=∀z E,Ctx (X.wsh z) F0 H0 E ->PT (X.wsh z) e (Er X.K F0 H0 t E)
def QW(X:Cx)(F0 H0:Hp)(e:Expr)(t:TT2):Prop:=∀z E,Ctx (X.wsh z) F0 H0 E ->PW (X.wsh z) e (Er X.K F0 H0 t E)
def QA(X:Cx)(F0 H0:Hp)(es:List Expr)(t:bh):Prop:=∀z E,Ctx (X.wsh z) F0 H0 E ->PA (X.wsh z) es (Es X.K F0 H0 t E)
def QS(X:Cx)(F0 H0:Hp)(st:Stmt)(t:au):Prop:=∀z E,Ctx (X.wsh z) F0 H0 E ->PS (X.wsh z) st (JB X.K F0 H0 t E)
def qt(X:Cx)(F0 H0:Hp)(st:List Stmt)(t:au):Prop:=∀z E,Ctx (X.wsh z) F0 H0 E ->rP (X.wsh z) st (JB X.K F0 H0 t E)
section
variable{X:Cx}{e:Expr}{es:List Expr}{st:Stmt}{sts:List Stmt}
theorem jt(h:PE X e t)(hi:∀σ H Q,t' σ H Q ->t σ H Q):PE X e t' :=fun pins s σ H Q I q=>h pins s σ H Q I (hi _ _ _ q)
theorem Et(h:PT X e t)(hi:∀σ H Q,t' σ H Q ->t σ H Q):PT X e t' :=fun pins s σ H Q I q=>h pins s σ H Q I (hi _ _ _ q)
theorem pwC(h:PW X e t)(hi:∀σ H Q,t' σ H Q ->t σ H Q):PW X e t' :=fun w pins s σ H Q I q=>h w pins s σ H Q I (hi _ _ _ q)
theorem W7(h:PA X es t)(hi:∀σ H Q,t' σ H Q ->t σ H Q):PA X es t' :=fun p pins s σ H Q I q=>h p pins s σ H Q I (hi _ _ _ q)
theorem nW(h:PS X st t)(hi:∀D σ H,t' D σ H ->t D σ H):PS X st t' :=fun pins s σ H D I q=>h pins s σ H D I (hi _ _ _ q)
theorem Eu(h:rP X sts t)(hi:∀D σ H,t' D σ H ->t D σ H):rP X sts t' :=fun pins s σ H D I q=>h pins s σ H D I (hi _ _ _ q)
end
section
variable{X:Cx}{F0 H0:Hp}{a b c e:Expr}{es:List Expr}{pos:Pos}{ta tb tc te:aH}
def cC(d:D):aH:=fun Γ P _=>P d Γ
theorem Ov(h:∀z,PE (X.wsh z) e (tC v))(r:∀F,Rep X.K F d v):QE X F0 H0 e (cC d):=fun z E cx=>
 jt (h z) fun σ H Q hq1=>by obtain⟨F,Γ,P,R,h,k⟩:=hq1;exact k _ _ _ _ _ R (.refl _) (r F) h
theorem aR{i j pos}:QE X F0 H0 (.Constant (.int i) j pos) (cC (.int i)):=Ov (fun _=>z43) fun _=>by unfold Rep;rfl
theorem sS{i j pos}:QE X F0 H0 (.Constant (.bool i) j pos) (cC (.bl i)):=Ov (fun _=>z6j) fun _=>by unfold Rep;rfl
theorem JC{x j pos}:QE X F0 H0 (.Constant (.str x) j pos) (cC (.str x)):=Ov (fun _=>z4j) fun _=>by unfold Rep;rfl
def cV(i:Nat):aH:=fun Γ P _=>match Γ[i]? with
 | some (.pu d)=>P d Γ
 | some (.ow ds)=>P (.lst ds) (Γ.set i (.pu (.lst ds)))
 | _=>False
theorem z33(hN:X.N[i]?=some x)(hv:pF X.env.scope x)(hd:(x==("__debug__" :Str))=false:=by decide)(hcd:(x==("__classdict__" :Str))=false:=by decide):QE X F0 H0 (.Name x pos) (cV i):=fun z E cx=>
 jt (rZ (X:=X.wsh z) (i:=i) hN hv hd hcd) fun σ H Q hq2=>by
  obtain⟨F,Γ,P,R,h,k⟩:=hq2;unfold cV at h;split at h
  ·rename_i d e;obtain⟨o,e1,v,rfl,r⟩:=R.sl i _ e;exact⟨v,e1,k d Γ F H v R (.refl _) r h⟩
  ·rename_i ds e;obtain⟨a,F',e1,s1,R',r⟩:=R.frz e;exact⟨.ref a,e1,k _ _ F' H _ R' s1 r h⟩
  ·exact h.elim
def nY(K:W.Frag)(g:D ->D ->(D ->Prop) ->Prop):R2:=fun x y H Q=>∃F d1 d2 P,Same F H/\Rep K F d1 x/\Rep K F d2 y/\g d1 d2 P/\∀d z F' H',Gr F H F' H' ->Rep K F' d z ->P d ->Q z H'
def cB(g:D ->D ->(D ->Prop) ->Prop)(ta tb:aH):aH:=fun Γ P E=>ta Γ (fun d1 Γ1=>tb Γ1 (fun d2 Γ2=>g d1 d2 fun d=>P d Γ2) E) E
theorem JD{K:W.Frag}{g:D ->D ->(D ->Prop) ->Prop}{E:XW}{σ:St}{H:Hp}{Q:VK}(h:yt K F0 H0 (cB g ta tb) E σ H Q):Dv (nY K g) (yt K F0 H0 ta E) (yt K F0 H0 tb E) σ H Q:=by
 obtain⟨F,Γ,P,R,h,k⟩:=h;refine⟨F,Γ,_,R,h,fun d1 Γ1 F1 H1 v1 R1 s1 r1 h1=>⟨F1,Γ1,_,R1,h1,fun d2 Γ2 F2 H2 v2 R2 s2 r2 h2=>⟨F2,d1,d2,_,R2.g,r1.up s2,r2,h2,fun d z F' H' gr rz hp=> ?_⟩⟩⟩;exact k d Γ2 F' H' z (R2.grow gr) (s1.trans (s2.trans gr.f)) rz hp
theorem bI(ho:∀z,iu (X.wsh z) (binaryOp op) (nY X.K g))(ha:QE X F0 H0 a ta)(hb:QE X F0 H0 b tb):QE X F0 H0 (.BinOp a op b pos) (cB g ta tb):=fun z E cx=>
 jt (V1 (ho z) (ha z E cx) (hb z E cx)) fun _ _ _ h=>JD h
theorem uT(ho:∀z,iu (X.wsh z) (compareOp op) (nY X.K g))(ha:QE X F0 H0 a ta)(hb:QE X F0 H0 b tb)(hm:behindInMarks op b=false):QE X F0 H0 (.Compare a [op] [b] pos) (cB g ta tb):=fun z E cx=>
 jt (z2c (ho z) (ha z E cx) (hb z E cx) hm) fun _ _ _ h=>JD h
def cT(t:aH):TT2:=fun Γ P E=>t Γ (fun d Γ' =>match d with | .bl c=>P c Γ' | _=>False) E
theorem W8{K:W.Frag}{E:XW}{σ:St}{H:Hp}{Q:Bool ->Hp ->Prop}(h:Er K F0 H0 (cT te) E σ H Q):yt K F0 H0 te E σ H fun x H' =>∃c,x= .bl c/\Q c H' :=by
 obtain⟨F,Γ,P,R,h,k⟩:=h;refine⟨F,Γ,_,R,h,fun d Γ' F' H' v R' s' r q=> ?_⟩;cases d with
 | bl c=>
  unfold Rep at r;exact⟨c,r,k c Γ' F' H' R' s' q⟩
 | _=>exact False.elim q
theorem jm(ho:∀z,iu (X.wsh z) (compareOp op) (nY X.K g))(ha:QE X F0 H0 a ta)(hb:QE X F0 H0 b tb)(hm:behindInMarks op b=false):QT X F0 H0 (.Compare a [op] [b] pos) (cT (cB g ta tb)):=fun z E cx=>
 Et (z26 (ho z) (ha z E cx) (hb z E cx) hm) fun σ H Q h=>JD (W8 h)
theorem sU(h:QE X F0 H0 e te)(he:∀whole,isTrue e X.env whole=(do let v<- whole;standAt e.pos;holding [v] (truthy v)):=by intro _;rfl):QT X F0 H0 e (cT te):=fun z E cx=>
 Et (z3w (X:=X.wsh z) (h z E cx) he) fun _ _ _ h=>W8 h
def Ow(t u:TT2):TT2:=fun Γ P E=>t Γ (fun c Γ' =>if c=true then u Γ' P E else P false Γ') E
def vD(t u:TT2):TT2:=fun Γ P E=>t Γ (fun c Γ' =>if c=true then P true Γ' else u Γ' P E) E
def lY(t:TT2):TT2:=fun Γ P E=>t Γ (fun c Γ' =>P (!c) Γ') E
variable{rest:List Expr}{tA Dj :TT2}
theorem Ew(ha:QT X F0 H0 a tA):QW X F0 H0 (.BoolOp .Or [a] pos) tA:=fun z E cx=>z5k (ha z E cx)
theorem yu(ha:QT X F0 H0 a tA)(hb:QW X F0 H0 (.BoolOp .Or (b::rest) pos) Dj):QW X F0 H0 (.BoolOp .Or (a::b::rest) pos) (vD tA Dj):=fun z E cx=>
 pwC (z6a (ha z E cx) (hb z E cx)) fun σ H Q pJ=>by obtain⟨F,Γ,P,R,h,k⟩:=pJ;exact⟨F,Γ,_,R,h,fun c Γ1 F1 H1 R1 s1 q=>by
  cases c with
  | true=>
   simp only [if_true] at q⊢;exact k _ _ _ _ R1 s1 q
  | false=>
   simp only [Bool.false_eq_true,if_false] at q⊢;exact⟨F1,Γ1,P,R1,q,fun b Γ2 F2 H2 R2 s2 p=>k b Γ2 F2 H2 R2 (s1.trans s2) p⟩⟩
theorem sV(h:QW X F0 H0 e tA):QT X F0 H0 e tA:=fun z E cx=>(h z E cx).pt
theorem wA(ha:QT X F0 H0 a tA):QT X F0 H0 (.UnaryOp .Not a pos) (lY tA):=fun z E cx=>
 Et (z3d (ha z E cx)) fun σ H Q wB=>by obtain⟨F,Γ,P,R,h,k⟩:=wB;exact⟨F,Γ,_,R,h,fun c Γ1 F1 H1 R1 s1 q=>k _ _ _ _ R1 s1 q⟩
def qu(ta tb:aH):aH:=fun Γ P E=>ta Γ (fun d Γ' =>match d with | .bl true=>tb Γ' P E | .bl false=>P (.bl false) Γ' | _=>False) E
def yw(ta tb:aH):aH:=fun Γ P E=>ta Γ (fun d Γ' =>match d with | .bl false=>tb Γ' P E | .bl true=>P (.bl true) Γ' | _=>False) E
def Ey(ta:aH):aH:=fun Γ P E=>ta Γ (fun d Γ' =>match d with | .bl c=>P (.bl (!c)) Γ' | _=>False) E
theorem Ox{op}(h:QE X F0 H0 a ta):QE X F0 H0 (.BoolOp op [a] pos) ta:=fun z E cx=>z41 (h z E cx)
theorem W9(ha:QE X F0 H0 a ta)(hb:QE X F0 H0 (.BoolOp .And (b::rest) pos) tb):QE X F0 H0 (.BoolOp .And (a::b::rest) pos) (qu ta tb):=fun z E cx=>
 jt (z30 (ha z E cx) (hb z E cx)) fun σ H Q yx=>by obtain⟨F,Γ,P,R,h,k⟩:=yx;exact⟨F,Γ,_,R,h,fun d Γ1 F1 H1 v R1 s1 r q=>by
  cases d with
  | bl c=>
   unfold Rep at r;refine⟨c,r,?_⟩;cases c with
   | true=>rw[if_pos rfl];exact⟨F1,Γ1,P,R1,q,fun d Γ2 F2 H2 v R2 s2 r p=>k d Γ2 F2 H2 v R2 (s1.trans s2) r p⟩
   | false=>rw[if_neg Bool.false_ne_true];exact k _ _ _ _ _ R1 s1 (by unfold Rep;rfl) q
  | _=>exact False.elim q⟩
theorem z5x(ha:QE X F0 H0 a ta)(hb:QE X F0 H0 (.BoolOp .Or (b::rest) pos) tb):QE X F0 H0 (.BoolOp .Or (a::b::rest) pos) (yw ta tb):=fun z E cx=>
 jt (z6f (ha z E cx) (hb z E cx)) fun σ H Q su=>by obtain⟨F,Γ,P,R,h,k⟩:=su;exact⟨F,Γ,_,R,h,fun d Γ1 F1 H1 v R1 s1 r q=>by
  cases d with
  | bl c=>
   unfold Rep at r;refine⟨c,r,?_⟩;cases c with
   | false=>rw[if_neg Bool.false_ne_true];exact⟨F1,Γ1,P,R1,q,fun d Γ2 F2 H2 v R2 s2 r p=>k d Γ2 F2 H2 v R2 (s1.trans s2) r p⟩
   | true=>rw[if_pos rfl];exact k _ _ _ _ _ R1 s1 (by unfold Rep;rfl) q
  | _=>exact False.elim q⟩
def JF(t:TT2)(ta tb:aH):aH:=fun Γ P E=>t Γ (fun c Γ' =>if c=true then ta Γ' P E else tb Γ' P E) E
theorem Xa(hc:QT X F0 H0 c tA)(ha:QE X F0 H0 a ta)(hb:QE X F0 H0 b tb):QE X F0 H0 (.IfExp c a b pos) (JF tA ta tb):=fun z E cx=>
 jt (zxk (hc z E cx) (ha z E cx) (hb z E cx)) fun σ H Q Oz=>by obtain⟨F,Γ,P,R,h,k⟩:=Oz;exact⟨F,Γ,_,R,h,fun c Γ1 F1 H1 R1 s1 q=>by
  cases c with
  | true=>rw[if_pos rfl] at q⊢;exact⟨F1,Γ1,P,R1,q,fun d Γ2 F2 H2 v R2 s2 r p=>k d Γ2 F2 H2 v R2 (s1.trans s2) r p⟩
  | false=>rw[if_neg Bool.false_ne_true] at q⊢;exact⟨F1,Γ1,P,R1,q,fun d Γ2 F2 H2 v R2 s2 r p=>k d Γ2 F2 H2 v R2 (s1.trans s2) r p⟩⟩
def aq:bh:=fun Γ P _=>P [] Γ
def aj(t:aH)(u:bh):bh:=fun Γ P E=>t Γ (fun d Γ1=>u Γ1 (fun ds Γ2=>P (d::ds) Γ2) E) E
theorem aL:QA X F0 H0 [] aq:=fun z E cx=>W7 Ng fun σ H Q yC=>by obtain⟨F,Γ,P,R,h,k⟩:=yC;exact k _ _ _ _ _ R (.refl _) (by unfold ak;rfl) h
theorem aB(ha:QE X F0 H0 e te)(hr:QA X F0 H0 es tr)(hs:starEach (e::es) X.env=(false,eval e X.env)::starEach es X.env:=by rfl):QA X F0 H0 (e::es) (aj te tr):=fun z E cx=>
 W7 (Js (X:=X.wsh z) (ha z E cx) (hr z E cx) hs) fun σ H Q ⟨F,Γ,P,R,h,k⟩=>
  ⟨F,Γ,_,R,h,fun d Γ1 F1 H1 v1 R1 s1 r1 h1=>⟨F1,Γ1,_,R1,h1,fun ds Γ2 F2 H2 vs R2 s2 r2 h2=>k _ _ _ _ _ R2 (s1.trans s2) (pI (r1.up s2) r2) h2⟩⟩
def ju(t:bh):aH:=fun Γ P E=>t Γ (fun ds Γ1=>ds.length<=sizeLine/\P (.tup ds) Γ1) E
theorem sW{x1}(h:QA X F0 H0 es t):QE X F0 H0 (.Tuple es x1 pos) (ju t):=fun z E cx=>
 jt (z5j (h z E cx)) fun σ H Q xV=>by obtain⟨F,Γ,P,R,h,k⟩:=xV;exact⟨F,Γ,_,R,h,fun ds Γ1 F1 H1 vs R1 s1 r1 h1=>⟨by rw[<- gj r1];exact h1.1,fun p hp=>by
  have gr:=Gr.laid (o:=HO.tup vs) R1.g hp;refine k _ _ _ _ _ (R1.grow gr) (s1.trans gr.f) ?_ h1.2;unfold Rep;exact⟨p,vs,rfl,.inl (.inl lW),r1.up gr.f⟩⟩⟩
def iK(t:bh):bh:=fun Γ P E=>t Γ (fun ds Γ1=>ds.length<=sizeLine/\P ds Γ1) E
theorem yD{K:W.Frag}{F H:Hp}{σ:St}{Γ:G2}{p:Addr}{vs:List V}{ds:List D}(R:SR K F0 H0 F H σ Γ)(hp:H p=none)(r:ak K F ds vs):
  SR K F0 H0 F (L2.upd H p (.lst vs)) σ Γ/\ (L2.upd H p (.lst vs)) p=some (.lst vs)/\F p=none/\H0 p=none/\Apart σ Γ p:=by
 refine⟨?_,lW,R.g.free hp,R.gr.h.free hp,R.apart hp⟩;refine R.grow ⟨.refl _,fun b u e=> ?_,fun b u e=> ?_,fun b o e n=>by rw[e] at n;cases n⟩
 ·rw[c7 (lU (R.g b u e) hp)];exact R.g b u e
 ·rw[c7 (lU e hp)];exact e
theorem qQ{t:bh}(h:QA X F0 H0 es t):QF X F0 H0 (.List es pos) (iK t):=fun z E cx=>
 jt (z3r (h z E cx)) fun σ H Q sy=>by obtain⟨F,Γ,P,R,h,k⟩:=sy;exact⟨F,Γ,_,R,h,fun ds Γ1 F1 H1 vs R1 s1 r1 h1=>⟨by rw[<- gj r1];exact h1.1,fun p hp=>by
  obtain⟨R2,e1,e2,e3,ap⟩:=yD R1 hp r1;exact k ds Γ1 F1 _ p vs R2 s1 e1 e2 e3 r1 ap h1.2⟩⟩
def dg(t:bh):aH:=fun Γ P E=>t Γ (fun ds Γ1=>P (.lst ds) Γ1) E
theorem d9(h:QF X F0 H0 e t):QE X F0 H0 e (dg t):=fun z E cx=>
 jt (h z E cx) fun σ H Q sE=>by obtain⟨F,Γ,P,R,h,k⟩:=sE;exact⟨F,Γ,_,R,h,fun ds Γ1 F1 H1 a vs R1 s1 e1 e2 e3 r1 ap h1=>by
  obtain⟨s2,_⟩:=Oq R1.g e1 e2;refine k _ _ _ _ _ (R1.frzA e1 e2 e3 ap) (s1.trans s2) ?_ h1;unfold Rep;exact⟨a,vs,rfl,.inl (.inl lW),r1.up s2⟩⟩
variable{st:Stmt}{sts:List Stmt}{t u:au}
def bZ:au:=fun D Γ _=>D.nx Γ
def aC(t u:au):au:=fun D Γ E=>t {D with nx:=fun Γ' =>u D Γ' E} Γ E
theorem lZ:qt X F0 H0 [] bZ:=fun z E cx=>Eu z18 fun D σ H OD=>by obtain⟨F,Γ,D2,R,h,k⟩:=OD;exact k.nx _ _ _ _ R (.refl _) h
theorem bH(h1:QS X F0 H0 st t)(h2:qt X F0 H0 sts u):qt X F0 H0 (st::sts) (aC t u):=fun z E cx=>
 Eu (zyc (h1 z E cx) (h2 z E cx)) fun D σ H OJ=>by obtain⟨F,Γ,D2,R,h,k⟩:=OJ;exact⟨F,Γ,_,R,h,⟨fun Γ' F' H' σ' R' s' q=>⟨F',Γ',D2,R',q,k.mono s'⟩,k.bk,k.ct,k.rt,k.rf,k.rT,k.rm⟩⟩
theorem bT(h1:QS X F0 H0 st t):qt X F0 H0 [st] t:=fun z E cx=>z2g (h1 z E cx)
def aaI:au:=fun D Γ _=>D.bk Γ
def aaJ:au:=fun D Γ _=>D.ct Γ
def Ez(te:aH):au:=fun D Γ E=>te Γ (fun _ Γ1=>D.nx Γ1) E
def bD(te:aH):au:=fun D Γ E=>te Γ (fun d _=>D.rt d) E
theorem fB(he:QE X F0 H0 e te):QS X F0 H0 (.Return (some e) pos) (bD te):=fun z E cx=>
 nW (VG (he z E cx)) fun D σ H O1=>by obtain⟨F,Γ,D2,R,h,k⟩:=O1;exact⟨F,Γ,_,R,h,fun d Γ1 F1 H1 v R1 s1 r1 h1=>k.rt _ _ _ _ R1.gr r1 h1⟩
def EY:au:=fun D _ _=>D.rt .non
def eE(c:TT2)(t u:au):au:=fun D Γ E=>c Γ (fun b Γ1=>if b=true then t D Γ1 E else u D Γ1 E) E
theorem mj(hc:QT X F0 H0 c tA)(ha:qt X F0 H0 x t)(hb:qt X F0 H0 y u):QS X F0 H0 (.If c x y pos) (eE tA t u):=fun z E cx=>
 nW (z5w (hc z E cx) (ha z E cx) (hb z E cx)) fun D σ H O2=>by obtain⟨F,Γ,D2,R,h,k⟩:=O2;exact⟨F,Γ,_,R,h,fun c Γ1 F1 H1 R1 s1 q=>by
  cases c with
  | true=>rw[if_pos rfl] at q⊢;exact⟨F1,Γ1,D2,R1,q,k.mono s1⟩
  | false=>rw[if_neg Bool.false_ne_true] at q⊢;exact⟨F1,Γ1,D2,R1,q,k.mono s1⟩⟩
def O3:au:=fun _ _ _=>False
def aO(i:Nat)(te:aH):au:=fun D Γ E=>te Γ (fun d Γ1=>D.nx (Γ1.set i (.pu d))) E
theorem dO(hN:X.N.Nodup)(hi:X.N[i]?=some x)(hx:Loc X.env.scope x)(he:QE X F0 H0 e te)(hs:swapsWith e (some (.Name x pos')) pos.line X.env=pure false:=by rfl)
  (hf:X.fn x=true\/X.env.scope.names.lookup x=some .local:=by first | exact .inl rfl | exact .inr rfl):QS X F0 H0 (.Assign [.Name x pos'] e pos) (aO i te):=fun z E cx=>
 nW (Mz (X:=X.wsh z) (i:=i) hN hi hx (he z E cx) hs hf) fun D σ H O4=>by obtain⟨F,Γ,D2,R,h,k⟩:=O4;exact⟨F,Γ,_,R,h,fun d Γ1 F1 H1 v R1 s1 r1 h1=>k.nx _ _ _ _ (R1.set i r1) s1 h1⟩
def jG(i:Nat)(t:bh):au:=fun D Γ E=>t Γ (fun ds Γ1=>D.nx (Γ1.set i (.ow ds))) E
theorem JG(hN:X.N.Nodup)(hi:X.N[i]?=some x)(hx:Loc X.env.scope x)(he:QF X F0 H0 e tf)(hs:swapsWith e (some (.Name x pos')) pos.line X.env=pure false:=by rfl)
  (hf:X.fn x=true\/X.env.scope.names.lookup x=some .local:=by first | exact .inl rfl | exact .inr rfl):QS X F0 H0 (.Assign [.Name x pos'] e pos) (jG i tf):=fun z E cx=>
 nW (Mz (X:=X.wsh z) (i:=i) hN hi hx (he z E cx) hs hf) fun D σ H O5=>by obtain⟨F,Γ,D2,R,h,k⟩:=O5;exact⟨F,Γ,_,R,h,fun ds Γ1 F1 H1 a vs R1 s1 e1 e2 e3 r1 ap h1=>k.nx _ _ _ _ (R1.setOw i e1 e2 e3 r1 ap) s1 h1⟩
end
end L3
namespace L3
open PySem PySem.Spec PyProof.Rows L2
abbrev jH:=D ->G2 ->(G2 ->Prop) ->XW ->Prop
abbrev mq:=List D ->G2 ->(G2 ->Prop) ->XW ->Prop
section
variable(K:W.Frag)(F0 H0:Hp)
def JH(g:jH)(E:XW):TG:=fun v σ H Q=>∃F Γ P d,SR K F0 H0 F H σ Γ/\Rep K F d v/\g d Γ P E/\∀Γ' F' H' σ',SR K F0 H0 F' H' σ' Γ' ->Same F F' ->P Γ' ->Q σ' H'
def O6(g:mq)(E:XW):vm:=fun vs σ H Q=>∃F Γ P ds,SR K F0 H0 F H σ Γ/\ak K F ds vs/\g ds Γ P E/\∀Γ' F' H' σ',SR K F0 H0 F' H' σ' Γ' ->Same F F' ->P Γ' ->Q σ' H'
end
def QG(X:Cx)(F0 H0:Hp)(e:Expr)(g:jH):Prop:=∀z E,Ctx (X.wsh z) F0 H0 E ->PG (X.wsh z) e (JH X.K F0 H0 g E)
def JK(X:Cx)(F0 H0:Hp)(es:List Expr)(g:mq):Prop:=∀z E,Ctx (X.wsh z) F0 H0 E ->xW (X.wsh z) es (O6 X.K F0 H0 g E)
section
variable{X:Cx}{F0 H0:Hp}{e tg:Expr}{es:List Expr}{pos:Pos}{te:aH}{g:jH}{gs:mq}
theorem Xb(h:PG X e t)(hi:∀v σ H Q,t' v σ H Q ->t v σ H Q):PG X e t' :=fun pins s σ H v u Q I r q=>h pins s σ H v u Q I r (hi _ _ _ _ q)
theorem Fb(h:xW X es t)(hi:∀v σ H Q,t' v σ H Q ->t v σ H Q):xW X es t' :=fun pins s σ H v u Q I r q=>h pins s σ H v u Q I r (hi _ _ _ _ q)
def hName(i:Nat):jH:=fun d Γ Q _=>Q (Γ.set i (.pu d))
theorem cO(hN:X.N.Nodup)(hi:X.N[i]?=some x)(hx:Loc X.env.scope x)(hf:X.fn x=true\/X.env.scope.names.lookup x=some .local:=by first | exact .inl rfl | exact .inr rfl):QG X F0 H0 (.Name x pos) (hName i):=fun z E cx=>
 Xb (z2b (X:=X.wsh z) (i:=i) hN hi hx hf) fun v σ H Q hq1=>by obtain⟨F,Γ,P,d,R,r,h,k⟩:=hq1;exact k _ _ _ _ (R.set i r) (.refl _) h
def gk:mq:=fun ds Γ Q _=>ds= []/\Q Γ
def aP(g:jH)(gs:mq):mq:=fun ds Γ Q E=>match ds with | d::r=>g d Γ (fun Γ' =>gs r Γ' Q E) E | []=>False
theorem qR:JK X F0 H0 [] gk:=fun z E cx=>Fb z12 fun vs σ H Q hq2=>by
 obtain⟨F,Γ,P,ds,R,r,h,k⟩:=hq2;obtain⟨rfl,h⟩:=h;unfold ak at r;exact⟨r,k _ _ _ _ R (.refl _) h⟩
theorem gY(h1:QG X F0 H0 e g)(h2:JK X F0 H0 es gs)(hs:(assignEach (e::es) X.env).map (·.2)=assign e X.env::(assignEach es X.env).map (·.2):=by rfl):JK X F0 H0 (e::es) (aP g gs):=fun z E cx=>
 Fb (zw9 (X:=X.wsh z) (h1 z E cx) (h2 z E cx) hs) fun vs σ H Q sX=>by
  obtain⟨F,Γ,P,ds,R,r,h,k⟩:=sX;cases ds with
  | nil=>exact False.elim h
  | cons d ds=>
   unfold ak at r;obtain⟨v,us,rfl,r1,r2⟩:=r;exact⟨v,us,rfl,F,Γ,_,d,R,r1,h,fun Γ1 F1 H1 σ1 R1 s1 q=>⟨F1,Γ1,P,ds,R1,r2.up s1,q,fun Γ2 F2 H2 σ2 R2 s2 p=>k _ _ _ _ R2 (s1.trans s2) p⟩⟩
def gq(n:Nat)(gs:mq):jH:=fun d Γ Q E=>match d with | .tup ds=>ds.length=n/\gs ds Γ Q E | _=>False
theorem qT(hc:X.calm=true)(h:JK X F0 H0 es gs)(hn:(assignEach es X.env).length=n:=by rfl)(hst:(assignEach es X.env).findIdx? (·.1)=none:=by rfl):QG X F0 H0 (.Tuple es k pos) (gq n gs):=fun z E cx=>
 Xb (z3t (X:=X.wsh z) (n:=n) hc (h z E cx) hn hst) fun v σ H Q pJ=>by
  obtain⟨F,Γ,P,d,R,r,h,k⟩:=pJ;cases d with
  | tup ds=>
   unfold Rep at r;obtain⟨a,vs,rfl,hq,rs⟩:=r;exact⟨a,vs,rfl,jX R.g hq,by rw[<- gj rs];exact h.1,F,Γ,P,ds,R,rs,h.2,k⟩
  | _=>exact False.elim h
def O7(te:aH)(g:jH):au:=fun D Γ E=>te Γ (fun d Γ1=>g d Γ1 D.nx E) E
def yE(i j:Nat)(t:bh):au:=fun D Γ E=>t Γ (fun ds Γ1=>match ds with | [x,y]=>D.nx ((Γ1.set i (.pu x)).set j (.pu y)) | _=>False) E
theorem z4u{kt k2 xX}(hc:X.calm=true)(hN:X.N.Nodup)(hi:X.N[i]?=some x)(hj:X.N[j]?=some y)(hij:i≠j)
  (hx:X.env.scope.names.lookup x=some .local) (hy:X.env.scope.names.lookup y=some .local) (ha:QA X F0 H0 [a,b] t)
  (hw:swappedStores [.Tuple [.Name x px,.Name y py] kt pt] (.Tuple [a,b] k2 xX) X.env=pure (some [x,y])) (hs:swapsWithSole [.Tuple [.Name x px,.Name y py] kt pt] (.Tuple [a,b] k2 xX) pos.line X.env=pure false:=by rfl):
  QS X F0 H0 (.Assign [.Tuple [.Name x px,.Name y py] kt pt] (.Tuple [a,b] k2 xX) pos) (yE i j t):=fun z E cx=>
 nW (z36 (X:=X.wsh z) (i:=i) (j:=j) hc hN hi hj hij hx hy (ha z E cx) hw hs) fun D σ H yx=>by obtain⟨F,Γ,D2,R,h,k⟩:=yx;exact⟨F,Γ,_,R,h,fun ds Γ1 F1 H1 vs R1 s1 r1 h1=>by
  match ds,r1,h1 with
  | [d1,d2],r1,h1=>
   unfold ak ak ak at r1;obtain⟨v1,_,rfl,q1,v2,_,rfl,q2,rfl⟩:=r1;exact⟨v1,v2,rfl,k.nx _ _ _ _ ((R1.set i q1).set j q2) s1 h1⟩
  | [],_,h1=>exact False.elim h1
  | [_],_,h1=>exact False.elim h1
  | _::_::_::_,_,h1=>exact False.elim h1⟩
def pK(c:TT2)(tb:au):au:=fun D Γ E=>∃W:Nat ->G2 ->Prop,(∃m,W m Γ)/\∀m Γ,W m Γ ->
 c Γ (fun b Γ1=>if b=true then tb {D with nx:=fun Γ' =>∃m',m' <m/\W m' Γ',ct:=fun Γ' =>∃m',m' <m/\W m' Γ',bk:=D.nx} Γ1 E else D.nx Γ1) E
theorem Xc(hc:QT X F0 H0 c tc)(hb:qt X F0 H0 body tb):QS X F0 H0 (.While c body [] pos) (pK tc tb):=fun z E cx=>
 nW (zzp cx.po (hc z E cx) (hb z E cx)) fun D σ H su=>by
  obtain⟨F,Γ,D2,R,⟨W,⟨m,w0⟩,turn⟩,k⟩:=su;refine⟨fun m σ H=>∃F1 Γ1,SR X.K F0 H0 F1 H σ Γ1/\Same F F1/\W m Γ1,⟨m,F,Γ,R,.refl _,w0⟩,fun m σ H ⟨F1,Γ1,R1,s1,w1⟩=>⟨F1,Γ1,_,R1,turn m Γ1 w1,fun b Γ2 F2 H2 R2 s2 q=> ?_⟩⟩;cases b with
  | true=>
   rw[if_pos rfl] at q⊢;refine⟨fun σ' H' =>∃m',m' <m/\∃F3 Γ3,SR X.K F0 H0 F3 H' σ' Γ3/\Same F F3/\W m' Γ3,fun σ' H' z=>z,F2,Γ2,_,R2,q,⟨fun Γ3 F3 H3 σ3 R3 s3 ⟨m',l,w3⟩=>⟨m',l,F3,Γ3,R3,s1.trans (s2.trans s3),w3⟩,fun Γ3 F3 H3 σ3 R3 s3 p=>k.nx _ _ _ _ R3 (s1.trans (s2.trans s3)) p,
    fun Γ3 F3 H3 σ3 R3 s3 ⟨m',l,w3⟩=>⟨m',l,F3,Γ3,R3,s1.trans (s2.trans s3),w3⟩,k.rt,k.rf,k.rT,k.rm⟩⟩
  | false=>
   rw[if_neg Bool.false_ne_true] at q⊢;exact k.nx _ _ _ _ R2 (s1.trans s2) q
def O8(K:W.Frag)(tl:TE):TI:=fun σ H R=>tl σ H fun x H1=>∃a,x= .ref a/\ (((∃xs,fM K H1 a xs)/\R (xZ K a) H1)\/ ((∃xs,iY K H1 a xs)/\R (wj K a) H1))
theorem z4k(hl:PE X l tl):PI X tg l (O8 X.K tl):=by
 intro pins s σ H R I h;refine bK (hl pins s σ H _ I h) fun v s1 Oz=> ?_;obtain⟨x,H1,I1,r1,q1⟩:=Oz;obtain⟨a,e,q⟩:=q1;subst e;cases r1;rcases q with ⟨⟨xs,hq⟩,q⟩ | ⟨⟨xs,hq⟩,q⟩
 ·obtain⟨its,rv,p,hz⟩:=I1.list hq;refine wpAny_pyIter_list p.isList ?_;refine⟨s1.heap.objs.size,[s1.heap.objs.size],_,_,H1,rfl,I1.kept (t' :=s1.toks) fun b o e=>z8 _ e,VL a _,⟨_,z9 _ rfl,rfl,rfl⟩,fun b hb=> ?_,q⟩;obtain rfl:b=s1.heap.objs.size:=by simpa using hb
  exact I1.fpOk (zO _) (I1.hok.fresh (zO _))
 ·obtain⟨its,rv,p,hz⟩:=I1.tuple hq;refine wpAny_pyIter_tuple (show s1.heap.IsTuple a its.toArray from p) ?_;refine⟨s1.heap.objs.size,[s1.heap.objs.size],_,_,H1,rfl,I1.kept (t' :=s1.toks) fun b o e=>z8 _ e,VN a _,⟨_,z9 _ rfl,rfl,rfl⟩,fun b hb=> ?_,q⟩;obtain rfl:b=s1.heap.objs.size:=by simpa using hb
  exact I1.fpOk (zO _) (I1.hok.fresh (zO _))
def j7(ds:List D)(g:jH)(tb:au)(D0:j6)(E:XW)(Γ:G2):Prop:=∃I:Nat ->G2 ->Prop,I 0 Γ/\
 (∀(i:Nat) x Γ,ds[i]?=some x ->I i Γ ->g x Γ (fun Γ' =>tb {D0 with nx:=I (i+1),ct:=I (i+1),bk:=D0.nx} Γ' E) E)/\∀Γ,I ds.length Γ ->D0.nx Γ
def j8(te:aH)(g:jH)(tb:au):au:=fun D0 Γ E=>te Γ (fun d Γ1=>match d with | .lst ds=>j7 ds g tb D0 E Γ1 | .tup ds=>j7 ds g tb D0 E Γ1 | _=>False) E
theorem uU(hc:X.calm=true)(hi:QE X F0 H0 iter te)(hg:QG X F0 H0 tg g)(hb:qt X F0 H0 body tb)(hs:∀x,foldedSetIterable iter X.env x=pure x:=by intro _;rfl):
  QS X F0 H0 (.For tg iter body [] pos) (j8 te g tb):=fun z E cx=>
 nW (Jo (X:=X.wsh z) cx.po hc (z4k (hi z E cx)) (hg z E cx) (hb z E cx) hs) fun Dn σ H yC=>by obtain⟨F,Γ,D2,R,h,k⟩:=yC;exact⟨F,Γ,_,R,h,fun d Γ1 F1 H1 v R1 s1 r1 h1=>by
  have body:∀(ds:List L3.D) (vs:List V),ak X.K F1 ds vs ->∀I:Nat ->G2 ->Prop,(∀(i:Nat) x Γ,ds[i]?=some x ->I i Γ ->g x Γ (fun Γ' =>tb {D2 with nx:=I (i+1),ct:=I (i+1),bk:=D2.nx} Γ' E) E) ->
    ∀(i:Nat) x σ H,vs[i]?=some x ->(∃F2 Γ2,SR X.K F0 H0 F2 H σ Γ2/\Same F1 F2/\I i Γ2) ->JH X.K F0 H0 g E x σ H fun σ2 H2=>JB X.K F0 H0 tb E {Dn with nx:=fun σ H=>∃F2 Γ2,SR X.K F0 H0 F2 H σ Γ2/\Same F1 F2/\I (i+1) Γ2,ct:=fun σ H=>∃F2 Γ2,SR X.K F0 H0 F2 H σ Γ2/\Same F1 F2/\I (i+1) Γ2,bk:=Dn.nx} σ2 H2:=by
   rintro ds vs rs I turn i x σ H hx ⟨F2,Γ2,R2,s2,hI⟩;obtain⟨d,hd,rd⟩:=WW rs hx;exact⟨F2,Γ2,_,d,R2,rd.up s2,turn i d Γ2 hd hI,fun Γ3 F3 H3 σ3 R3 s3 p=>⟨F3,Γ3,{D2 with nx:=I (i+1),ct:=I (i+1),bk:=D2.nx},R3,p,⟨fun Γ4 F4 H4 σ4 R4 s4 q=>⟨F4,Γ4,R4,s2.trans (s3.trans s4),q⟩,fun Γ4 F4 H4 σ4 R4 s4 q=>k.nx _ _ _ _ R4 (s1.trans (s2.trans (s3.trans s4))) q,
    fun Γ4 F4 H4 σ4 R4 s4 q=>⟨F4,Γ4,R4,s2.trans (s3.trans s4),q⟩,k.rt,k.rf,k.rT,k.rm⟩⟩⟩
  cases d with
  | lst ds=>
   unfold Rep at r1;obtain⟨a,vs,rfl,hq,rs⟩:=r1;obtain⟨I,i0,turn,done⟩:=h1;refine⟨a,rfl,.inl ⟨⟨vs,R1.g.seq hq⟩,zxj (xs:=vs) (fun i σ H=>∃F2 Γ2,SR X.K F0 H0 F2 H σ Γ2/\Same F1 F2/\I i Γ2) ⟨F1,Γ1,R1,.refl _,i0⟩ (fun i σ H _ ⟨F2,Γ2,R2,s2,_⟩=>R2.g.seq (s2.seq hq)) (body ds vs rs I turn) ?_⟩⟩;rintro σ H ⟨F2,Γ2,R2,s2,hI⟩;exact k.nx _ _ _ _ R2 (s1.trans s2) (done _ (by rw[gj rs];exact hI))
  | tup ds=>
   unfold Rep at r1;obtain⟨a,vs,rfl,hq,rs⟩:=r1;obtain⟨I,i0,turn,done⟩:=h1;refine⟨a,rfl,.inr ⟨⟨vs,jX R1.g hq⟩,z01 (xs:=vs) (fun i σ H=>∃F2 Γ2,SR X.K F0 H0 F2 H σ Γ2/\Same F1 F2/\I i Γ2) ⟨F1,Γ1,R1,.refl _,i0⟩ (fun i σ H _ ⟨F2,Γ2,R2,s2,_⟩=>jX R2.g (jX s2 hq)) (body ds vs rs I turn) ?_⟩⟩;rintro σ H ⟨F2,Γ2,R2,s2,hI⟩;exact k.nx _ _ _ _ R2 (s1.trans s2) (done _ (by rw[gj rs];exact hI))
  | _=>exact False.elim h1⟩
def sY(lo:Int)(n:Nat)(g:jH)(tb:au)(D0:j6)(E:XW)(Γ:G2):Prop:=∃I:Nat ->G2 ->Prop,I 0 Γ/\
 (∀(i:Nat) Γ,i<n ->I i Γ ->g (.int (lo+i)) Γ (fun Γ' =>tb {D0 with nx:=I (i+1),ct:=I (i+1),bk:=D0.nx} Γ' E) E)/\∀Γ,I n Γ ->D0.nx Γ
theorem Xd{K:W.Frag}{F1 H1:Hp}{Γ1:G2}{σ:St}{lo:Int}{n:Nat}{tb:au}{D2:j6}{D:Ends}{E:XW}(R1:SR K F0 H0 F1 H1 σ Γ1)(h:sY lo n g tb D2 E Γ1)(k:qP K F0 H0 F1 D2 D):
  ∃W:Nat ->Nat ->St ->Hp ->Prop,(∃m,W 0 m σ H1)/\∀i m σ H,W i m σ H ->((uP lo n).stop i H/\D.nx σ H)\/ ((uP lo n).go i H/\∃N:St ->Hp ->Prop,(∀σ' H',N σ' H' ->∃m',m' <m/\W (i+1) m' σ' H')/\
   ∀x H',(uP lo n).yld i H x H' ->JH K F0 H0 g E x σ H' fun σ2 H2=>JB K F0 H0 tb E {D with nx:=N,ct:=N,bk:=D.nx} σ2 H2):=by
 obtain⟨I,i0,turn,done⟩:=h;refine zu3 (lo:=lo) (n:=n) (fun i σ H=>∃F2 Γ2,SR K F0 H0 F2 H σ Γ2/\Same F1 F2/\I i Γ2) ⟨F1,Γ1,R1,.refl _,i0⟩ ?_ ?_
 ·rintro i σ H hi ⟨F2,Γ2,R2,s2,hI⟩;exact⟨F2,Γ2,_,.int (lo+i),R2,by unfold Rep;rfl,turn i Γ2 hi hI,fun Γ3 F3 H3 σ3 R3 s3 p=>⟨F3,Γ3,_,R3,p,⟨fun Γ4 F4 H4 σ4 R4 s4 q=>⟨F4,Γ4,R4,s2.trans (s3.trans s4),q⟩,fun Γ4 F4 H4 σ4 R4 s4 q=>k.nx _ _ _ _ R4 (s2.trans (s3.trans s4)) q,
   fun Γ4 F4 H4 σ4 R4 s4 q=>⟨F4,Γ4,R4,s2.trans (s3.trans s4),q⟩,k.rt,k.rf,k.rT,k.rm⟩⟩⟩
 ·rintro σ H ⟨F2,Γ2,R2,s2,hI⟩;exact k.nx _ _ _ _ R2 s2 (done _ hI)
def mH(t:bh)(g:jH)(tb:au):au:=fun D0 Γ E=>t Γ (fun ds Γ1=>match ds with | [.int j]=>(-(2^62)<=j/\j<2^62)/\sY 0 j.toNat g tb D0 E Γ1 | _=>False) E
theorem Fd(hc:X.calm=true)(O9:Gl X "range")(hm:X.mg "range" =none)(ha:QA X F0 H0 [a] t)(hg:QG X F0 H0 tg g)(hb:qt X F0 H0 body tb)
  (hst:starEach [a] X.env= [(false,eval a X.env)]:=by rfl) (hs:∀x,foldedSetIterable (.Call (.Name "range" p) [a] [] pc) X.env x=pure x:=by intro _;rfl):QS X F0 H0 (.For tg (.Call (.Name "range" p) [a] [] pc) body [] pos) (mH t g tb):=fun z E cx=>
 nW (Jo (X:=X.wsh z) cx.po hc (zul O9 hm (ha z E cx) hst) (hg z E cx) (hb z E cx) hs) fun D σ H sy=>by obtain⟨F,Γ,D2,R,h,k⟩:=sy;exact⟨F,Γ,_,R,h,fun ds Γ1 F1 H1 vs R1 s1 r1 h1=>by
  split at h1
  ·rename_i j;unfold ak ak Rep at r1;obtain⟨v,_,rfl,rfl,rfl⟩:=r1;exact⟨j,rfl,h1.1.1,h1.1.2,Xd R1 h1.2 (k.mono s1)⟩
  ·exact False.elim h1⟩
def wC(t:bh)(g:jH)(tb:au):au:=fun D0 Γ E=>t Γ (fun ds Γ1=>match ds with | [.int i,.int j]=>(-(2^62)<=i/\i<2^62/\ -(2^62)<=j/\j<2^62)/\sY i (j - i).toNat g tb D0 E Γ1 | _=>False) E
theorem z1e(hc:X.calm=true)(O9:Gl X "range")(hm:X.mg "range" =none)(ha:QA X F0 H0 [a,b] t)(hg:QG X F0 H0 tg g)(hb:qt X F0 H0 body tb)
  (hst:starEach [a,b] X.env= [(false,eval a X.env),(false,eval b X.env)]:=by rfl) (hst2:starEach [b] X.env= [(false,eval b X.env)]:=by rfl) (hs:∀x,foldedSetIterable (.Call (.Name "range" p) [a,b] [] pc) X.env x=pure x:=by intro _;rfl):QS X F0 H0 (.For tg (.Call (.Name "range" p) [a,b] [] pc) body [] pos) (wC t g tb):=fun z E cx=>
 nW (Jo (X:=X.wsh z) cx.po hc (zt1 O9 hm (ha z E cx) hst hst2) (hg z E cx) (hb z E cx) hs) fun D σ H sE=>by obtain⟨F,Γ,D2,R,h,k⟩:=sE;exact⟨F,Γ,_,R,h,fun ds Γ1 F1 H1 vs R1 s1 r1 h1=>by
  split at h1
  ·rename_i i j;unfold ak ak ak Rep at r1;obtain⟨v,_,rfl,rfl,v2,_,rfl,rfl,rfl⟩:=r1;exact⟨i,j,rfl,h1.1,Xd R1 h1.2 (k.mono s1)⟩
  ·exact False.elim h1⟩
def Pa(lo st:Int)(n:Nat):It:=⟨fun i _=>i<n,fun i H x H' =>H' =H/\x= .int (lo+i*st),fun i _=>n<=i⟩
def Xe(ta:TA):TI:=fun σ H R=>ta σ H fun vs H1=>∃(i j k:Int) (n:Nat),vs= [.int i,.int j,.int k]/\k≠0/\k.natAbs<1073741824/\Builtin.Range.small i j k=true/\Builtin.Range.rangeSize i j k=(n:Int)/\R (Pa i k n) H1
def Pb(lo st:Int)(n:Nat)(g:jH)(tb:au)(D0:j6)(E:XW)(Γ:G2):Prop:=∃I:Nat ->G2 ->Prop,I 0 Γ/\
 (∀(i:Nat) Γ,i<n ->I i Γ ->g (.int (lo+i*st)) Γ (fun Γ' =>tb {D0 with nx:=I (i+1),ct:=I (i+1),bk:=D0.nx} Γ' E) E)/\∀Γ,I n Γ ->D0.nx Γ
def Xf(t:bh)(g:jH)(tb:au):au:=fun D0 Γ E=>t Γ (fun ds Γ1=>match ds with
 | [.int i,.int j,.int k]=>∃n:Nat,k≠0/\k.natAbs<1073741824/\Builtin.Range.small i j k=true/\Builtin.Range.rangeSize i j k=(n:Int)/\Pb i k n g tb D0 E Γ1
 | _=>False) E
end
abbrev cG:=List D ->(D ->Prop) ->(Value ->Prop) ->Prop
def jV(K:W.Frag)(sp:cG):Sp:=fun vs H Q E=>∃F ds P Ex,Same F H/\ak K F ds vs/\sp ds P Ex/\ (∀d v F' H',Gr F H F' H' ->Rep K F' d v ->P d ->Q v H')/\∀C H',Ex C ->Same H H' ->E C none H'
def aD(sp:cG)(t:bh):aH:=fun Γ P E=>t Γ (fun ds Γ1=>sp ds (fun d=>P d Γ1) fun C=>E Γ1 C) E
section
variable{X:Cx}{F0 H0:Hp}{e:Expr}{es:List Expr}{pos p:Pos}{x:Str}{f:Addr}{fd:FuncData}{ps:List Str}{k:Nat}{sp:cG}{t:bh}
theorem Pg(Fn:d7 X.prog X.w X.K X.mg X.base (gP X.prog X.w) k f fd ps (jV X.K sp))(hr:eG k X.A)(hb:Binds X.K fd ps [])(cx:Ctx (X.wsh z) F0 H0 E)
  (I:Inv (X.wsh z) pins σ H s) (R:SR X.K F0 H0 F H σ Γ) (r:Vals vs us) (rs:ak X.K F ds vs) (h:sp ds P fun C=>E Γ C) (hQ:∀d v F' H',Gr F H F' H' ->Rep X.K F' d v ->P d ->Q v H'):
  wpAny (model X.prog X.w) X.A (call (.ref f) us) (EP (X.wsh z) pins σ Q) z.xe s:=by
 have hs:jV X.K sp vs H Q (fun C dx H' =>E Γ C/\dx=none/\Same H H'):=⟨F,ds,P,_,R.g,rs,h,hQ,fun C H' hE hS=>⟨hE,rfl,hS⟩⟩;have hl:(us++ []).length=ps.length:=by rw[List.append_nil,<- r.length];exact Fn.len _ _ _ _ hs
 have hbs:=hb s us I.kIn hl;rw[List.append_nil] at hbs;refine wpAny_call (codeAny_mono (Fn.run X.A X.stack s H ⟨us,[]⟩ us vs Q _ hr I.env0 hbs r hs) fun r s' hq=> ?_);cases r with
 | error e=>exact cx.px pins σ Γ F H s e s' I R hq
 | ok fl=>
  cases fl with
  | ret u=>exact I.after hq
  | next=>exact False.elim hq
  | brk=>exact False.elim hq
  | cont=>exact False.elim hq
theorem z29(Fn:d7 X.prog X.w X.K X.mg X.base (gP X.prog X.w) k f fd ps (jV X.K sp))(hr:eG k X.A)(hg:Gl X x)(hm:X.mg x=some (.ref f))(hk:W.keepIn X.K (.ref f)=true)(hb:Binds X.K fd ps [])
  (ha:QA X F0 H0 (e::es) t) (hdb:(x==("__debug__" :Str))=false:=by decide) (he:starEach (e::es) X.env=(false,eval e X.env)::starEach es X.env:=by rfl) (hpl:(backTo pos (starEach es X.env)).any (·.1)=false:=by rfl):
  QE X F0 H0 (.Call (.Name x p) (e::es) [] pos) (aD sp t):=by
 rintro z E cx pins s σ H Q I ⟨F,Γ,P,R,h,kk⟩;refine wpAny_Call_Name_kw (Mg (X:=X.wsh z) I hg hm ?_ hdb);refine W.callWith_K (h₀:=X.base) I.ok.mod.Dc hk (bK (ha z E cx pos pins s σ H (fun vs H1=>∃F1 Γ1 ds,SR X.K F0 H0 F1 H1 σ Γ1/\Same F F1/\ak X.K F1 ds vs/\sp ds (fun d=>P d Γ1) fun C=>E Γ1 C) I ⟨F,Γ,_,R,h,fun ds Γ1 F1 H1 vs R1 s1 r1 h1=>⟨F1,Γ1,ds,R1,s1,r1,h1⟩⟩) fun us s1 sZ=> ?_) he hpl;obtain⟨vs,H1,I1,r,F1,Γ1,ds,R1,sF,rs,q⟩:=sZ;refine⟨I1.kIn,?_⟩;exact Pg Fn hr hb cx I1 R1 r rs q fun d v F' H' gr rv hp=>kk d Γ1 F' H' v (R1.grow gr) (sF.trans gr.f) rv hp
end
def aG(n:Nat)(ds:List D):G2:=ds.map .pu++List.replicate (n - ds.length) .no
abbrev gA(N:List Str)(ds:List D):G2:=aG N.length ds
theorem Xg{K:W.Frag}{F0 H:Hp}{N:List Str}{ds:List D}{vs:List V}(h:Same F0 H)(r:ak K F0 ds vs):SR K F0 H F0 H (L2.start N vs) (gA N ds):=by
 have hl:=gj r;refine⟨Gr.refl h,by simp [L2.start,gA,aG,hl],fun i s e=> ?_,fun i j a e _=> ?_⟩
 ·unfold gA aG at e;unfold L2.start;by_cases hi:i<ds.length
  ·rw[List.getElem?_append_left (by simpa using hi),List.getElem?_map] at e
   cases q:ds[i]? with
   | none=>rw[q] at e;cases e
   | some d=>
    rw[q] at e;cases e;obtain⟨v,e1,r1⟩:=oA r q;refine⟨some v,?_,v,rfl,r1⟩;rw[List.getElem?_append_left (by rw[List.length_map,<- hl];exact hi),List.getElem?_map,e1];rfl
  ·rw[List.getElem?_append_right (by simpa using hi),List.getElem?_replicate] at e
   split at e
   ·cases e;rename_i hlt;simp only [List.length_map] at hlt;refine⟨none,?_,trivial⟩;rw[List.getElem?_append_right (by rw[List.length_map,<- hl];omega),List.getElem?_replicate,if_pos (by rw[List.length_map,<- hl];exact hlt)]
   ·cases e
 ·exfalso
  obtain⟨s,o,e,_,hs⟩:=e;unfold gA aG at e;by_cases hi:i<ds.length
  ·rw[List.getElem?_append_left (by simpa using hi),List.getElem?_map] at e
   cases q:ds[i]? with
   | none=>rw[q] at e;cases e
   | some d=>rw[q] at e;cases e;exact hs
  ·rw[List.getElem?_append_right (by simpa using hi),List.getElem?_replicate] at e
   split at e
   ·cases e;exact hs
   ·cases e
section
variable{P:Program}{w:World}{K:W.Frag}{mg:Str ->Option Value}{base:Heap}
theorem iy{x qual:Str}{st:Stmt}{f:Addr}{fd:FuncData}{N ps:List Str}{k:Nat}{sp:cG}(Fn:fu K x qual st f fd)(S:aA N ps (bL st))(len:∀ds Q E,sp ds Q E ->ds.length=ps.length)
  (hbody:∀(cdv:Value) (A:Around) (outer:List Env) (s:Shared) (H:Hp) (E:XK),eG k (A.deeper (envOfC qual (bL st) s.heap.objs.size f cdv)) ->∀F0:Hp,
   ∃t,qt (jU (gP P w) P w K mg base N qual (bL st) f cdv A outer s H E) F0 H (sG st) t/\∀ds Q Ex,sp ds Q Ex ->t {nx:=fun _=>Q .non,rt:=Q} (gA N ds) fun _=>Ex):
  d7 P w K mg base (gP P w) (k+1) f fd ps (jV K sp):=by
 obtain⟨oc,od,kV,doc,pm,an,cdv,ct,osl,rfl,lk,hcd⟩:=Fn.ex;refine Wf lk hcd S (fun vs H Q E ⟨F,ds,P',Ex,_,rs,hs,_⟩=>by rw[<- gj rs];exact len _ _ _ hs) fun A outer s H vs Q E hr ⟨F0,ds,Pd,Ex,sF,rs,hsp,hQ,hE⟩=> ?_
 obtain⟨t,ht,hq⟩:=hbody cdv A outer s H E hr F0;have cx:Ctx ((jU (gP P w) P w K mg base N qual (bL st) f cdv A outer s H E).wsh ⟨(jU (gP P w) P w K mg base N qual (bL st) f cdv A outer s H E).xe,[]⟩) F0 H (fun _=>Ex):=by
  refine⟨fun pins σ Γ F H1 s1 e s' I R hx=> ?_,PassesOwn.leaving⟩;refine bK (W4 (E:=fun C dx H' =>E C dx H') I rfl rfl rfl (hx.imp fun C dx H' z=> ?_)) fun _ s'' z=>z;obtain⟨Γ',F',R',_,z1,rfl⟩:=z;exact hE C H' z1 R'.gr.h
 exact⟨_,ht _ _ cx,F0,gA N ds,{nx:=fun _=>Pd .non,rt:=Pd},Xg sF rs,hq ds Pd Ex hsp,⟨fun Γ F' H' σ R' _ q=>hQ _ _ _ _ R'.gr (by unfold Rep;rfl) q,fun _ _ _ _ _ _ q=>q,fun _ _ _ _ _ _ q=>q,fun d v F' H' gr rv q=>hQ d v F' H' gr rv q,fun _ _ _ _ _ _ q=>q.elim,fun _ _ _ _ _ _ _ _ _ q=>q.elim,fun _ _ _ _ _ _ _ _ q=>q.elim⟩⟩
end
def bA(i:Int):Nat:=Builtin.Int.intBits i
theorem z2e(h:bA i+bA j<=100000000):IntMulOk i j:=by
 unfold bA at h;unfold IntMulOk;intro z;simp only [Bool.and_eq_true,decide_eq_true_eq] at z;have z2:=z.2;unfold Builtin.Int.intTooBig at z2;have hb:bitsLine=134217728:=by rfl
 rw[hb] at z2;have:=of_decide_eq_true z2;omega
theorem iM(h:i.natAbs<2^k):bA i<=k:=by
 unfold bA Builtin.Int.intBits;split
 ·exact Nat.zero_le _
 ·rename_i q;have n0:i.natAbs≠0:=fun z=>by
   have:i=0:=Int.natAbs_eq_zero.mp z;subst this;exact q rfl
  have:=(Nat.log2_lt n0).mpr h;omega
theorem yF(h:bA i<=k):i.natAbs<2^k:=by
 unfold bA Builtin.Int.intBits at h;split at h
 ·rename_i q;have:i=0:=by simpa using q
  subst this;exact Nat.two_pow_pos k
 ·rename_i q;have n0:i.natAbs≠0:=fun z=>by
   have:i=0:=Int.natAbs_eq_zero.mp z;subst this;exact q rfl
  exact(Nat.log2_lt n0).mp (by omega)
theorem wD(i j:Int):bA (i*j)<=bA i+bA j:=by
 refine iM ?_;rw[Int.natAbs_mul,Nat.pow_add];exact Nat.mul_lt_mul'' (yF (zO _)) (yF (zO _))
theorem Ph(i j:Int):bA (i+j)<=max (bA i) (bA j)+1:=by
 refine iM ?_;have h1:i.natAbs<2^ (max (bA i) (bA j)):=yF (Nat.le_max_left _ _);have h2:j.natAbs<2^ (max (bA i) (bA j)):=yF (Nat.le_max_right _ _);have h3:=Int.natAbs_add_le i j;rw[Nat.pow_succ];omega
theorem z20(i:Int):bA (-i)=bA i:=by unfold bA Builtin.Int.intBits;simp
theorem Xh(i j:Int):bA (i - j)<=max (bA i) (bA j)+1:=by
 have h:=Ph i (-j);rw[z20,<- Int.sub_eq_add_neg] at h;exact h
theorem qU(h:i.natAbs<=j.natAbs):bA i<=bA j:=iM (zM h (yF (zO _)))
section
variable{X:Cx}
theorem JL{f:Value ->Value ->Sem Value}{C:Int ->Int ->Prop}{v:Int ->Int ->V}{d:Int ->Int ->D}{g:D ->D ->(D ->Prop) ->Prop}(ho:iu X f (rI C v))(hg:∀x y P,g x y P ->∃i j,x= .int i/\y= .int j/\C i j/\P (d i j))(hd:∀i j F,Rep X.K F (d i j) (v i j)):iu X f (nY X.K g):=by
 rintro pins s σ H x y u w Q I rx ry ⟨F,d1,d2,P,sF,r1,r2,h,k⟩;obtain⟨i,j,rfl,rfl,hc,hp⟩:=hg _ _ _ h;unfold Rep at r1 r2;subst r1 r2;exact ho pins s σ H _ _ u w Q I rx ry ⟨i,j,rfl,rfl,hc,k _ _ F H (Gr.refl sF) (hd i j F) hp⟩
theorem Pj{f:Value ->Value ->Sem Value}{v:Int ->Int ->V}{d:Int ->Int ->D}{g:D ->D ->(D ->Prop) ->Prop}(ho:iu X f (yc v))(hg:∀x y P,g x y P ->∃i j,x= .int i/\y= .int j/\P (d i j))(hd:∀i j F,Rep X.K F (d i j) (v i j)):iu X f (nY X.K g):=by
 rintro pins s σ H x y u w Q I rx ry ⟨F,d1,d2,P,sF,r1,r2,h,k⟩;obtain⟨i,j,rfl,rfl,hp⟩:=hg _ _ _ h;unfold Rep at r1 r2;subst r1 r2;exact ho pins s σ H _ _ u w Q I rx ry ⟨i,j,rfl,rfl,k _ _ F H (Gr.refl sF) (hd i j F) hp⟩
def wI(C:Int ->Int ->Prop)(d:Int ->Int ->D):D ->D ->(D ->Prop) ->Prop:=fun x y P=>match x,y with
 | .int i,.int j=>C i j/\P (d i j)
 | _,_=>False
theorem JM(h:wI C d x y P):∃i j,x= .int i/\y= .int j/\C i j/\P (d i j):=by
 unfold wI at h;split at h
 ·exact⟨_,_,rfl,rfl,h⟩
 ·exact h.elim
def wF(d:Int ->Int ->D):D ->D ->(D ->Prop) ->Prop:=fun x y P=>match x,y with
 | .int i,.int j=>P (d i j)
 | _,_=>False
theorem Pk(h:wF d x y P):∃i j,x= .int i/\y= .int j/\P (d i j):=by
 unfold wF at h;split at h
 ·exact⟨_,_,rfl,rfl,h⟩
 ·exact h.elim
def gB:D ->D ->(D ->Prop) ->Prop:=fun x y P=>match x,y with
 | .int i,.int j=>P (.int (i+j))
 | .str i,.str j=>i.length+j.length<=sizeLine/\P (.str (i++j))
 | _,_=>False
theorem qw:iu X (binaryOp .Add) (nY X.K gB):=by
 rintro pins s σ H x y u w Q I rx ry ⟨F,d1,d2,P,sF,r1,r2,h,k⟩;unfold gB at h;split at h
 ·unfold Rep at r1 r2;subst r1 r2;exact z4x pins s σ H _ _ u w Q I rx ry ⟨_,_,rfl,rfl,k _ _ F H (Gr.refl sF) (by unfold Rep;rfl) h⟩
 ·unfold Rep at r1 r2;subst r1 r2;exact zsr pins s σ H _ _ u w Q I rx ry ⟨_,_,rfl,rfl,h.1,k _ _ F H (Gr.refl sF) (by unfold Rep;rfl) h.2⟩
 ·exact h.elim
def n8:D ->D ->(D ->Prop) ->Prop:=wF fun i j=> .int (i - j)
theorem JN:iu X (binaryOp .Sub) (nY X.K n8):=Pj z32 (fun _ _ _ h=>Pk h) fun _ _ _=>by unfold Rep;rfl
def pL(i j:Int):Prop:=bA i<=64\/bA j<=64\/bA i+bA j<=100000000
theorem pL.ok(h:pL i j):IntMulOk i j:=by
 rcases h with h | h | h
 ·exact .of_left h
 ·exact .of_right h
 ·exact z2e h
def cZ:D ->D ->(D ->Prop) ->Prop:=wI pL fun i j=> .int (i*j)
theorem jJ:iu X (binaryOp .Mult) (nY X.K cZ):=JL (C:=pL) (v:=fun i j=> .int (i*j)) (Jq fun i j _ _ _ _ _ hc q=>mul_int q hc.ok) (fun _ _ _ h=>JM h) fun _ _ _=>by unfold Rep;rfl
def gZ:D ->D ->(D ->Prop) ->Prop:=wI (fun _ j=>j≠0/\bA j<=9000) fun i j=> .int (i.fdiv j)
theorem qx:iu X (binaryOp .FloorDiv) (nY X.K gZ):=JL (C:=fun _ j=>j≠0/\bA j<=9000) (v:=fun i j=> .int (i.fdiv j)) (Jq fun i j _ _ _ _ _ hc q=>floordiv_int hc.1 q (.inl (PyProof.noPylong_of_log2 (by
 have:=yF hc.2;exact(Nat.log2_lt (fun z=>hc.1 (Int.natAbs_eq_zero.mp z))).mpr this)))) (fun _ _ _ h=>JM h) fun _ _ _=>by unfold Rep;rfl
def dI:D ->D ->(D ->Prop) ->Prop:=wI (fun _ j=>j≠0) fun i j=> .int (i.fmod j)
theorem jY:iu X (binaryOp .Mod) (nY X.K dI):=JL (C:=fun _ j=>j≠0) z1v (fun _ _ _ h=>JM h) fun _ _ _=>by unfold Rep;rfl
def yG:D ->D ->(D ->Prop) ->Prop:=wI yg fun i j=> .int (i^j.toNat)
theorem z5t:iu X (binaryOp .Pow) (nY X.K yG):=JL z5i (fun _ _ _ h=>JM h) fun _ _ _=>by unfold Rep;rfl
def Fe:D ->D ->(D ->Prop) ->Prop:=wF fun i j=> .bl (decide (i<j))
theorem yH:iu X (compareOp .Lt) (nY X.K Fe):=Pj z6c (fun _ _ _ h=>Pk h) fun _ _ _=>by unfold Rep;rfl
def gLe:D ->D ->(D ->Prop) ->Prop:=wF fun i j=> .bl (decide (i<=j))
def Bc:D ->D ->(D ->Prop) ->Prop:=wF fun i j=> .bl (decide (j<i))
theorem vG:iu X (compareOp .Gt) (nY X.K Bc):=Pj z56 (fun _ _ _ h=>Pk h) fun _ _ _=>by unfold Rep;rfl
def gGe:D ->D ->(D ->Prop) ->Prop:=wF fun i j=> .bl (decide (j<=i))
def tu:D ->Bool | .non=>true | _=>false
def gIs:D ->D ->(D ->Prop) ->Prop:=fun x y P=>match y with | .non=>P (.bl (tu x)) | .bl d=>(match x with | .bl c=>P (.bl (c==d)) | _=>False) | _=>False
def Pn:D ->D ->(D ->Prop) ->Prop:=fun x y P=>match y with | .non=>P (.bl (!tu x)) | .bl d=>(match x with | .bl c=>P (.bl (c !=d)) | _=>False) | _=>False
mutual
def bV:D ->D ->Bool
 | .non,.non=>true
 | .bl a,.bl b=>a==b
 | .int a,.int b=>a==b
 | .str a,.str b=>a==b
 | .tup xs,.tup ys=>cI xs ys
 | .lst xs,.lst ys=>cI xs ys
 | .exc a,.exc b=>a==b
 | .ptr a,.ptr b=>a==b
 | .obj C fs xs,.obj C' fs' ys=>decide (C=C')&&decide (fs=fs')&&cI xs ys
 | .dic ks xs,.dic ks' ys=>decide (ks=ks')&&cI xs ys
 | .gh ks xs,.gh ks' ys=>decide (ks=ks')&&cI xs ys
 | .dik ks xs,.dik ks' ys=>decide (ks=ks')&&cI xs ys
 | _,_=>false
def cI:List D ->List D ->Bool
 | [],[]=>true
 | x::xs,y::ys=>bV x y&&cI xs ys
 | _,_=>false
end
@[simp] def kd:D ->Nat
 | .non=>0
 | .bl _=>1
 | .int _=>2
 | .str _=>3
 | .tup _=>4
 | .lst _=>5
 | _=>6
@[simp] def qy (d d' :D):Bool:=kd d<6&&kd d' <6&&(kd d !=kd d' || kd d<4)&&(kd d !=1 || kd d' !=2)&&(kd d !=2 || kd d' !=1)
def gQ:Nat ->D ->D ->Prop
 | n+1,.tup xs,.tup ys=>∀(i:Nat) x y,xs[i]?=some x ->ys[i]?=some y ->gQ n x y
 | n+1,.lst xs,.lst ys=>∀(i:Nat) x y,xs[i]?=some x ->ys[i]?=some y ->gQ n x y
 | _,d,d' =>qy d d' =true
end
mutual
theorem vH:∀d:D,bV d d=true
 | .non=>by simp [bV]
 | .bl _=>by simp [bV]
 | .int _=>by simp [bV]
 | .str _=>by simp [bV]
 | .tup xs=>by unfold bV;exact yI xs
 | .lst xs=>by unfold bV;exact yI xs
 | .exc _=>by simp [bV]
 | .ptr _=>by simp [bV]
 | .obj _ _ xs=>by unfold bV;rw[yI xs];simp
 | .dic _ xs=>by unfold bV;rw[yI xs];simp
 | .gh _ xs=>by unfold bV;rw[yI xs];simp
 | .dik _ xs=>by unfold bV;rw[yI xs];simp
theorem yI:∀ds:List D,cI ds ds=true
 | []=>by simp [cI]
 | d::ds=>by unfold cI;rw[vH d,yI ds];rfl
end
mutual
theorem Xi:∀a b:D,bV a b=true ->a=b
 | .non,b,h=>by cases b<;>simp [bV] at h<;>simp [h]
 | .bl _,b,h=>by cases b<;>simp [bV] at h<;>simp [h]
 | .int _,b,h=>by cases b<;>simp [bV] at h<;>simp [h]
 | .str _,b,h=>by cases b<;>simp [bV] at h<;>simp [h]
 | .exc _,b,h=>by cases b<;>simp [bV] at h<;>simp [h]
 | .ptr _,b,h=>by cases b<;>simp [bV] at h<;>simp [h]
 | .obj _ _ xs,b,h=>by
  cases b with
  | obj _ _ ys=>unfold bV at h;simp only [Bool.and_eq_true,decide_eq_true_eq] at h;rw[h.1.1,h.1.2,yJ xs ys h.2]
  | _=>simp [bV] at h
 | .dic _ xs,b,h=>by
  cases b with
  | dic _ ys=>unfold bV at h;simp only [Bool.and_eq_true,decide_eq_true_eq] at h;rw[h.1,yJ xs ys h.2]
  | _=>simp [bV] at h
 | .gh _ xs,b,h=>by
  cases b with
  | gh _ ys=>unfold bV at h;simp only [Bool.and_eq_true,decide_eq_true_eq] at h;rw[h.1,yJ xs ys h.2]
  | _=>simp [bV] at h
 | .dik _ xs,b,h=>by
  cases b with
  | dik _ ys=>unfold bV at h;simp only [Bool.and_eq_true,decide_eq_true_eq] at h;rw[h.1,yJ xs ys h.2]
  | _=>simp [bV] at h
 | .tup xs,b,h=>by
  cases b with
  | tup ys=>unfold bV at h;rw[yJ xs ys h]
  | _=>simp [bV] at h
 | .lst xs,b,h=>by
  cases b with
  | lst ys=>unfold bV at h;rw[yJ xs ys h]
  | _=>simp [bV] at h
theorem yJ:∀a b:List D,cI a b=true ->a=b
 | [],b,h=>by cases b<;>simp [cI] at h<;>rfl
 | x::xs,b,h=>by
  cases b with
  | nil=>simp [cI] at h
  | cons y ys=>
   unfold cI at h;rw[Bool.and_eq_true] at h;rw[Xi x y h.1,yJ xs ys h.2]
end
open Classical in
theorem Pr:∀{xs ys:List D},xs.length=ys.length ->(∀e:Nat ->Bool,(∀(i:Nat) x y,xs[i]?=some x ->ys[i]?=some y ->e i=bV x y) ->(List.range xs.length).all e=cI xs ys)
 | [],[],_,_,_=>by simp [cI]
 | x::xs,y::ys,hl,e,he=>by
  have ih:=Pr (xs:=xs) (ys:=ys) (by simpa using hl) (fun i=>e (i+1)) fun i a b h1 h2=>he (i+1) a b (by simpa using h1) (by simpa using h2)
  rw[List.length_cons,List.range_succ_eq_map,List.all_cons,List.all_map];unfold cI;rw[he 0 x y rfl rfl]
  congr 1
theorem Pu:∀{xs ys:List D},xs.length≠ys.length ->cI xs ys=false
 | [],[],h=>absurd rfl h
 | [],_::_,_=>by simp [cI]
 | _::_,[],_=>by simp [cI]
 | x::xs,y::ys,h=>by
  unfold cI;rw[Pu (fun z=>h (by simp [z])),Bool.and_false]
end L3
namespace L3
open PySem PySem.Spec PyProof.Rows L2
theorem Xj:∀{xs ys:List D},xs.length=ys.length ->(∀(i:Nat) x y,xs[i]?=some x ->ys[i]?=some y ->bV x y=true) ->cI xs ys=true
 | [],[],_,_=>by simp [cI]
 | x::xs,y::ys,hl,h=>by
  unfold cI;rw[h 0 x y rfl rfl,Xj (by simpa using hl) fun i a b h1 h2=>h (i+1) a b (by simpa using h1) (by simpa using h2)]
  rfl
section
variable{X:Cx}{pins:bC}{σ:St}{F H:Hp}{s:Shared}
theorem Xk(I:Inv X pins σ H s){a:Addr}{xs ys:List V}(h:fM X.K H a xs)(h' :iY X.K H a ys):False:=by
 obtain⟨its,_,⟨o,n,e,c,_,_⟩,_⟩:=I.list h;obtain⟨its',_,⟨o',e',c',_⟩,_⟩:=I.tuple h';rw[e] at e';cases e';rw[c] at c';injection c' with c';exact absurd c' (by decide)
theorem JQ{n:Nat}{d d' :D}(hc:gQ n d d'):qy d d' =true\/ (∃m xs ys,n=m+1/\d= .tup xs/\d' = .tup ys/\∀(i:Nat) x y,xs[i]?=some x ->ys[i]?=some y ->gQ m x y)\/
  ∃m xs ys,n=m+1/\d= .lst xs/\d' = .lst ys/\∀(i:Nat) x y,xs[i]?=some x ->ys[i]?=some y ->gQ m x y:=by
 unfold gQ at hc;split at hc
 ·exact .inr (.inl ⟨_,_,_,rfl,rfl,rfl,hc⟩)
 ·exact .inr (.inr ⟨_,_,_,rfl,rfl,rfl,hc⟩)
 ·exact .inl hc
theorem Xl(I:Inv X pins σ H s)(sF:Same F H):∀(n:Nat) (d d' :D) (v:V),gQ n d d' ->Rep X.K F d v ->Rep X.K F d' v ->bV d d' =true:=by
 have flat:∀(d d' :D) (v:V),qy d d' =true ->Rep X.K F d v ->Rep X.K F d' v ->bV d d' =true:=by
  intro d d' v hf r r';cases d with
  | non=>simp only [Rep] at r;subst r;cases d' <;>simp only [Rep] at r' <;>first | rfl | (cases hf;done) | (cases r';done) | (obtain⟨_,_,z,_⟩:=r';cases z)
  | bl=>simp only [Rep] at r;subst r;cases d' <;>simp only [Rep] at r' <;>first | (cases hf;done) | (cases r';done) | (cases r';exact vH _) | (obtain⟨_,_,z,_⟩:=r';cases z)
  | int=>simp only [Rep] at r;subst r;cases d' <;>simp only [Rep] at r' <;>first | (cases hf;done) | (cases r';done) | (cases r';exact vH _) | (obtain⟨_,_,z,_⟩:=r';cases z)
  | str=>simp only [Rep] at r;subst r;cases d' <;>simp only [Rep] at r' <;>first | (cases hf;done) | (cases r';done) | (cases r';exact vH _) | (obtain⟨_,_,z,_⟩:=r';cases z)
  | tup=>simp only [Rep] at r;obtain⟨a,vs,rfl,h1,_⟩:=r;cases d' <;>simp only [Rep] at r' <;>first | (cases hf;done) | (cases r';done) | (obtain⟨_,_,z,h2,_⟩:=r';cases z;exact(Xk I (sF.seq h2) (jX sF h1)).elim)
  | lst=>simp only [Rep] at r;obtain⟨a,vs,rfl,h1,_⟩:=r;cases d' <;>simp only [Rep] at r' <;>first | (cases hf;done) | (cases r';done) | (obtain⟨_,_,z,h2,_⟩:=r';cases z;exact(Xk I (sF.seq h1) (jX sF h2)).elim)
  | _=>cases hf
 intro n;induction n with
 | zero=>
  intro d d' v hc r r';rcases JQ hc with h | ⟨_,_,_,h,_⟩ | ⟨_,_,_,h,_⟩
  ·exact flat d d' v h r r'
  ·cases h
  ·cases h
 | succ n ih=>
  intro d d' v hc r r';have go:∀{xs ys:List D} {vs us:List V},vs=us ->ak X.K F xs vs ->ak X.K F ys us ->(∀(i:Nat) x y,xs[i]?=some x ->ys[i]?=some y ->gQ n x y) ->cI xs ys=true:=by
   intro xs ys vs us e r1 r2 hc;subst e;refine Xj (by rw[gj r1,gj r2]) fun i x y h1 h2=> ?_
   obtain⟨v1,e1,q1⟩:=oA r1 h1;obtain⟨v2,e2,q2⟩:=oA r2 h2;rw[e1] at e2;cases e2;exact ih x y v1 (hc i x y h1 h2) q1 q2
  rcases JQ hc with h | ⟨_,xs,ys,h,rfl,rfl,hc⟩ | ⟨_,xs,ys,h,rfl,rfl,hc⟩
  ·exact flat d d' v h r r'
  ·cases h;simp only [Rep] at r r';obtain⟨a,vs,rfl,h1,q1⟩:=r;obtain⟨b,us,z,h2,q2⟩:=r';cases z;unfold bV;exact go (I.tuple_inj (jX sF h1) (jX sF h2)) q1 q2 hc
  ·cases h;simp only [Rep] at r r';obtain⟨a,vs,rfl,h1,q1⟩:=r;obtain⟨b,us,z,h2,q2⟩:=r';cases z;unfold bV;exact go (I.list_inj (sF.seq h1) (sF.seq h2)) q1 q2 hc
structure Xm (A:Around) (s:Shared) (v u:Value) (b:Bool):Prop where
 eq:SeqAt.EqAt A s v u b
 rc:SeqAt.RcAt A s v u b
 ne:SeqAt.RcNeAt A s v u (!b)
theorem zsx{n m:Nat}(e:Nat ->Bool)(h:n=m):((List.range (min n m)).all e&&n==m)=(List.range n).all e:=by
 subst h;simp
def Kn(s:Shared):D ->Value ->Prop
 | .non,v=>v= .none
 | .bl b,v=>v= .bool b
 | .int i,v=>∃t,v= .int i t
 | .str x,v=>∃t,v= .str x t
 | .tup _,v=>∃l,v= .ref l/\∃is,IsTup s.heap l is
 | .lst _,v=>∃l,v= .ref l/\∃is,s.heap.IsList l is
 | _,_=>True
theorem kn(I:Inv X pins σ H s)(sF:Same F H){d:D}{x:V}{v:Value}(r:Rep X.K F d x)(rv:RelV x v):Kn s d v:=by
 cases d<;>simp only [Rep] at r<;>unfold Kn<;>try trivial
 case non=>subst r;cases rv;rfl
 case bl=>subst r;cases rv;rfl
 case int=>subst r;obtain⟨t,rfl⟩:=rv;exact⟨t,rfl⟩
 case str=>subst r;obtain⟨t,rfl⟩:=rv;exact⟨t,rfl⟩
 case tup=>
  obtain⟨l,vs,rfl,h,_⟩:=r;cases rv;obtain⟨is,_,k,_⟩:=I.tuple (jX sF h);exact⟨l,rfl,_,k⟩
 case lst=>
  obtain⟨l,vs,rfl,h,_⟩:=r;cases rv;obtain⟨is,_,k,_⟩:=I.list (sF.seq h);exact⟨l,rfl,_,k.isList⟩
theorem Xn{A:Around}{d d' :D}{v u:Value}(hu0:A.units<cLine)(hf:qy d d' =true)(a:Kn s d v)(b:Kn s d' u):Xm A s v u (bV d d'):=by
 cases d with
 | non=>
  obtain rfl:=a;cases d' with
  | non=>obtain rfl:=b;exact⟨.same _,.none_none,.none_none⟩
  | bl _=>obtain rfl:=b;exact⟨.none_bool _,.none_bool _,.none_bool _⟩
  | int _=>obtain⟨_,rfl⟩:=b;exact⟨.none_int _ _,.none_int _ _,.none_int _ _⟩
  | str _=>obtain⟨_,rfl⟩:=b;exact⟨.none_str _ _,.none_str _ _,.none_str _ _⟩
  | tup _=>obtain⟨_,rfl,_,k2⟩:=b;exact⟨.none_tuple k2 hu0,.none_tuple k2 hu0,.none_tuple k2 hu0⟩
  | lst _=>obtain⟨_,rfl,_,k2⟩:=b;exact⟨.none_list k2 hu0,.none_list k2 hu0,.none_list k2 hu0⟩
  | _=>cases hf
 | bl _=>
  obtain rfl:=a;cases d' with
  | non=>obtain rfl:=b;exact⟨.bool_none _,.bool_none _,.bool_none _⟩
  | bl _=>obtain rfl:=b;exact⟨.bool_bool _ _,.bool_bool _ _,.bool_bool _ _⟩
  | str _=>obtain⟨_,rfl⟩:=b;exact⟨.bool_str _ _ _,.bool_str _ _ _,.bool_str _ _ _⟩
  | tup _=>obtain⟨_,rfl,_,k2⟩:=b;exact⟨.bool_tuple _ k2 hu0,.bool_tuple _ k2 hu0,.bool_tuple _ k2 hu0⟩
  | lst _=>obtain⟨_,rfl,_,k2⟩:=b;exact⟨.bool_list _ k2 hu0,.bool_list _ k2 hu0,.bool_list _ k2 hu0⟩
  | _=>cases hf
 | int _=>
  obtain⟨_,rfl⟩:=a;cases d' with
  | non=>obtain rfl:=b;exact⟨.int_none _ _,.int_none _ _,.int_none _ _⟩
  | int _=>obtain⟨_,rfl⟩:=b;exact⟨.int_int _ _ _ _,.int_int _ _ _ _,.int_int _ _ _ _⟩
  | str _=>obtain⟨_,rfl⟩:=b;exact⟨.int_str _ _ _ _,.int_str _ _ _ _,.int_str _ _ _ _⟩
  | tup _=>obtain⟨_,rfl,_,k2⟩:=b;exact⟨.int_tuple _ _ k2 hu0,.int_tuple _ _ k2 hu0,.int_tuple _ _ k2 hu0⟩
  | lst _=>obtain⟨_,rfl,_,k2⟩:=b;exact⟨.int_list _ _ k2 hu0,.int_list _ _ k2 hu0,.int_list _ _ k2 hu0⟩
  | _=>cases hf
 | str _=>
  obtain⟨_,rfl⟩:=a;cases d' with
  | non=>obtain rfl:=b;exact⟨.str_none _ _,.str_none _ _,.str_none _ _⟩
  | bl _=>obtain rfl:=b;exact⟨.str_bool _ _ _,.str_bool _ _ _,.str_bool _ _ _⟩
  | int _=>obtain⟨_,rfl⟩:=b;exact⟨.str_int _ _ _ _,.str_int _ _ _ _,.str_int _ _ _ _⟩
  | str _=>obtain⟨_,rfl⟩:=b;exact⟨.str_str _ _ _ _,.str_str _ _ _ _,.str_str _ _ _ _⟩
  | tup _=>obtain⟨_,rfl,_,k2⟩:=b;exact⟨.str_tuple _ _ k2 hu0,.str_tuple _ _ k2 hu0,.str_tuple _ _ k2 hu0⟩
  | lst _=>obtain⟨_,rfl,_,k2⟩:=b;exact⟨.str_list _ _ k2 hu0,.str_list _ _ k2 hu0,.str_list _ _ k2 hu0⟩
  | _=>cases hf
 | tup _=>
  obtain⟨_,rfl,_,k1⟩:=a;cases d' with
  | non=>obtain rfl:=b;exact⟨.tuple_none k1 hu0,.tuple_none k1 hu0,.tuple_none k1 hu0⟩
  | bl _=>obtain rfl:=b;exact⟨.tuple_bool _ k1 hu0,.tuple_bool _ k1 hu0,.tuple_bool _ k1 hu0⟩
  | int _=>obtain⟨_,rfl⟩:=b;exact⟨.tuple_int _ _ k1 hu0,.tuple_int _ _ k1 hu0,.tuple_int _ _ k1 hu0⟩
  | str _=>obtain⟨_,rfl⟩:=b;exact⟨.tuple_str _ _ k1 hu0,.tuple_str _ _ k1 hu0,.tuple_str _ _ k1 hu0⟩
  | lst _=>obtain⟨_,rfl,_,k2⟩:=b;exact⟨.tuple_list k1 k2 hu0,.tuple_list k1 k2 hu0,.tuple_list k1 k2 hu0⟩
  | _=>cases hf
 | lst _=>
  obtain⟨_,rfl,_,k1⟩:=a;cases d' with
  | non=>obtain rfl:=b;exact⟨.list_none k1 hu0,.list_none k1 hu0,.list_none k1 hu0⟩
  | bl _=>obtain rfl:=b;exact⟨.list_bool _ k1 hu0,.list_bool _ k1 hu0,.list_bool _ k1 hu0⟩
  | int _=>obtain⟨_,rfl⟩:=b;exact⟨.list_int _ _ k1 hu0,.list_int _ _ k1 hu0,.list_int _ _ k1 hu0⟩
  | str _=>obtain⟨_,rfl⟩:=b;exact⟨.list_str _ _ k1 hu0,.list_str _ _ k1 hu0,.list_str _ _ k1 hu0⟩
  | tup _=>obtain⟨_,rfl,_,k2⟩:=b;exact⟨.list_tuple k1 k2 hu0,.list_tuple k1 k2 hu0,.list_tuple k1 k2 hu0⟩
  | _=>cases hf
 | _=>cases hf
theorem Fg(I:Inv X pins σ H s)(sF:Same F H):∀(n:Nat) (A:Around) (d d' :D) (x y:V) (v u:Value),A.units+n+1<cLine ->gQ n d d' ->Rep X.K F d x ->Rep X.K F d' y ->RelV x v ->RelV y u ->Xm A s v u (bV d d'):=by
 intro n;induction n with
 | zero=>
  intro A d d' x y v u hu hc r r' rv ru;rcases JQ hc with h | ⟨_,_,_,h,_⟩ | ⟨_,_,_,h,_⟩
  ·exact Xn (by omega) h (kn I sF r rv) (kn I sF r' ru)
  ·cases h
  ·cases h
 | succ n ih=>
  intro A d d' x y v u hu hc0 r r' rv ru;have hu0:A.units<cLine:=by omega
  rcases JQ hc0 with h | ⟨_,xs,ys,h,rfl,rfl,hc⟩ | ⟨_,xs,ys,h,rfl,rfl,hc⟩
  ·exact Xn hu0 h (kn I sF r rv) (kn I sF r' ru)
  ·cases h;simp only [Rep] at r r';obtain⟨l1,vs,rfl,h1,q1⟩:=r;obtain⟨l2,us,rfl,h2,q2⟩:=r';cases rv;cases ru;obtain⟨is1,p1,k1,_⟩:=I.tuple (jX sF h1);obtain⟨is2,p2,k2,_⟩:=I.tuple (jX sF h2);have el1:is1.length=xs.length:=by rw[<- p1.length,gj q1]
   have el2:is2.length=ys.length:=by rw[<- p2.length,gj q2]
   have at_:∀j (g1:j<is1.toArray.size) (g2:j<is2.toArray.size),SeqAt.EqAt A.in1 s is1.toArray[j] is2.toArray[j] ((fun j=>match xs[j]?,ys[j]? with | some a,some b=>bV a b | _,_=>false) j):=by
    intro j g1 g2;have Px :j<xs.length:=by simpa [el1] using g1
    have Py :j<ys.length:=by simpa [el2] using g2
    have e1:xs[j]?=some xs[j]:=by simp [Px]
    have e2:ys[j]?=some ys[j]:=by simp [Py]
    obtain⟨w1,f1,m1⟩:=oA q1 e1;obtain⟨w2,f2,m2⟩:=oA q2 e2;obtain⟨z1,c1,b1⟩:=p1.get f1;obtain⟨z2,c2,b2⟩:=p2.get f2;have y1:is1.toArray[j]=z1:=by simpa [List.getElem?_eq_some_iff] using (zW.mp c1).2
    have y2:is2.toArray[j]=z2:=by simpa [List.getElem?_eq_some_iff] using (zW.mp c2).2
    simp only [e1,e2];rw[y1,y2];exact(ih A.in1 _ _ w1 w2 z1 z2 (by show A.units+1+n+1<cLine;omega) (hc j _ _ e1 e2) m1 m2 b1 b2).eq
   unfold bV;have same:l1=l2 ->cI xs ys=true:=fun e=>by
    have z:=Xl I sF (n+1) (.tup xs) (.tup ys) (.ref l1) (by simp only [gQ];exact hc) (by simp only [Rep];exact⟨l1,vs,rfl,h1,q1⟩) (by simp only [Rep];exact⟨l2,us,by rw[e],h2,q2⟩)
    unfold bV at z;exact z
   have ev:((List.range (min is1.toArray.size is2.toArray.size)).all (fun j=>match xs[j]?,ys[j]? with | some a,some b=>bV a b | _,_=>false)&&is1.toArray.size==is2.toArray.size)=cI xs ys:=by
    have s1:is1.toArray.size=xs.length:=by simp [el1]
    have s2:is2.toArray.size=ys.length:=by simp [el2]
    rw[s1,s2];by_cases hl:xs.length=ys.length
    ·rw[zsx _ hl];exact Pr hl _ fun i a b z1 z2=>by simp only [z1,z2]
    ·rw[Pu hl,beq_false_of_ne hl,Bool.and_false]
   have rc:=SeqAt.RcAt.tuples k1 k2 hu0 at_;have rn:=SeqAt.RcNeAt.tuples k1 k2 hu0 at_;rw[ev] at rc rn;refine⟨?_,rc,rn⟩;by_cases e:l1=l2
   ·rw[same e];subst e;exact SeqAt.EqAt.same _
   ·exact SeqAt.EqAt.of_refs e rc
  ·cases h;simp only [Rep] at r r';obtain⟨l1,vs,rfl,h1,q1⟩:=r;obtain⟨l2,us,rfl,h2,q2⟩:=r';cases rv;cases ru;obtain⟨is1,p1,k1',_⟩:=I.list (sF.seq h1);obtain⟨is2,p2,k2',_⟩:=I.list (sF.seq h2);have k1:=k1'.isList;have k2:=k2'.isList;have el1:is1.length=xs.length:=by rw[<- p1.length,gj q1]
   have el2:is2.length=ys.length:=by rw[<- p2.length,gj q2]
   have at_:∀j (g1:j<is1.toArray.size) (g2:j<is2.toArray.size),SeqAt.EqAt A.in1 s is1.toArray[j] is2.toArray[j] ((fun j=>match xs[j]?,ys[j]? with | some a,some b=>bV a b | _,_=>false) j):=by
    intro j g1 g2;have Px :j<xs.length:=by simpa [el1] using g1
    have Py :j<ys.length:=by simpa [el2] using g2
    have e1:xs[j]?=some xs[j]:=by simp [Px]
    have e2:ys[j]?=some ys[j]:=by simp [Py]
    obtain⟨w1,f1,m1⟩:=oA q1 e1;obtain⟨w2,f2,m2⟩:=oA q2 e2;obtain⟨z1,c1,b1⟩:=p1.get f1;obtain⟨z2,c2,b2⟩:=p2.get f2;have y1:is1.toArray[j]=z1:=by simpa [List.getElem?_eq_some_iff] using (zW.mp c1).2
    have y2:is2.toArray[j]=z2:=by simpa [List.getElem?_eq_some_iff] using (zW.mp c2).2
    simp only [e1,e2];rw[y1,y2];exact(ih A.in1 _ _ w1 w2 z1 z2 (by show A.units+1+n+1<cLine;omega) (hc j _ _ e1 e2) m1 m2 b1 b2).eq
   unfold bV;have same:l1=l2 ->cI xs ys=true:=fun e=>by
    have z:=Xl I sF (n+1) (.lst xs) (.lst ys) (.ref l1) (by simp only [gQ];exact hc) (by simp only [Rep];exact⟨l1,vs,rfl,h1,q1⟩) (by simp only [Rep];exact⟨l2,us,by rw[e],h2,q2⟩)
    unfold bV at z;exact z
   have rcn:SeqAt.RcAt A s (.ref l1) (.ref l2) (cI xs ys)/\SeqAt.RcNeAt A s (.ref l1) (.ref l2) (!cI xs ys):=by
    by_cases hl:xs.length=ys.length
    ·have ev:(List.range is1.toArray.size).all (fun j=>match xs[j]?,ys[j]? with | some a,some b=>bV a b | _,_=>false)=cI xs ys:=by
      have s1:is1.toArray.size=xs.length:=by simp [el1]
      rw[s1];exact Pr hl _ fun i a b z1 z2=>by simp only [z1,z2]
     have hz:is1.toArray.size=is2.toArray.size:=by simp [el1,el2,hl]
     have rc:=SeqAt.RcAt.lists k1 k2 hz hu0 at_;have rn:=SeqAt.RcNeAt.lists k1 k2 hz hu0 at_;rw[ev] at rc rn;exact⟨rc,rn⟩
    ·have hz:(is1.toArray.size !=is2.toArray.size)=true:=by simp [el1,el2,hl]
     rw[Pu hl];exact⟨SeqAt.RcAt.lists_lengths k1 k2 hz hu0,SeqAt.RcNeAt.lists_lengths k1 k2 hz hu0⟩
   obtain⟨rc,rn⟩:=rcn;refine⟨?_,rc,rn⟩;by_cases e:l1=l2
   ·rw[same e];subst e;exact SeqAt.EqAt.same _
   ·exact SeqAt.EqAt.of_refs e rc
def oF:D ->D ->(D ->Prop) ->Prop:=fun x y P=>gQ 20 x y/\P (.bl (bV x y))
def rQ:D ->D ->(D ->Prop) ->Prop:=fun x y P=>gQ 20 x y/\P (.bl (!bV x y))
theorem iQ(hu:X.A.units+21<cLine):iu X (compareOp .Eq) (nY X.K oF):=by
 rintro pins s σ H x y u w Q I rx ry ⟨F,d1,d2,P,sF,r1,r2,h,k⟩;exact(Fg I sF 20 X.A d1 d2 x y u w hu h.1 r1 r2 rx ry).rc _ _ _ _ ⟨.bl _,H,I,rfl,k _ _ F H (Gr.refl sF) (by unfold Rep;rfl) h.2⟩
theorem mz(hu:X.A.units+21<cLine):iu X (compareOp .NotEq) (nY X.K rQ):=by
 rintro pins s σ H x y u w Q I rx ry ⟨F,d1,d2,P,sF,r1,r2,h,k⟩;exact(Fg I sF 20 X.A d1 d2 x y u w hu h.1 r1 r2 rx ry).ne _ _ _ _ ⟨.bl _,H,I,rfl,k _ _ F H (Gr.refl sF) (by unfold Rep;rfl) h.2⟩
end
def m8(K:W.Frag)(C D:Addr):Bool:=match K.lookup C with
 | some ⟨_,_,.cls cd,_⟩=>cd.mro.contains (.ref D)
 | _=>false
section
variable{M:Model}{A:Around}{E:bJ}{h:Heap}{g:Array GenState}{d:Drawn}{t:Nat}{os:OsState}
 {nm q nm' q' :Str} {C N C' N' :Addr} {bs bm bs' bm' :List Value} {hdct Xo :Bool} {sn sn' :List Str} {sub sub' :List Value} {ab ab' :Bool} {col col' :Option Bool} {dd Ed :Option Addr} {k0 k1 k2 k3 k5 j0 j1 j2 j3 j5:Option Value} {newId newId' :String}
end
abbrev _root_.L2.Cx.hand(X:Cx)(a:Addr):Cx:={X with A:=X.A.mark (some (.ref a)),calm:=false}
section
variable{X:Cx}{pins:bC}{σ:St}{H:Hp}{s:Shared}{a:Addr}
end
def j9:XW:=fun _ _=>False
section
variable{X:Cx}{pins:bC}{σ:St}{H:Hp}{s:Shared}
theorem Bd:Ctx (X.wsh ⟨fun _ _=>False,pn⟩) F0 H0 j9:=
 ⟨fun _ _ _ _ _ _ _ _ _ _ h=>by obtain⟨_,_,_,_,_,_,_,_,_,_,_,_,_,_,_,_,h,_⟩:=h;exact h.elim,PassesOwn.never⟩
end
def Pz(K:W.Frag)(Cd:Addr)(tb th:au):au:=fun D Γ _=>tb D Γ fun Γ1 Cv=>∃C,Cv= .ref C/\sO K C/\m8 K C Cd=true/\th D Γ1 j9
def Fi(K:W.Frag)(Cd:Addr)(i:Nat)(tb th:au):au:=fun D Γ _=>tb D Γ fun Γ1 Cv=>∃C,Cv= .ref C/\sO K C/\m8 K C Cd=true/\
 th {nx:=fun Γ' =>D.nx (Γ'.set i .no),rt:=D.rt,bk:=fun Γ' =>D.bk (Γ'.set i .no),ct:=fun Γ' =>D.ct (Γ'.set i .no)} (Γ1.set i (.pu (.exc C))) j9
section
variable{X:Cx}{F0 H0:Hp}{pos np hp:Pos}{x n:Str}{Cd:Addr}{body suite:List Stmt}{b₀:Stmt}{tb th:au}
end
def cU(g:D ->(D ->Prop) ->Prop)(ta:aH):aH:=fun Γ P E=>ta Γ (fun d Γ1=>g d fun d' =>P d' Γ1) E
def tD:D ->(D ->Prop) ->Prop:=fun x P=>match x with | .int i=>P (.int (-i)) | _=>False
def m9(K:W.Frag)(g:List D ->(D ->Prop) ->Prop):List V ->Hp ->VK ->Prop:=fun vs H Q=>∃F ds P,Same F H/\ak K F ds vs/\g ds P/\∀d z F' H',Gr F H F' H' ->Rep K F' d z ->P d ->Q z H'
def jK(g:List D ->(D ->Prop) ->Prop)(t:bh):aH:=fun Γ P E=>t Γ (fun ds Γ1=>g ds fun d=>P d Γ1) E
def dX:D ->D ->(D ->Prop) ->Prop:=fun x y P=>match x,y with
 | .lst xs,.int i=>∃d,jl xs i=some d/\P d
 | .tup xs,.int i=>∃d,jl xs i=some d/\P d
 | .str z,.int i=>∃c,z.length<=sizeLine/\jl z.cps.toList i=some c/\P (.str ⟨#[c]⟩)
 | _,_=>False
theorem Xp{K:W.Frag}{F:Hp}{ds:List D}{vs:List V}{i:Int}{d:D}(r:ak K F ds vs)(h:jl ds i=some d):∃v,jl vs i=some v/\Rep K F d v:=by
 unfold jl at h⊢;rw[<- gj r];cases q:qO ds.length i with
 | none=>rw[q] at h;cases h
 | some j=>
  rw[q] at h;exact oA r h
section
variable{X:Cx}{F0 H0:Hp}{a b e:Expr}{es:List Expr}{pos p:Pos}{ta tb te:aH}{t:bh}{x:Str}
theorem PB(ha:QE X F0 H0 a ta):QE X F0 H0 (.UnaryOp .USub a pos) (cU tD ta):=fun z E cx=>
 jt (z6r z3k (ha z E cx)) fun σ H Q hq1=>by obtain⟨F,Γ,P,R,h,k⟩:=hq1;exact⟨F,Γ,_,R,h,fun d Γ1 F1 H1 v R1 s1 r q=>by
  cases d with
  | int i=>
   unfold Rep at r;exact⟨i,r,k _ _ _ _ _ R1 s1 (by unfold Rep;rfl) q⟩
  | _=>exact False.elim q⟩
theorem Xq{K:W.Frag}{g:List D ->(D ->Prop) ->Prop}{E:XW}{σ:St}{H:Hp}{Q:VK}(h:yt K F0 H0 (jK g t) E σ H Q):DP (m9 K g) (Es K F0 H0 t E) σ H Q:=by
 obtain⟨F,Γ,P,R,h,k⟩:=h;exact⟨F,Γ,_,R,h,fun ds Γ1 F1 H1 vs R1 s1 r1 h1=>⟨F1,ds,_,R1.g,r1,h1,fun d z F' H' gr rz hp=>k d Γ1 F' H' z (R1.grow gr) (s1.trans gr.f) rz hp⟩⟩
theorem mJ{id:String}{g:List D ->(D ->Prop) ->Prop}(hc:∀z,cH (X.wsh z) (.builtin id) (m9 X.K g))(hg:Gl X x)(hm:X.mg x=none)(hv:bootBuiltins x=some (.builtin id))(ha:QA X F0 H0 (e::es) t)(hn:x≠ "__name__" :=by decide)(hdb:(x==("__debug__" :Str))=false:=by decide)
  (he:starEach (e::es) X.env=(false,eval e X.env)::starEach es X.env:=by rfl) (hpl:(backTo pos (starEach es X.env)).any (·.1)=false:=by rfl):QE X F0 H0 (.Call (.Name x p) (e::es) [] pos) (jK g t):=fun z E cx=>
 jt (Jt (X:=X.wsh z) (hc z) hg hm hv (ha z E cx) hn hdb he hpl) fun _ _ _ h=>Xq h
theorem eO(ha:QE X F0 H0 a ta)(hb:QE X F0 H0 b tb)(hs:Wm b):QE X F0 H0 (.Subscript a b pos) (cB dX ta tb):=fun z E cx=>
 jt (z6o (X:=X.wsh z) (r:=nY X.K dX) (by
  rintro value slice pins s σ H x y v u Q I rx ry ⟨F,d1,d2,P,sF,r1,r2,h,k⟩ hs;unfold dX at h;split at h
  ·unfold Rep at r1 r2;obtain⟨p,vs,rfl,hq,rs⟩:=r1;subst r2;obtain⟨d,e,hp⟩:=h;obtain⟨w,ew,lV⟩:=Xp rs e;exact z1q value slice pins s σ H _ _ v u Q I rx ry ⟨p,vs,_,w,rfl,rfl,sF.seq hq,ew,k _ _ F H (Gr.refl sF) lV hp⟩ hs
  ·unfold Rep at r1 r2;obtain⟨p,vs,rfl,hq,rs⟩:=r1;subst r2;obtain⟨d,e,hp⟩:=h;obtain⟨w,ew,lV⟩:=Xp rs e;exact z3g value slice pins s σ H _ _ v u Q I rx ry ⟨p,vs,_,w,rfl,rfl,jX sF hq,ew,k _ _ F H (Gr.refl sF) lV hp⟩ hs
  ·unfold Rep at r1 r2;subst r1 r2;obtain⟨c,hz,e,hp⟩:=h;exact z47 value slice pins s σ H _ _ v u Q I rx ry ⟨_,_,c,rfl,rfl,hz,e,k _ _ F H (Gr.refl sF) (by unfold Rep;rfl) hp⟩ hs
  ·exact h.elim) (ha z E cx) (hb z E cx) hs) fun _ _ _ h=>JD h
end
def Bf:List D ->(D ->Prop) ->Prop:=fun ds P=>match ds with | [.int i]=>P (.int (if i<0 then -i else i)) | _=>False
def pN:List D ->(D ->Prop) ->Prop:=fun ds P=>match ds with | [.lst xs]=>P (.int xs.length) | [.tup xs]=>P (.int xs.length) | [.str z]=>z.length<=sizeLine/\P (.int z.length) | _=>False
def z5z:List D ->(D ->Prop) ->Prop:=fun ds P=>match ds with | [.int i,.int j]=>P (.int (if j>i then j else i)) | _=>False
def z6q:List D ->(D ->Prop) ->Prop:=fun ds P=>match ds with | [.int i,.int j]=>P (.int (if j<i then j else i)) | _=>False
section
variable{X:Cx}
theorem PJ:cH X (.builtin "abs") (m9 X.K Bf):=by
 rintro pins s σ H xs us Q I r ⟨F,ds,P,sF,rs,h,k⟩;unfold Bf at h;split at h
 ·unfold ak ak Rep at rs;obtain⟨v,_,rfl,rfl,rfl⟩:=rs;exact zyf pins s σ H _ us Q I r ⟨_,rfl,k _ _ F H (Gr.refl sF) (by unfold Rep;rfl) h⟩
 ·exact h.elim
theorem rR:cH X (.builtin "len") (m9 X.K pN):=by
 rintro pins s σ H xs us Q I r ⟨F,ds,P,sF,rs,h,k⟩;unfold pN at h;split at h
 ·unfold ak ak Rep at rs;obtain⟨v,_,rfl,⟨p,vs,rfl,hq,rs⟩,rfl⟩:=rs;rw[gj rs] at h;exact Wq pins s σ H _ us Q I r ⟨p,vs,rfl,.inl (sF.seq hq),k _ _ F H (Gr.refl sF) (by unfold Rep;rfl) h⟩
 ·unfold ak ak Rep at rs;obtain⟨v,_,rfl,⟨p,vs,rfl,hq,rs⟩,rfl⟩:=rs;rw[gj rs] at h;exact Wq pins s σ H _ us Q I r ⟨p,vs,rfl,.inr (jX sF hq),k _ _ F H (Gr.refl sF) (by unfold Rep;rfl) h⟩
 ·unfold ak ak Rep at rs;obtain⟨v,_,rfl,rfl,rfl⟩:=rs;exact znz pins s σ H _ us Q I r ⟨_,rfl,h.1,k _ _ F H (Gr.refl sF) (by unfold Rep;rfl) h.2⟩
 ·exact h.elim
end
def wG:D ->Option String
 | .non=>some "NoneType" | .bl _=>some "bool" | .int _=>some "int" | .str _=>some "str" | .tup _=>some "tuple" | .lst _=>some "list" | .exc _=>none | .ptr _=>none | .obj _ _ _=>none | .dic _ _=>none | .gh _ _=>none | .dik _ _=>some "dict"
def iR(d:D)(T:String):Option Bool:=(wG d).bind fun S=>W.kitOne [] (.type S) (.type T)
def pO(T:String)(ta:aH):aH:=fun Γ P E=>ta Γ (fun d Γ1=>match iR d T with | some b=>P (.bl b) Γ1 | none=>False) E
theorem zsh(K K' :W.Frag)(S T:String):W.kitOne K (.type S) (.type T)=W.kitOne K' (.type S) (.type T):=rfl
section
variable{X:Cx}{pins:bC}{σ:St}{F H:Hp}{s:Shared}
theorem z4w(I:Inv X pins σ H s)(sF:Same F H)(r:Rep X.K F d x)(rx:RelV x u)(hS:wG d=some S)(e:W.kitOne X.K (.type S) c=some b)
  (h:∀tk,Q (.bool b) {s with toks:=tk}):wpAny (model X.prog X.w) A (call (.builtin "isinstance") [u,c]) Q E s:=by
 cases d with
 | non=>unfold Rep at r;subst r;cases hS;exact Jr I rx (.non) e h
 | bl y=>unfold Rep at r;subst r;cases hS;exact Jr I rx (.bl y) e h
 | int y=>unfold Rep at r;subst r;cases hS;exact Jr I rx (.int y) e h
 | str y=>unfold Rep at r;subst r;cases hS;exact Jr I rx (.str y) e h
 | tup xs=>
  unfold Rep at r;cases hS;obtain⟨a,vs,rfl,hq,_⟩:=r;cases rx;obtain⟨its,_,⟨o,h1,h2,_⟩,_⟩:=I.tuple (jX sF hq);exact W.kia_one W.kitx_tuple I.kIn ⟨o,h1,h2⟩ e (fun z=>nomatch z) h
 | lst xs=>
  unfold Rep at r;cases hS;obtain⟨a,vs,rfl,hq,_⟩:=r;cases rx;obtain⟨its,_,⟨o,n,h1,h2,_⟩,_⟩:=I.list (sF.seq hq);exact W.kia_one W.kitx_list I.kIn ⟨o,h1,h2⟩ e (fun z=>nomatch z) h
 | exc C=>cases hS
 | ptr _=>cases hS
 | obj _ _ _=>cases hS
 | dic _ _=>cases hS
 | gh _ _=>cases hS
 | dik ks ds=>
  unfold Rep at r;obtain⟨p,o,vs,rfl,hq,_⟩:=r;cases hS;cases rx;obtain⟨_,_,_,ws,_,o',es,ep,h1,h2,_⟩:=(show aU X.prog X.w H s.heap p (.frz o (.dK (ks.zip vs))) from I.hok p _ (sF _ _ hq));exact W.kia_one W.kitx_dict I.kIn ⟨o',h1,h2.1⟩ e (fun z=>nomatch z) h
end
section
variable{X:Cx}{F0 H0:Hp}{a:Expr}{pos p pt:Pos}{ta:aH}{x:Str}{T:String}
theorem Fj(ha:QE X F0 H0 a ta)(hg:Gl X "isinstance")(hm:X.mg "isinstance" =none)(hgT:Gl X x)(hmT:X.mg x=none)(hv:bootBuiltins x=some (.type T))(hn:x≠ "__name__" :=by decide)(hd:(x==("__debug__" :Str))=false:=by decide)
  (he:starEach [a,.Name x pt] X.env=(false,eval a X.env)::starEach [.Name x pt] X.env:=by rfl) (he2:starEach [.Name x pt] X.env= [(false,eval (.Name x pt) X.env)]:=by rfl):QE X F0 H0 (.Call (.Name "isinstance" p) [a,.Name x pt] [] pos) (pO T ta):=fun z E cx=>by
 have pT:PE (X.wsh z) (.Name x pt) (tC (.ty T)):=z0x (X:=X.wsh z) hgT hmT hv rfl hn hd;refine jt (Jt (X:=X.wsh z) (id:= "isinstance") (r:=fun vs H Q=>∃(F:Hp) (d:D) (x:V) (P:Bool ->Prop),vs= [x,.ty T]/\Same F H/\Rep X.K F d x/\ (match iR d T with | some b=>P b | none=>False)/\∀b,P b ->Q (.bl b) H) ?_ hg hm boot_isinstance (Js (ha z E cx) (Js pT Ng (by rw[he2];rfl)) he) (by decide) (by decide) he (by rw[he2];rfl)) fun σ H Q ⟨F,Γ,P,R,h,k⟩=> ?_
 ·rintro pins s σ H xs us Q I r ⟨F,d,y,P,e1,sF,rd,hb,k⟩;subst e1;obtain⟨u,w,rfl,ru,lV⟩:=vals2 r;obtain rfl:w=Value.type T:=lV;unfold iR at hb;cases hS:wG d with
  | none=>rw[hS] at hb;exact hb.elim
  | some S=>
   rw[hS] at hb;cases hk:W.kitOne [] (.type S) (.type T) with
   | none=>simp only [Option.bind_some,hk] at hb
   | some b=>
    simp only [Option.bind_some,hk] at hb;exact z4w I sF rd ru hS (zsh X.K [] S T ▸ hk) fun tk=>⟨.bl b,H,I.tok tk,rfl,k b hb⟩
 ·refine⟨F,Γ,_,R,h,fun d Γ1 F1 H1 v R1 s1 r1 h1=>⟨F1,d,v,fun b=>P (.bl b) Γ1,rfl,R1.g,r1,h1,fun b hp=>k _ _ _ _ _ R1 s1 (by unfold Rep;rfl) hp⟩⟩
end
def nj(C:Addr)(t:bh):au:=fun _ Γ E=>t Γ (fun ds Γ1=>ds.length<=sizeLine/\E Γ1 (.ref C)) E
section
variable{X:Cx}{F0 H0:Hp}{e:Expr}{es:List Expr}{pos np cpos:Pos}{t:bh}{x:Str}{C:Addr}
theorem Xr(hh:X.calm=true)(hg:Gl X x)(hm:X.mg x=some (.ref C))(hC:oE X.K C)(ha:QA X F0 H0 (e::es) t)
  (hd:(x==("__debug__" :Str))=false:=by decide) (he:starEach (e::es) X.env=(false,eval e X.env)::starEach es X.env:=by rfl) (hpl:(backTo cpos (starEach es X.env)).any (·.1)=false:=by rfl):
  QS X F0 H0 (.Raise (some (.Call (.Name x np) (e::es) [] cpos)) none pos) (nj C t):=by
 rintro z E cx pins s σ H D I ⟨F,Γ,D2,R,h,k⟩;refine zy3 (X:=X.wsh z) (E:=fun C' dx H1=>∃F1 Γ1,SR X.K F0 H0 F1 H1 σ Γ1/\E Γ1 (.ref C)) hg hm hC (ha z E cx) hh I ⟨F,Γ,_,R,h,fun ds Γ1 F1 H1 vs R1 s1 r1 h1=>⟨by rw[<- gj r1];exact h1.1,F1,Γ1,R1,h1.2⟩⟩ (fun H1 s1 e s' I1 hx=> ?_) hd he hpl
 obtain⟨a,C',H',B,h1,h2,h3,h4,h5,h6,h7,h8,rfl,h9,rfl,F1,Γ1,R1,hE⟩:=hx;exact cx.px pins σ Γ1 F1 _ s1 e s' I1 R1 ⟨a,_,_,B,h1,h2,h3,h4,h5,h6,h7,h8,hE,rfl,.refl _⟩
end
structure cJ (P:Program) (w:World) (K:W.Frag) (mg:Str ->Option Value) (base:Heap) (x:Str) (k:Nat) (ps:List Str) (sp:cG):Prop where
 ex:∃f fd,d7 P w K mg base (gP P w) k f fd ps (jV K sp)/\mg x=some (.ref f)/\W.keepIn K (.ref f)=true/\Binds K fd ps []
section
variable{X:Cx}{F0 H0:Hp}{e:Expr}{es:List Expr}{pos p:Pos}{x:Str}{ps:List Str}{k:Nat}{sp:cG}{t:bh}
theorem dJ(G:cJ X.prog X.w X.K X.mg X.base x k ps sp)(hr:eG k X.A)(hg:Gl X x)(ha:QA X F0 H0 (e::es) t)(hdb:(x==("__debug__" :Str))=false:=by decide)(he:starEach (e::es) X.env=(false,eval e X.env)::starEach es X.env:=by rfl)(hpl:(backTo pos (starEach es X.env)).any (·.1)=false:=by rfl):
  QE X F0 H0 (.Call (.Name x p) (e::es) [] pos) (aD sp t):=by
 obtain⟨f,fd,h1,h2,h3,h4⟩:=G.ex;exact z29 h1 hr hg h2 h3 h4 ha hdb he hpl
end
section
variable{X:Cx}{pins:bC}{σ:St}{H:Hp}{s:Shared}{a:Addr}{o:HO}
end
section
variable{X:Cx}{F0 H0:Hp}{pos np hp:Pos}{x n:Str}{Cd:Addr}{body suite:List Stmt}{b₀:Stmt}{tb th:au}{i:Nat}
end
def JR:cG:=fun ds P _=>∃ns:List Int,ds= [.lst (ns.map .int)]/\ns.length<=63/\P (.bl true)
theorem Xu{K:W.Frag}{F:Hp}:∀ns:List Int,ak K F (ns.map .int) (ns.map V.int)
 | []=>by unfold ak;rfl
 | n::ns=>pI (by unfold Rep;rfl) (Xu ns)
theorem zui{K:W.Frag}{H:Hp}{a:Addr}{ns:List Int}(hl:ns.length<=63)(hS:fM K H a (ns.map V.int)):jV K JR [.ref a] H (fun v _=>v= .bl true) fun _ _ _=>False:=
 ⟨H,[.lst (ns.map .int)],fun d=>d= .bl true,fun _=>False,.refl _,Jy (by unfold Rep;exact⟨a,_,rfl,hS,Xu ns⟩),⟨ns,rfl,hl,rfl⟩,fun d v F' H' gr r h=>by subst h;unfold Rep at r;exact r,fun _ _ h=>h.elim⟩
theorem zzl(h:gP P w [] H s (fun _ _ _=>False) e s'):False:=by
 obtain⟨_,_,_,_,_,_,_,_,_,_,_,_,h⟩:=h;exact h
structure Cls where
 Bg:Addr:=0
 bN:Addr:=0
 PL:Addr:=0
 PN:Addr:=0
 Xv:Addr:=0
 Missing:Addr:=0
 dM:Addr:=0
 Few:Addr:=0
 Apart:Addr:=0
 JT:Addr:=0
 PX:Addr:=0
 Open:Addr:=0
 Qa:Addr:=0
 Bh:Addr:=0
 Xw:Addr:=0
 Scale:Addr:=0
 aaK:Addr:=0
 JV:Addr:=0
 aaL:Addr:=0
structure vI (K:W.Frag) (C:Addr):Prop where
 ga:W.findIn K (.ref C) "__getattribute__" =some (some (.builtin "BaseException.__getattribute__"))
 gn:W.findIn K (.ref C) "__getattr__" =some none
 cl:W.findIn K (.ref C) "__class__" =some (some (.builtin "object.__class__"))
 ob:W.mroIn K C (.type "object")=some true
 be:W.mroIn K C (.type "BaseException")=some true
def Qc(K:W.Frag)(C:Addr)(ta:aH):aH:=fun Γ P E=>ta Γ (fun d Γ1=>match d with | .exc C0=>(sO K C0/\vI K C0)/\P (.bl (m8 K C0 C)) Γ1 | _=>False) E
section
open PySem.W PySem.Builtin PySem.Builtin.ObjectAttr PySem.Builtin.Getset_descriptor
variable{prog:Program}{w:World}{A:Around}{E:bJ}{K:W.Frag}{h:Heap}{g:Array GenState}{d:Drawn}{t:Nat}{os:OsState}{a C:Addr}{o:Obj}
def aaM(K:W.Frag)(C:Addr):Bool:=match K.lookup C with
 | some ⟨.type "type",_,.cls cd,_⟩=>(match cd.mro with | .ref C' ::_=>C' ==C | _=>false)
 | _=>false
end
section
variable{X:Cx}{F0 H0:Hp}{a:Expr}{pos p pt:Pos}{ta:aH}{x:Str}{C:Addr}
end
theorem Qd:∀(names:List (Str×NameKind)) (n:Nat) (acc:List (Str×Addr)),(∀p∈names,p.2= .cell ->p.1≠x) ->(cellsFrom n names acc).lookup x=acc.lookup x
 | [],_,_,_=>rfl
 | (y,k)::r,n,acc,h=>by
  unfold cellsFrom;have hr:∀p∈r,p.2= .cell ->p.1≠x:=fun p hp=>h p (zX _ hp);split
  ·rename_i hk;have hy:y≠x:=h (y,k) zY (by simpa using hk)
   rw[Qd r _ _ hr,List.lookup_cons];have:(x==y)=false:=by rw[beq_eq_false_iff_ne];exact Ne.symm hy
   rw[this]
  ·exact Qd r _ _ hr
theorem Qe:∀(names:List (Str×NameKind)) (h:Heap) (acc:List (Str×Addr)),(x,c)∈cellsFrom h.objs.size names acc ->(x,c)∈acc\/ (h.objs.size<=c/\ (pushCells h names).IsCell c none/\ (x,NameKind.cell)∈names)
 | [],_,_,m=> .inl m
 | (y,k)::r,h,acc,m=>by
  unfold cellsFrom at m;unfold pushCells;split at m
  ·rename_i hk;rw[if_pos hk];have sz:(h.push {cls:= .type "cell",data:= .cell none}).objs.size=h.objs.size+1:=Heap.size_push ..;rw[<- sz] at m;rcases Qe r _ _ m with z | ⟨z1,z2,z3⟩
   ·rcases zV.mp z with e | z
    ·cases e;have e2:k= .cell:=by simpa using hk
     subst e2;refine .inr ⟨zO _,?_,zY⟩;exact⟨_,pushCells_keeps r _ _ _ (z9 _ rfl),rfl⟩
    ·exact .inl z
   ·exact .inr ⟨by rw[sz] at z1;omega,z2,zX _ z3⟩
  ·rename_i hk;rw[if_neg hk];rcases Qe r h acc m with z | ⟨z1,z2,z3⟩
   ·exact .inl z
   ·exact .inr ⟨z1,z2,zX _ z3⟩
theorem Qf:∀(names:List (Str×NameKind)) (n:Nat) (acc:List (Str×Addr)),(acc.Pairwise fun x y=>x.2≠y.2) ->(∀p∈acc,p.2<n) ->(cellsFrom n names acc).Pairwise fun x y=>x.2≠y.2
 | [],_,_,h,_=>h
 | (y,k)::r,n,acc,h,hl=>by
  unfold cellsFrom;split
  ·refine Qf r _ _ (List.pairwise_cons.mpr ⟨fun p hp e=> ?_,h⟩) fun p hp=> ?_
   ·have e' :n=p.2:=e;exact yZ _ (Nat.lt_of_lt_of_eq (hl p hp) e')
   ·rcases zV.mp hp with rfl | hp
    ·exact Nat.lt_succ_self _
    ·exact Nat.lt_succ_of_lt (hl p hp)
  ·exact Qf r n acc h hl
def jd(env:Env):List (Str×NameKind) ->List (Str×Addr) ->List (Str×Addr)
 | [],cs=>cs
 | (n,k)::r,cs=>jd env r (if k== .free then(n,(env.cells.lookup n).getD 0)::cs else cs)
theorem z1y(h:∀p∈scope.names,p.2= .free ->∃c,env.cells.lookup p.1=some c):closureFor scope env=pure (jd env scope.names []):=by
 have key:∀(names:List (Str×NameKind)) (cs:List (Str×Addr)),(∀p∈names,p.2= .free ->∃c,env.cells.lookup p.1=some c) ->
   (forIn names cs fun(x:Str×NameKind) (r:List (Str×Addr))=>(if x.2== .free then do let a<- cellOf env x.1;pure (ForInStep.yield ((x.1,a)::r)) else pure (ForInStep.yield r):Sem _))=pure (jd env names cs):=by
  intro names;induction names with
  | nil=>intro cs _;rfl
  | cons p r ih=>
   intro cs hh;obtain⟨n,k⟩:=p;have hr:∀p∈r,p.2= .free ->∃c,env.cells.lookup p.1=some c:=fun p hp=>hh p (zX _ hp);rw[List.forIn_cons];unfold jd;by_cases hk:(k==NameKind.free)=true
   ·obtain⟨c,e⟩:=hh (n,k) zY (by simpa using hk)
    have e' :cellOf env n=pure c:=by unfold cellOf;rw[e]
    simp only [hk,if_true,e',pure_bind,e,Option.getD_some];exact ih _ hr
   ·have hk' :(k==NameKind.free)=false:=by simpa using hk
    simp only [hk',Bool.false_eq_true,if_false,pure_bind];exact ih _ hr
 unfold closureFor;have:=key scope.names [] h
 simpa using this
theorem Qg:∀(names:List (Str×NameKind)) (cs:List (Str×Addr)),(∀p∈names,p.2= .free ->∃c,env.cells.lookup p.1=some c) ->(x,c)∈jd env names cs ->(x,c)∈cs\/ ((x,NameKind.free)∈names/\env.cells.lookup x=some c)
 | [],_,_,m=> .inl m
 | (n,k)::r,cs,hh,m=>by
  unfold jd at m;have hr:∀p∈r,p.2= .free ->∃c,env.cells.lookup p.1=some c:=fun p hp=>hh p (zX _ hp);rcases Qg r _ hr m with z | ⟨z1,z2⟩
  ·split at z
   ·rename_i hk;rcases zV.mp z with e | z
    ·cases e;have e2:k= .free:=by simpa using hk
     subst e2;obtain⟨c,e⟩:=hh (_,.free) zY rfl;refine .inr ⟨zY,?_⟩;have e' :env.cells.lookup x=some c:=e;rw[e'];rfl
    ·exact .inl z
   ·exact .inl z
  ·exact .inr ⟨zX _ z1,z2⟩
theorem JW(e:env.cells.lookup x=some c):∀(names:List (Str×NameKind)) (cs:List (Str×Addr)),((x,NameKind.free)∈names\/cs.lookup x=some c) ->(∀c',cs.lookup x=some c' ->c' =c) ->(jd env names cs).lookup x=some c
 | [],cs,h,_=>by
  rcases h with h | h
  ·cases h
  ·exact h
 | (n,k)::r,cs,h,hu=>by
  unfold jd;by_cases hk:(k==NameKind.free)=true
  ·rw[if_pos hk];by_cases hn:x=n
   ·subst hn;refine JW e r _ (.inr ?_) fun c' q=> ?_
    ·rw[List.lookup_cons];simp [e]
    ·rw[List.lookup_cons] at q;simp [e] at q;exact q.symm
   ·have hb:(x==n)=false:=by rw[beq_eq_false_iff_ne];exact hn
    refine JW e r _ ?_ fun c' q=> ?_
    ·rcases h with h | h
     ·rcases zV.mp h with z | z
      ·cases z;exact absurd rfl hn
      ·exact .inl z
     ·refine .inr ?_;rw[List.lookup_cons,hb];exact h
    ·rw[List.lookup_cons,hb] at q;exact hu c' q
  ·rw[if_neg hk];refine JW e r cs ?_ hu;rcases h with h | h
   ·rcases zV.mp h with z | z
    ·cases z;exact absurd rfl hk
    ·exact .inl z
   ·exact .inr h
theorem Qh(inj:∀x y c,env.cells.lookup x=some c ->env.cells.lookup y=some c ->x=y):∀(names:List (Str×NameKind)) (cs:List (Str×Addr)),(names.map (·.1)).Nodup ->(∀p∈names,p.2= .free ->∃c,env.cells.lookup p.1=some c) ->
  (cs.Pairwise fun x y=>x.2≠y.2) ->(∀p∈cs,env.cells.lookup p.1=some p.2/\p.1∉names.map (·.1)) ->(jd env names cs).Pairwise fun x y=>x.2≠y.2
 | [],_,_,_,h,_=>h
 | (n,k)::r,cs,nd,hh,h,hc=>by
  unfold jd;rw[List.map_cons,List.nodup_cons] at nd;have hr:∀p∈r,p.2= .free ->∃c,env.cells.lookup p.1=some c:=fun p hp=>hh p (zX _ hp);have hc' :∀p∈cs,env.cells.lookup p.1=some p.2/\p.1∉r.map (·.1):=fun p hp=>⟨(hc p hp).1,fun z=>(hc p hp).2 (by rw[List.map_cons];exact zX _ z)⟩
  by_cases hk:(k==NameKind.free)=true
  ·rw[if_pos hk];obtain⟨c,e⟩:=hh (n,k) zY (by simpa using hk)
   have e' :env.cells.lookup n=some c:=e;rw[e'];refine Qh inj r _ nd.2 hr (List.pairwise_cons.mpr ⟨fun p hp z=> ?_,h⟩) fun p hp=> ?_
   ·have z' :c=p.2:=z;have q:=(hc p hp).1;rw[<- z'] at q;have:=inj _ _ _ e' q;exact(hc p hp).2 (by rw[List.map_cons,<- this];exact zY)
   ·rcases zV.mp hp with rfl | hp
    ·exact⟨e',nd.1⟩
    ·exact hc' p hp
  ·rw[if_neg hk];exact Qh inj r cs nd.2 hr h hc'
theorem Qi{scope:Scope}{env:Env}{x:Str}:∀(names:List (Str×NameKind)) {k:NameKind},names.lookup x=some k ->(names.map fun(n,k)=>if (k==NameKind.free&&env.scope.kind== .function&&env.kindOf n==some .cell) then(n,NameKind.cell) else(n,k)).lookup x=some k\/
   (k= .free/\ (names.map fun(n,k)=>if (k==NameKind.free&&env.scope.kind== .function&&env.kindOf n==some .cell) then(n,NameKind.cell) else(n,k)).lookup x=some .cell)
 | [],_,h=>by simp at h
 | (n,k0)::r,k,h=>by
  have ih:= @Qi scope env x r k;show List.lookup x ((if (k0==NameKind.free&&env.scope.kind== .function&&env.kindOf n==some .cell)=true then(n,NameKind.cell) else(n,k0))::_)=_\/ (_/\List.lookup x ((if (k0==NameKind.free&&env.scope.kind== .function&&env.kindOf n==some .cell)=true then(n,NameKind.cell) else(n,k0))::_)=_);cases hx:x==n with
  | true=>
   simp only [List.lookup_cons,hx] at h;cases h;by_cases hc:(k0==NameKind.free&&env.scope.kind== .function&&env.kindOf n==some .cell)=true
   ·rw[if_pos hc];simp only [Bool.and_eq_true] at hc;exact .inr ⟨by simpa using hc.1.1,by simp only [List.lookup_cons,hx]⟩
   ·rw[if_neg hc];exact .inl (by simp only [List.lookup_cons,hx])
  | false=>
   simp only [List.lookup_cons,hx] at h;by_cases hc:(k0==NameKind.free&&env.scope.kind== .function&&env.kindOf n==some .cell)=true
   ·rw[if_pos hc];simp only [List.lookup_cons,hx];exact ih h
   ·rw[if_neg hc];simp only [List.lookup_cons,hx];exact ih h
def fC(scope:Scope)(C:Addr)(env:Env):Env:=
 {scope:=relabel scope env,locals:=C,globals:=env.globals,cells:=cellsFrom (C+1) scope.names (jd env scope.names []),qual:=env.qual,func:=none,code:=env.code,frame:=env.frame,builtins:=env.builtins}
def blk(X:Cx)(scope:Scope)(N:List Str)(C:Addr)(s₀:Shared)(H₀:Hp)(fp:List Addr):Cx:=
 {X with env:=fC scope C X.env,N:=N,s₀:=s₀,H₀:=H₀,outer:=X.stack,stack:=X.stack,ex:=fp,fn:=fun x=>scope.names.lookup x==some .cell,pn:= [],xe:=fun _ _=>False}
def nZ(own:Nat)(caps:List Nat)(σ:St):St:=List.replicate own none++caps.map fun j=>(σ[j]?).join
structure eU (N:List Str) (sc:Scope) (own:List Str) (caps:List Nat) (env:Env) (N' :List Str):Prop where
 kind:sc.kind= .function
 nd:N'.Nodup
 snd:(sc.names.map (·.1)).Nodup
 free:∀p∈sc.names,p.2= .free ->env.kindOf p.1=some .cell\/env.kindOf p.1=some .free
 names:N' =own++caps.map fun j=>N.getD j ""
 caps:∀j∈caps,j<N.length/\sc.names.lookup (N.getD j "")=some .free
theorem zwr
  (hQ:Q (newEnv scope s.heap.objs.size g (cellsFrom (s.heap.objs.size+1) scope.names cl) q none .none (some env) builtinsNs) {s with heap:=pushCells (s.heap.push {cls:= .type "dict",data:= .dict #[]}) scope.names}):
  wpAny M A (newFunctionEnv scope g cl [] q none .none (some env)) Q E s:=by
 simp only [newFunctionEnv,Option.isSome_some,if_true];refine z6 (wpAny_alloc ?_);refine z6 (wpAny_layCells _ (fun name kind cells=>by cases hkc:kind==NameKind.cell<;>simp [hkc]) _ _ _ _ ?_)
 rw[show({s with heap:=s.heap.push {cls:= .type "dict",data:= .dict #[]}}:Shared).heap.objs.size=s.heap.objs.size+1 from Heap.size_push ..];simp only [List.forIn_nil];exact z6 (z7 (z7 hQ))
section
variable{X:Cx}{pins:bC}{σ:St}{H:Hp}{s:Shared}{sc:Scope}{own:List Str}{caps:List Nat}{N' :List Str}{fp:List Addr}
theorem JX(I:Inv X pins σ H s)(S:eU X.N sc own caps X.env N'):∀p∈sc.names,p.2= .free ->∃c,X.env.cells.lookup p.1=some c:=fun p hp hk=>I.ok.has _ (S.free p hp hk)
theorem JZ(I:Inv X pins σ H s)(S:eU X.N sc own caps X.env N')(e:(fC sc s.heap.objs.size X.env).cells.lookup x=some c):
  (X.env.cells.lookup x=some c/\c<s.heap.objs.size/\sc.names.lookup x≠some .cell)\/ (s.heap.objs.size+1<=c/\ (pushCells (s.heap.push {cls:= .type "dict",data:= .dict #[]}) sc.names).IsCell c none):=by
 have m:=mem_of_lookup e;have sz:(s.heap.push {cls:= .type "dict",data:= .dict #[]}).objs.size=s.heap.objs.size+1:=Heap.size_push ..;have m' :(x,c)∈cellsFrom (s.heap.push {cls:= .type "dict",data:= .dict #[]}).objs.size sc.names (jd X.env sc.names []):=by rw[sz];exact m
 rcases Qe sc.names _ _ m' with z | ⟨z1,z2,z3⟩
 ·rcases Qg sc.names [] (JX I S) z with z | ⟨z1,z2⟩
  ·cases z
  ·obtain⟨v,hc⟩:=I.cell x c z2;refine .inl ⟨z2,hc.lt,fun q=> ?_⟩;have q' :=mem_of_lookup q;have:=S.snd;rw[List.Nodup,List.pairwise_map] at this;have d:∀(l:List (Str×NameKind)),(l.Pairwise fun a b=>a.1≠b.1) ->(x,NameKind.free)∈l ->(x,NameKind.cell)∈l ->False:=by
    intro l;induction l with
    | nil=>intro _ h;cases h
    | cons a r ih=>
     intro hp h1 h2;obtain⟨p1,p2⟩:=List.pairwise_cons.mp hp;rcases zV.mp h1 with e1 | h1<;>rcases zV.mp h2 with e2 | h2
     ·rw[<- e1] at e2;cases e2
     ·exact p1 _ h2 (by rw[<- e1])
     ·exact p1 _ h1 (by rw[<- e2])
     ·exact ih p2 h1 h2
   exact d _ this z1 q'
 ·exact .inr ⟨by rw[sz] at z1;exact z1,z2⟩
theorem Qj(I:Inv X pins σ H s)(S:eU X.N sc own caps X.env N')(hk:sc.names.lookup x=some .free)(e:X.env.cells.lookup x=some c):(fC sc s.heap.objs.size X.env).cells.lookup x=some c:=by
 show(cellsFrom _ sc.names (jd X.env sc.names [])).lookup x=some c;rw[Qd]
 ·exact JW e _ _ (.inl (mem_of_lookup hk)) fun c' q=>by cases q
 ·intro p hp hc z;have q:=mem_of_lookup hk;have:=S.snd;rw[List.Nodup,List.pairwise_map] at this;have d:∀(l:List (Str×NameKind)),(l.Pairwise fun a b=>a.1≠b.1) ->(x,NameKind.free)∈l ->p∈l ->False:=by
   intro l;induction l with
   | nil=>intro _ h;cases h
   | cons a r ih=>
    intro Qk h1 h2;obtain⟨p1,p2⟩:=List.pairwise_cons.mp Qk;rcases zV.mp h1 with e1 | h1<;>rcases zV.mp h2 with e2 | h2
    ·rw[<- e1] at e2;subst e2;cases hc
    ·exact p1 _ h2 (by rw[<- e1];exact z.symm)
    ·exact p1 _ h1 (by rw[<- e2];exact z)
    ·exact ih p2 h1 h2
  exact d _ this q hp
theorem Xx(I:Inv X pins σ H s)(S:eU X.N sc own caps X.env N')(Fl:∀x c v,X.env.cells.lookup x=some c ->s.heap.IsCell c v ->h'.IsCell c v)(i:Nat)(x:Str)(v:V)(h1:N'[i]?=some x)(h2:(nZ own.length caps σ)[i]?=some (some v)):
  ∃u,RelV v u/\Look (fC sc s.heap.objs.size X.env) h' m' x u:=by
 have h2' :(nZ own.length caps σ)[i]?=some (some v):=h2;have h1' :N'[i]?=some x:=h1;unfold nZ at h2';rw[S.names] at h1';by_cases hi:i<own.length
 ·rw[List.getElem?_append_left (by simpa using hi),List.getElem?_replicate] at h2'
  split at h2' <;>cases h2'
 ·rw[List.getElem?_append_right (by simpa using hi),List.getElem?_map,List.length_replicate] at h2'
  rw[List.getElem?_append_right (by omega),List.getElem?_map] at h1'
  cases hj:caps[i - own.length]? with
  | none=>rw[hj] at h1';cases h1'
  | some j=>
   rw[hj] at h1' h2';obtain⟨j1,j2⟩:=S.caps j (zB hj);have hx:X.N.getD j "" =x:=by simpa using h1'
   have hσ:σ[j]?=some (some v):=by
    have:(σ[j]?).join=some v:=by simpa using h2'
    cases q:σ[j]? with
    | none=>rw[q] at this;cases this
    | some o=>rw[q] at this;have:o=some v:=this;rw[this]
   rw[hx] at j2;have hN:X.N[j]?=some x:=by
    rw[List.getD_eq_getElem?_getD,List.getElem?_eq_getElem j1] at hx;rw[List.getElem?_eq_getElem j1]
    simpa using hx
   obtain⟨m,hn,hloc⟩:=I.loc;have kx:=S.free (x,.free) (mem_of_lookup j2) rfl;have vis:pF X.env.scope x:=by
    rcases kx with k | k
    ·exact .inr (.inl k)
    ·exact .inr (.inr k)
   obtain⟨u,ru,l⟩:=hloc j x v hN hσ vis;refine⟨u,ru,.inr ⟨?_,?_⟩⟩
   ·rcases Qi (scope:=sc) (env:=X.env) sc.names j2 with h | ⟨_,h⟩
    ·exact .inr h
    ·exact .inl h
   ·rcases l with ⟨k,_⟩ | ⟨_,c,ec,hc⟩
    ·have k' :X.env.kindOf x=some .local:=k;have Xy :X.env.kindOf x=some .cell\/X.env.kindOf x=some .free:=kx;rw[k'] at Xy;rcases Xy with z | z<;>cases z
    ·exact⟨c,Qj I S j2 ec,Fl x c _ ec hc⟩
theorem zwe(I:Inv X pins σ H s)(S:eU X.N sc own caps X.env N')(hf:∀b∈fp,gb X pins H b)(hl:∀b∈fp,b<s.heap.objs.size):
  Inv (blk X sc N' s.heap.objs.size s H fp) [] (nZ own.length caps σ) H {s with heap:=pushCells (s.heap.push {cls:= .type "dict",data:= .dict #[]}) sc.names}:=by
 have keep:∀b o,s.heap.get? b=some o ->(pushCells (s.heap.push {cls:= .type "dict",data:= .dict #[]}) sc.names).get? b=some o:=fun b o e=>pushCells_keeps _ _ b o (z8 _ e);have ok:=I.ok;have inj:∀x y c,(fC sc s.heap.objs.size X.env).cells.lookup x=some c ->(fC sc s.heap.objs.size X.env).cells.lookup y=some c ->x=y:=fun x y c e1 e2=>by
  refine name_of_addr (cs:=(fC sc s.heap.objs.size X.env).cells) ?_ (mem_of_lookup e1) (mem_of_lookup e2);refine Qf _ _ _ (Qh ok.inj _ _ S.snd (JX I S) List.Pairwise.nil (fun p hp=>by cases hp)) fun p hp=> ?_
  rcases Qg (x:=p.1) (c:=p.2) sc.names [] (JX I S) hp with z | ⟨_,z⟩
  ·cases z
  ·obtain⟨v,hc⟩:=I.cell _ _ z;exact Nat.lt_succ_of_lt hc.lt
 have frC:∀b,s.heap.objs.size<=b ->H b=none:=fun b hb=>I.hok.fresh hb;have Ql:(fC sc s.heap.objs.size X.env).scope.kind= .function:=S.kind;refine⟨⟨ok.mod,Ql,ok.glob,ok.blt,zO _,inj,fun x hx=> ?_,fun x c hfn e=> ?_,ok.hd,ok.frames,.inl rfl,fun b hb=>⟨zL (hl b hb),fun x c e z=> ?_⟩,I.bs,zP ok.Ar I.sz,fun b o e hb=> ?_,fun b hb z=> ?_,I.stack,I.stkFree⟩,
  rfl,I.bare,Un.kept keep,⟨_,(Heap.Ns.new s.heap (.type "dict")).keeps (pushCells_keeps _ _),fun i x v h1 h2 h3=> ?_⟩,fun x c e=> ?_,frC _ (zO _),fun x c e=> ?_,fun p hp=>absurd (show p∈ ([]:bC) from hp) (by simp),I.hok.kept keep,?_⟩
 ·
  have hx' :(relabel sc X.env).names.lookup x=some .cell\/ (relabel sc X.env).names.lookup x=some .free:=hx;have:∃k,sc.names.lookup x=some k:=by
   have key:∀(l:List (Str×NameKind)) (k' :NameKind),(l.map fun(n,k)=>if (k==NameKind.free&&X.env.scope.kind== .function&&X.env.kindOf n==some .cell) then(n,NameKind.cell) else(n,k)).lookup x=some k' ->∃k,l.lookup x=some k:=by
    intro l;induction l with
    | nil=>intro k' h;simp at h
    | cons a r ih=>
     intro k' h;obtain⟨n,k0⟩:=a;cases hb:x==n with
     | true=>exact⟨k0,by simp [List.lookup_cons,hb]⟩
     | false=>
      have h2:List.lookup x ((if (k0==NameKind.free&&X.env.scope.kind== .function&&X.env.kindOf n==some .cell)=true then(n,NameKind.cell) else(n,k0))::(r.map _))=some k' :=h;obtain⟨k,hk⟩:=ih k' (by
       split at h2<;>(simp only [List.lookup_cons,hb] at h2;exact h2))
      exact⟨k,by simp only [List.lookup_cons,hb];exact hk⟩
   rcases hx' with h | h
   ·exact key _ _ h
   ·exact key _ _ h
  obtain⟨k,hk⟩:=this;rcases Qi (scope:=sc) (env:=X.env) sc.names hk with h | ⟨h1,h2⟩
  ·have hkk:k= .cell\/k= .free:=by
    have h' :(relabel sc X.env).names.lookup x=some k:=h;rcases hx' with z | z<;>rw[z] at h' <;>cases h' <;>simp
   rcases hkk with rfl | rfl
   ·exact Option.isSome_iff_exists.mp (W.cellsFrom_some sc.names _ _ (.inl hk))
   ·obtain⟨c,e⟩:=ok.has x (S.free (x,.free) (mem_of_lookup hk) rfl);exact⟨c,Qj I S hk e⟩
  ·subst h1;obtain⟨c,e⟩:=ok.has x (S.free (x,.free) (mem_of_lookup hk) rfl);exact⟨c,Qj I S hk e⟩
 ·
  have Qm :sc.names.lookup x=some .cell:=by
   have:(sc.names.lookup x==some NameKind.cell)=true:=hfn
   simpa using this
  rcases JZ I S e with ⟨_,_,z⟩ | ⟨z,_⟩
  ·exact absurd Qm z
  ·show s.heap.objs.size<=c;exact Nat.le_of_succ_le z
 ·rcases JZ I S e with ⟨z1,_,_⟩ | ⟨z1,_⟩
  ·exact(hf b hb).2.2.2.2.1 x c z1 z
  ·have:=hl b hb;rw[<- z] at this;exact yZ _ (zN this (Nat.le_of_succ_le z1))
 ·have q:=(hf b hb).2.2.2.1;rcases q with q | q
  ·exact ok.xR b o e q
  ·have q2:b<X.base.objs.size:=zJ e;exact yZ _ (zN q2 (zP ok.Ar q))
 ·rcases zV.mp (I.stkSub b z) with z | z
  ·exact(hf b hb).2.1 z
  ·exact(hf b hb).2.2.1 z
 ·exact Xx I S (fun x c v _ hc=>hc.keeps keep) i x v h1 h2
 ·rcases JZ I S e with ⟨z1,_,_⟩ | ⟨_,z⟩
  ·obtain⟨v,hc⟩:=I.cell x c z1;exact⟨v,hc.keeps keep⟩
  ·exact⟨_,z⟩
 ·rcases JZ I S e with ⟨z1,_,_⟩ | ⟨z,_⟩
  ·exact I.freeC x c z1
  ·exact frC c (Nat.le_of_succ_le z)
 ·show(nZ own.length caps σ).length=N'.length;rw[S.names];unfold nZ;simp
theorem zuu(I:Inv X pins σ H s)(S:eU X.N sc own caps X.env N')(hf:∀b∈fp,gb X pins H b)(B:Inv (blk X sc N' s.heap.objs.size s H fp) qe σ5 H5 s5):
  Inv (blk X sc N' s.heap.objs.size s H fp) qe (nZ own.length caps σ) H5 s5:=by
 obtain⟨m,hn,_⟩:=B.loc;have kc:∀x c v,X.env.cells.lookup x=some c ->s.heap.IsCell c v ->s5.heap.IsCell c v:=fun x c v e ⟨o,ho,hd⟩=>by
  have nx:c∉fp:=fun z=>(hf c z).2.2.2.2.1 x c e rfl;by_cases hc:c∈frs X.stack
  ·obtain⟨sl,q⟩:=B.base.slot c o ho (I.freeC x c e) hc nx;exact⟨_,q,hd⟩
  ·exact⟨o,B.base.keep c o ho (I.freeC x c e) hc nx,hd⟩
 exact⟨B.ok,B.os,B.bare,B.base,⟨m,hn,fun i x v h1 h2 h3=>Xx I S kc i x v h1 h2⟩,B.cell,B.free,B.freeC,B.pin,B.hok,by show(nZ own.length caps σ).length=N'.length;rw[S.names];unfold nZ;simp⟩
end
abbrev Xz(ifs:List Expr)(env:Env):Sem Bool:=forIn ifs true fun c r=>if r=true then do let ok<- isTrue c env (eval c env);pure (ForInStep.yield ok) else pure (ForInStep.yield r)
section
variable{prog:Program}{w:World}{A:Around}{R:Result ->Shared ->Prop}{s:Shared}
theorem ztb(I:Nat ->Shared ->Prop)
  (turn:∀n s,I n s ->wpAny (model prog w) A (pyNext it) (fun r s₁=>match r with
   | none=>R (.ok .next) s₁
   | some v=>wpAny (model prog w) A (letOwnedTupleGo target it v) (fun _ s₁' =>wpAny (model prog w) A (assign target env v) (fun _ s₂=>
     wpAny (model prog w) A (Xz ifs env) (fun ok s₃=>
      if ok=true then wpAny (model prog w) A (eval elt env) (fun x s₄=>
       wpAny (model prog w) A (call (.builtin "list.append") [acc,x]) (fun _ s₅=>∃m,m<n/\I m s₅) (fun _ _=>False) s₄) (fun _ _=>False) s₃
      else∃m,m<n/\I m s₃) (fun _ _=>False) s₂) (fun _ _=>False) s₁') (fun _ _=>False) s₁) (fun _ _=>False) s)
  (n:Nat) (h:I n s):
  codeAny (model prog w) A (.compLoop (.ListComp elt [⟨target,iter,ifs,0⟩] scope pos) 0 it acc env) R s:=by
 refine codeAny_loop rfl I (fun n s hI=> ?_) n h;show wpAny _ A ((compTurn (.ListComp elt [⟨target,iter,ifs,0⟩] scope pos) 0 it acc env).onRaise (fun x=>do noteFrame x env;theTreesLotGoes x)) _ _ s;refine wpAny_noted ?_;rw[compTurn_list];refine z6 (wpAny_standAt (z6 (wpAny_mono (turn n s hI) (fun r s₁ h₁=> ?_) fun _ _ h' =>h'.elim)));cases r with
 | none=>exact z7 h₁
 | some v=>
  refine z6 (wpAny_mono h₁ (fun _ s₁' h₁' => ?_) fun _ _ h' =>h'.elim);refine z6 (wpAny_mono h₁' (fun _ s₂ h₂=>z6 (wpAny_mono h₂ (fun ok s₃ h₃=> ?_) fun _ _ h' =>h'.elim)) fun _ _ h' =>h'.elim);cases ok with
  | false=>exact z7 ⟨rfl,h₃⟩
  | true=>
   exact z6 (z6 (wpAny_mono h₃ (fun x s₄ h₄=>z6 (wpAny_mono h₄ (fun _ s₅ h₅=>z7 (z7 ⟨rfl,h₅⟩)) fun _ _ h' =>h'.elim)) fun _ _ h' =>h'.elim))
end
def J0(X:Cx)(ifs:List Expr)(t:TT):Prop:=
 ∀(pins:bC) (s:Shared) (σ:St) (H:Hp) (Q:Bool ->Hp ->Prop),Inv X pins σ H s ->t σ H Q ->wpAny (model X.prog X.w) X.A (Xz ifs X.env) (TP X pins σ Q) X.xe s
theorem z1m:J0 X [] (fun _ H Q=>Q true H):=fun pins s σ H Q I h=>wpAny_tests_nil ⟨H,I,h⟩
theorem z03(h:PT X c t):J0 X [c] t:=fun pins s σ H Q I q=>wpAny_tests_one (h pins s σ H Q I q)
structure Fo (P:Program) (w:World) (K:W.Frag) (tg:Expr) (J:It) (fp:List Addr) (it:Addr) (tn:Nat ->Heap ->Prop) (cm:Cx ->Prop):Prop where
 mem:it∈fp
 obj:∀i h,tn i h ->∀b∈fp,∃o,h.get? b=some o/\∀v,o.data≠ .cell v
 keep:∀i h h',tn i h ->(∀b∈fp,∀o,h.get? b=some o ->h'.get? b=some o) ->tn i h'
 item:∀(X:Cx),X.prog=P ->X.w=w ->X.K=K ->cm X ->∀(i:Nat) (pins:bC) (s:Shared) (σ:St) (H:Hp) (E:bJ),Inv X pins σ H s ->(∀b∈fp,gb X pins H b) ->tn i s.heap ->J.go i H ->
  wpAny (model P w) X.A (pyNext (.ref it)) (fun r s1=>∃u,r=some u/\
   wpAny (model P w) X.A (letOwnedTupleGo tg (.ref it) u) (fun _ s2=>∃x H',Inv X pins σ H' s2/\RelV x u/\J.yld i H x H' /\tn (i+1) s2.heap/\∀b∈fp,H' b=none) E s1) E s
 done:∀(X:Cx),X.prog=P ->X.w=w ->X.K=K ->cm X ->∀(i:Nat) (pins:bC) (s:Shared) (σ:St) (H:Hp) (E:bJ),Inv X pins σ H s ->(∀b∈fp,gb X pins H b) ->tn i s.heap ->J.stop i H ->
  wpAny (model P w) X.A (pyNext (.ref it)) (fun r s1=>r=none/\Inv X pins σ H s1) E s
 self:∀(A:Around) (i:Nat) (s:Shared) (Q:bJ) (E:bJ),tn i s.heap ->Q (.ref it) s ->wpAny (model P w) A (pyIter (.ref it)) Q E s
def Qn(X:Cx)(pins:bC)(σ:St)(tg:Expr)(R:It ->Hp ->Prop)(itv:Value)(s2:Shared):Prop:=
 ∃(it:Addr) (fp:List Addr) (tn:Nat ->Heap ->Prop) (J:It) (H' :Hp) (cm:Cx ->Prop),itv= .ref it/\Inv X pins σ H' s2/\Fo X.prog X.w X.K tg J fp it tn cm/\tn 0 s2.heap/\ (∀b∈fp,gb X pins H' b)/\R J H' /\
  ∀Y:Cx,Y.A=X.A ->Y.calm=X.calm ->(∀b o u,H' b=some (.frz o u) ->Y.H₀ b=some (.frz o u)) ->cm Y
def Qo(X:Cx)(tg iter:Expr)(wi:TI):Prop:=
 ∀(pins:bC) (s:Shared) (σ:St) (H:Hp) (R:It ->Hp ->Prop),Inv X pins σ H s ->wi σ H R ->
  wpAny (model X.prog X.w) X.A (eval iter X.env) (fun v s1=>wpAny (model X.prog X.w) X.A (pyIter v) (Qn X pins σ tg R) X.xe s1) X.xe s
theorem XC(hc:X.calm=true)(hi:PI X tg iter wi):Qo X tg iter wi:=fun pins s σ H R I h=>
 bK (hi pins s σ H R I h) fun v s1 h1=>bK h1 fun itv s2 hq1=>by obtain⟨it,fp,tn,J,H',e,I',T,st,f,r⟩:=hq1;exact⟨it,fp,tn,J,H',fun Y=>Y.calm=true,e,I',⟨T.mem,T.obj,T.keep,T.item,T.done,T.self⟩,st,f,r,fun Y _ q _=>q.trans hc⟩
def wH(acc:Addr)(J:It)(σ' :St)(g:TG)(tc:TT)(te:TE)(Q:V ->Hp ->Prop)(H1:Hp):Prop:=
 ∃W:Nat ->Nat ->List V ->Hp ->Prop,(∃m,W 0 m [] H1)/\∀i m vs H,W i m vs H ->H acc=some (.lst vs)/\vs.length<sizeLine+1/\
  ((J.stop i H/\Q (.ref acc) H)\/ (J.go i H/\vs.length<sizeLine/\∀x H',J.yld i H x H' ->g x σ' H' fun σ2 H2=>tc σ2 H2 fun b H3=>
   if b=true then te σ2 H3 fun v H4=>H4 acc=some (.lst vs)/\∃m',m' <m/\W (i+1) m' (vs++ [v]) (upd H4 acc (.lst (vs++ [v])))
   else∃m',m' <m/\W (i+1) m' vs H3))
def Fp(own:Nat)(caps:List Nat)(wi:TI)(g:TG)(tc:TT)(te:TE):TE:=fun σ H Q=>wi σ H fun J H1=>∀acc,H1 acc=none ->wH acc J (nZ own caps σ) g tc te Q (upd H1 acc (.lst []))
section
variable{X:Cx}{sc:Scope}{own:List Str}{caps:List Nat}{N' :List Str}{elt tg iter:Expr}{ifs:List Expr}{pos:Pos}{wi:TI}{g:TG}{tc:TT}{te:TE}
theorem XD(S:eU X.N sc own caps X.env N')(hi:Qo X tg iter wi)
  (hg:∀C s₀ H₀ fp,PG (blk X sc N' C s₀ H₀ fp) tg g) (ht:∀C s₀ H₀ fp,J0 (blk X sc N' C s₀ H₀ fp) ifs tc) (he:∀C s₀ H₀ fp,PE (blk X sc N' C s₀ H₀ fp) elt te)
  (ee:e= .ListComp elt [⟨tg,iter,ifs,0⟩] sc pos) (hs:∀x,foldedSetIterable iter X.env x=pure x)
  (I:Inv X pins σ H s) (h:Fp own.length caps wi g tc te σ H Q)
  (fin:∀acc C H' s5,Inv X pins σ H' s5 ->Q (.ref acc) H' ->(∃m,s5.heap.Ns C m) ->H' C=none ->C≠X.env.locals ->X.s₀.heap.objs.size<=C ->(∀x c,X.env.cells.lookup x=some c ->c≠C) ->(∀p∈X.pn++pins,p.1≠C) ->C∉X.fs ->
   compPost (model X.prog X.w) X.A X.xe use Qv (.ref acc) C (.ok .next) s5):
  wpAny (model X.prog X.w) X.A (comprehension e sc X.env ps (newList []) false (eval iter X.env) use) Qv X.xe s:=by
 subst ee;refine wpAny_comprehension_free (g:=⟨tg,iter,ifs,0⟩) (gs:= []) (cl:=jd X.env sc.names []) rfl hs (z1y (JX I S)) S.kind ?_ (bK (hi pins s σ H _ I h) fun v s1 h1=>bK h1 fun itv s2 h2=> ?_)
 ·intro p hp hk;have nd:=S.snd;rw[List.Nodup,List.pairwise_map] at nd;have d:∀(l:List (Str×NameKind)),(l.Pairwise fun a b=>a.1≠b.1) ->p∈l ->l.lookup p.1=some .local:=by
   intro l;induction l with
   | nil=>intro _ h;cases h
   | cons a r ih=>
    intro Qk h1;obtain⟨p1,p2⟩:=List.pairwise_cons.mp Qk;rcases zV.mp h1 with e1 | h1
    ·subst e1;rw[List.lookup_cons];simp [hk]
    ·have hb:(p.1==a.1)=false:=by rw[beq_eq_false_iff_ne];exact Ne.symm (p1 p h1)
     rw[List.lookup_cons,hb];exact ih p2 h1
  exact d _ nd hp
 obtain⟨it,fp,tn,J,H2,cm,rfl,I2,T,st2,f2,R2,hcm⟩:=h2;have hp0:=I2.fresh;refine wpAny_newObj_type ?_;have I3:=I2.lnew (its:= []) (ys:= []) (t' :=s2.toks) .nil (Nat.zero_le _);generalize hacc:s2.heap.objs.size=acc at*;obtain⟨W,⟨m0,w0⟩,turn⟩:=R2 acc hp0;have f3:∀b∈fp,gb X pins (upd H2 acc (.lst [])) b:=fun b hb=>by
  refine⟨?_,(f2 b hb).2⟩;obtain⟨o,eo,_⟩:=T.obj _ _ st2 b hb;rw[c7 (Nat.ne_of_lt (by rw[<- hacc];exact Heap.lt_size eo))]
  exact(f2 b hb).1
 have hc:∀C s₀,cm (blk X sc N' C s₀ (upd H2 acc (.lst [])) fp):=fun C s₀=>hcm _ rfl rfl fun b o u e=>by rw[show(blk X sc N' C s₀ (upd H2 acc (.lst [])) fp).H₀=upd H2 acc (.lst []) from rfl,c7 (lU e hp0)];exact e
 have hlt:∀b∈fp,b< (s2.heap.push {cls:= .type "list",data:= .seq ([]:List Value).toArray}).objs.size:=fun b hb=>by
  obtain⟨o,eo,_⟩:=T.obj _ _ st2 b hb;rw[Heap.size_push];exact Nat.lt_succ_of_lt (zJ eo)
 have st3:tn 0 (s2.heap.push {cls:= .type "list",data:= .seq ([]:List Value).toArray}):=T.keep _ _ _ st2 fun b hb o e=>z8 _ e;refine zwr ?_;show codeAny _ _ (.compStart (.ListComp elt [⟨tg,iter,ifs,0⟩] sc pos) 0 (.ref it) (.ref acc) (fC sc (s2.heap.push {cls:= .type "list",data:= .seq ([]:List Value).toArray}).objs.size X.env)) (compPost _ _ _ use Qv (.ref acc) (s2.heap.push {cls:= .type "list",data:= .seq ([]:List Value).toArray}).objs.size) _;generalize hs3:({s2 with heap:=s2.heap.push {cls:= .type "list",data:= .seq ([]:List Value).toArray},toks:=s2.toks}:Shared)=s3 at*;have hh3:s2.heap.push {cls:= .type "list",data:= .seq ([]:List Value).toArray}=s3.heap:=by rw[<- hs3]
 have aaN :({s2 with heap:=s2.heap.push {cls:= .type "list",data:= .seq ([]:List Value).toArray}}:Shared)=s3:=by rw[<- hs3]
 rw[hh3] at hlt st3⊢;have I4:=zwe I3 S f3 hlt;have XF:tn 0 (pushCells (s3.heap.push {cls:= .type "dict",data:= .dict #[]}) sc.names):=T.keep _ _ _ st3 fun b hb o e=>pushCells_keeps _ _ b o (z8 _ e);have key:codeAny (model X.prog X.w) X.A (.compLoop (.ListComp elt [⟨tg,iter,ifs,0⟩] sc pos) 0 (.ref it) (.ref acc) (fC sc s3.heap.objs.size X.env)) (compPost (model X.prog X.w) X.A X.xe use Qv (.ref acc) s3.heap.objs.size)
   {s3 with heap:=pushCells (s3.heap.push {cls:= .type "dict",data:= .dict #[]}) sc.names}:=by
  have stat:∀{H' :Hp},(∀b∈fp,H' b=none) ->∀b∈fp,gb (blk X sc N' s3.heap.objs.size s3 (upd H2 acc (.lst [])) fp) [] H' b:=fun hn b hb=>
   ⟨hn b hb,(I4.ok.Vu b hb).1,I4.ok.xU b hb,.inl hb,(I4.ok.Vu b hb).2,fun p hp=>absurd (show p∈ ([]:bC) from hp) (by simp)⟩
  refine ztb (fun n s' =>∃i vs σ' H',Inv (blk X sc N' s3.heap.objs.size s3 (upd H2 acc (.lst [])) fp) [] σ' H' s' /\tn i s'.heap/\ (∀b∈fp,H' b=none)/\W i n vs H') ?_ m0
   ⟨0,[],nZ own.length caps σ,_,I4,XF,fun b hb=>(f3 b hb).1,w0⟩
  rintro n s5 ⟨i,vs,σ5,H5,I5,Av,Jp,w5⟩;obtain⟨ha5,Qp,⟨stop,qn⟩ | ⟨go,hz,step⟩⟩:=turn i n vs H5 w5
  ·refine bK (T.done (blk X sc N' s3.heap.objs.size s3 (upd H2 acc (.lst [])) fp) rfl rfl rfl (hc _ _) i [] s5 σ5 H5 _ I5 (stat Jp) Av stop) fun r s6 ⟨hr,I6⟩=> ?_;subst hr;have IX:Inv X pins σ H5 s6:=I3.call' (ch:=fp) I6.os I6.base I6.hok I6.bare fun b hb=>⟨(f3 b hb).2.2.2.1,(f3 b hb).2.1,(f3 b hb).2.2.2.2.1,(f3 b hb).2.2.2.2.2⟩;obtain⟨m6,hn6,_⟩:=I6.loc;refine fin acc s3.heap.objs.size H5 s6 IX qn ⟨m6,hn6⟩ I6.free (Nat.ne_of_gt I3.lt) I3.sz (fun x c e z=> ?_) (fun p hp z=> ?_) (I3.nofs (zO _))
   ·obtain⟨v,q⟩:=I3.cell x c e;exact absurd q.lt (by rw[z];exact yZ _)
   ·exact absurd (zJ (I3.pin p hp).1) (by rw[z];exact yZ _)
  ·
   have M5 :Inv (blk X sc N' s3.heap.objs.size s3 (upd H2 acc (.lst [])) fp) [] (nZ own.length caps σ) H5 s5:=zuu I3 S f3 I5;refine bK (T.item (blk X sc N' s3.heap.objs.size s3 (upd H2 acc (.lst [])) fp) rfl rfl rfl (hc _ _) i [] s5 _ H5 _ M5 (stat Jp) Av go) fun r s6 ⟨u,hr,h6⟩=> ?_;subst hr;refine bK h6 fun _ s7 hq2=> ?_;obtain⟨x,H7,I7,r7,y7,Qq,fr7⟩:=hq2;have I7' :=I7.pinned (stat fr7) (T.obj _ _ Qq);refine bK (hg _ _ _ _ _ s7 _ H7 x u _ I7' r7 (step x H7 y7)) fun _ s8 ⟨σ8,H8,I8,q8⟩=> ?_;refine bK (ht _ _ _ _ _ s8 σ8 H8 _ I8 q8) fun b s9 ⟨H9,I9,q9⟩=> ?_;have again:∀{vs' :List V} {σ' :St} {H' :Hp} {s' :Shared},Inv (blk X sc N' s3.heap.objs.size s3 (upd H2 acc (.lst [])) fp) ([]++j4 fp s7.heap) σ' H' s' ->(∃m',m' <n/\W (i+1) m' vs' H') ->
     ∃m,m<n/\∃i vs σ' H',Inv (blk X sc N' s3.heap.objs.size s3 (upd H2 acc (.lst [])) fp) [] σ' H' s' /\tn i s'.heap/\ (∀b∈fp,H' b=none)/\W i m vs H' :=fun{vs' σ' H' s'} I' ⟨m',hm,w'⟩=>by
    refine⟨m',hm,i+1,vs',σ',H',I'.unpinned,T.keep _ _ _ Qq fun b hb o e=>(I'.pin (b,o) (zR _ (zR _ (Jm hb e)))).1,fun b hb=> ?_,w'⟩;obtain⟨o,e,d⟩:=T.obj _ _ Qq b hb;exact(I'.pin (b,o) (zR _ (zR _ (Jm hb e)))).2.1
   cases b with
   | false=>
    rw[if_neg Bool.false_ne_true] at q9⊢;exact again I9 q9
   | true=>
    rw[if_pos rfl] at q9⊢;refine bK (he _ _ _ _ _ s9 σ8 H9 _ I9 q9) fun y s10 sX=> ?_;obtain⟨v,XH,I10,r10,yK,q10⟩:=sX;refine bK (Ws (X:=blk X sc N' s3.heap.objs.size s3 (upd H2 acc (.lst [])) fp) _ s10 σ8 XH (.ref acc) [v] (.ref acc) [y] (fun _ H' =>H' =upd XH acc (.lst (vs++ [v]))) I10 rfl (.cons r10 .nil) ⟨acc,vs,v,rfl,rfl,yK,hz,rfl⟩) fun _ s11 pJ=> ?_;obtain⟨_,H11,I11,_,e11⟩:=pJ;subst e11;exact again I11 q10
 exact codeAny_compStart_list key (T.self _ _ _ _ _ XF key)
end
def yL(K:W.Frag)(F Hx:Hp)(J:It)(ds:List D):Prop:=ds.length<=sizeLine/\∀(i:Nat) (H1 F1:Hp),Same F F1 ->Same F1 H1 ->Same Hx H1 ->
 (i=ds.length ->J.stop i H1)/\∀d,ds[i]?=some d ->J.go i H1/\∀x H',J.yld i H1 x H' ->∃F2,Gr F1 H1 F2 H' /\Rep K F2 d x
def Bj:Hp:=fun _=>none
theorem XJ:Same Bj H:=fun _ _ e=>by cases e
def XM(K:W.Frag)(F0 H0:Hp)(t:bh)(E:XW):TI:=fun σ H R=>∃F Γ P,SR K F0 H0 F H σ Γ/\t Γ P E/\∀ds Γ' F' H' J Hx,SR K F0 H0 F' H' σ Γ' ->Same F F' ->Same Hx H' ->yL K F' Hx J ds ->P ds Γ' ->R J H'
def Qs(K:W.Frag)(F0 H0:Hp)(t:bh)(E:XW):TI:=fun σ H R=>∃F Γ P,SR K F0 H0 F H σ Γ/\t Γ P E/\∀ds Γ' F' H' J,SR K F0 H0 F' H' σ Γ' ->Same F F' ->yL K F' Bj J ds ->P ds Γ' ->R J H'
def QI(X:Cx)(F0 H0:Hp)(tg e:Expr)(t:bh):Prop:=∀z E,Ctx (X.wsh z) F0 H0 E ->PI (X.wsh z) tg e (Qs X.K F0 H0 t E)
def Qt(X:Cx)(F0 H0:Hp)(tg e:Expr)(t:bh):Prop:=∀z E,Ctx (X.wsh z) F0 H0 E ->PI (X.wsh z) tg e (XM X.K F0 H0 t E)
theorem Fq(h:PI X tg e t)(hi:∀σ H R,t' σ H R ->t σ H R):PI X tg e t' :=fun pins s σ H R I q=>h pins s σ H R I (hi _ _ _ q)
theorem kh(h:QI X F0 H0 tg e t):Qt X F0 H0 tg e t:=fun z E cx=>Fq (h z E cx) fun σ H R hq1=>by obtain⟨F,Γ,P,S,q,k⟩:=hq1;exact⟨F,Γ,P,S,q,fun ds Γ' F' H' J S' s' hJ hp=>k ds Γ' F' H' J Bj S' s' XJ hJ hp⟩
def Ft(K:W.Frag)(tl:TE):TI:=fun σ H R=>tl σ H fun x H1=>∃a,x= .ref a/\ ((∃xs,fM K H1 a xs/\ (xs.length<=sizeLine ->R (xZ K a) H1))\/ (∃xs,iY K H1 a xs/\ (xs.length<=sizeLine ->R (wj K a) H1)))
theorem z08(hl:PE X l tl):PI X tg l (Ft X.K tl):=by
 intro pins s σ H R I h;refine bK (hl pins s σ H _ I h) fun v s1 hq2=> ?_;obtain⟨x,H1,I1,r1,q1⟩:=hq2;obtain⟨a,e,q⟩:=q1;subst e;cases r1;rcases q with ⟨xs,hq,q⟩ | ⟨xs,hq,q⟩
 ·obtain⟨its,rv,p,hz⟩:=I1.list hq;refine wpAny_pyIter_list p.isList ?_;refine⟨s1.heap.objs.size,[s1.heap.objs.size],_,_,H1,rfl,I1.kept (t' :=s1.toks) fun b o e=>z8 _ e,VL a _,⟨_,z9 _ rfl,rfl,rfl⟩,fun b hb=> ?_,q hz⟩;obtain rfl:b=s1.heap.objs.size:=by simpa using hb
  exact I1.fpOk (zO _) (I1.hok.fresh (zO _))
 ·obtain⟨its,rv,p,hz⟩:=I1.tuple hq;refine wpAny_pyIter_tuple (show s1.heap.IsTuple a its.toArray from p) ?_;refine⟨s1.heap.objs.size,[s1.heap.objs.size],_,_,H1,rfl,I1.kept (t' :=s1.toks) fun b o e=>z8 _ e,VN a _,⟨_,z9 _ rfl,rfl,rfl⟩,fun b hb=> ?_,q hz⟩;obtain rfl:b=s1.heap.objs.size:=by simpa using hb
  exact I1.fpOk (zO _) (I1.hok.fresh (zO _))
theorem z2a{K:W.Frag}{F Hx:Hp}{a:Addr}{vs:List V}{ds:List D}(hq:∀H1,Same F H1 ->iY K H1 a vs)(rs:ak K F ds vs)(hz:vs.length<=sizeLine):yL K F Hx (wj K a) ds:=by
 have hl:=gj rs;refine⟨by omega,fun i H1 F1 s1 s2 s3=>⟨fun e=>⟨vs,hq H1 (s1.trans s2),by omega⟩,fun d hd=> ?_⟩⟩
 obtain⟨v,hv,rv⟩:=oA rs hd;refine⟨⟨vs,v,hq H1 (s1.trans s2),hv⟩,fun x H' y=> ?_⟩;obtain⟨rfl,y⟩:=y;have:=y vs (hq _ (s1.trans s2));rw[hv] at this;cases this;exact⟨F1,Gr.refl s2,rv.up s1⟩
def iL(te:aH):bh:=fun Γ P E=>te Γ (fun d Γ1=>match d with | .lst ds=>P ds Γ1 | .tup ds=>P ds Γ1 | _=>False) E
section
variable{X:Cx}{F0 H0:Hp}{e tg:Expr}{es:List Expr}{pos:Pos}{te:aH}{g:jH}{gs:mq}{ti:bh}{tb:au}
theorem nq(h:QE X F0 H0 e te):QI X F0 H0 tg e (iL te):=fun z E cx=>Fq (z08 (h z E cx)) fun σ H R sX=>by obtain⟨F,Γ,P,S,q,k⟩:=sX;exact⟨F,Γ,_,S,q,fun d Γ1 F1 H1 v R1 s1 r1 h1=>by
 cases d with
 | lst ds=>
  unfold Rep at r1;obtain⟨a,vs,rfl,hq,rs⟩:=r1;refine⟨a,rfl,.inl ⟨vs,R1.g.seq hq,fun hz=>k ds Γ1 F1 H1 _ R1 s1 ?_ h1⟩⟩;refine⟨by rw[gj rs];exact hz,fun i H2 F2 s2 s3 s4=>⟨fun e=>⟨vs,s3.seq (s2.seq hq),by rw[e,gj rs];exact zO _⟩,fun d hd=> ?_⟩⟩
  obtain⟨v,hv,rv⟩:=oA rs hd;refine⟨⟨vs,v,s3.seq (s2.seq hq),hv⟩,fun x H' y=> ?_⟩;obtain⟨rfl,y⟩:=y;have:=y vs (s3.seq (s2.seq hq));rw[hv] at this;cases this;exact⟨F2,Gr.refl s3,rv.up s2⟩
 | tup ds=>
  unfold Rep at r1;obtain⟨a,vs,rfl,hq,rs⟩:=r1;exact⟨a,rfl,.inr ⟨vs,jX R1.g hq,fun hz=>k ds Γ1 F1 H1 _ R1 s1 (z2a (fun H2 s=>jX s hq) rs hz) h1⟩⟩
 | _=>exact False.elim h1⟩
def oG(ti:bh)(g:jH)(tb:au):au:=fun D0 Γ E=>ti Γ (fun ds Γ1=>j7 ds g tb D0 E Γ1) E
theorem Qu(hc:X.calm=true)(hi:QI X F0 H0 tg iter ti)(hg:QG X F0 H0 tg g)(hb:qt X F0 H0 body tb)(hs:∀x,foldedSetIterable iter X.env x=pure x:=by intro _;rfl):
  QS X F0 H0 (.For tg iter body [] pos) (oG ti g tb):=fun z E cx=>
 nW (Jo (X:=X.wsh z) cx.po hc (hi z E cx) (hg z E cx) (hb z E cx) hs) fun Dn σ H pJ=>by obtain⟨F,Γ,D2,R,h,k⟩:=pJ;exact⟨F,Γ,_,R,h,fun ds Γ1 F1 H1 J R1 s1 hJ h1=>by
  obtain⟨I,i0,turn,done⟩:=h1;refine⟨fun i m σ H=>m=ds.length - i/\i<=ds.length/\∃F2 Γ2,SR X.K F0 H0 F2 H σ Γ2/\Same F1 F2/\I i Γ2,⟨ds.length,by simp,Nat.zero_le _,F1,Γ1,R1,.refl _,i0⟩,?_⟩
  rintro i m σ H ⟨rfl,hi,F2,Γ2,R2,s2,hI⟩;obtain⟨hstop,hgo⟩:=hJ.2 i H F2 s2 R2.g XJ;by_cases hlt:i<ds.length
  ·obtain⟨go,yl⟩:=hgo ds[i] (zZ hlt);refine .inr ⟨go,fun σ H=>∃F2 Γ2,SR X.K F0 H0 F2 H σ Γ2/\Same F1 F2/\I (i+1) Γ2,fun σ' H' p' =>⟨ds.length - (i+1),by omega,rfl,hlt,p'⟩,fun x H' y=> ?_⟩
   obtain⟨F3,gr,rx⟩:=yl x H' y;exact⟨F3,Γ2,_,ds[i],R2.grow gr,rx,turn i ds[i] Γ2 (zZ hlt) hI,fun Γ4 F4 H4 σ4 R4 s4 p=>⟨F4,Γ4,{D2 with nx:=I (i+1),ct:=I (i+1),bk:=D2.nx},R4,p,⟨fun Γ5 F5 H5 σ5 R5 s5 q=>⟨F5,Γ5,R5,s2.trans (gr.f.trans (s4.trans s5)),q⟩,
    fun Γ5 F5 H5 σ5 R5 s5 q=>k.nx _ _ _ _ R5 (s1.trans (s2.trans (gr.f.trans (s4.trans s5)))) q,fun Γ5 F5 H5 σ5 R5 s5 q=>⟨F5,Γ5,R5,s2.trans (gr.f.trans (s4.trans s5)),q⟩,k.rt,k.rf,k.rT,k.rm⟩⟩⟩
  ·obtain rfl:i=ds.length:=by omega
   exact .inl ⟨hstop rfl,k.nx _ _ _ _ R2 (s1.trans s2) (done _ hI)⟩⟩
def tE(Γ:G2)(j:Nat):Slot:=match Γ[j]? with | some (.pu d)=> .pu d | _=> .no
def kj(own:Nat)(caps:List Nat)(Γ:G2):G2:=List.replicate own .no++caps.map (tE Γ)
theorem zzj{K:W.Frag}{F H:Hp}{σ:St}{Γ:G2}(own:Nat)(caps:List Nat)(R:SR K F0 H0 F H σ Γ):SR K F H F H (nZ own caps σ) (kj own caps Γ):=by
 have len:(nZ own caps σ).length=(kj own caps Γ).length:=by simp [nZ,kj]
 have yM:∀(i:Nat) s o a,(kj own caps Γ)[i]?=some s ->¬eN s o a:=fun i s o a e=>by
  unfold kj at e;by_cases hi:i<own
  ·rw[List.getElem?_append_left (by simpa using hi),List.getElem?_replicate] at e
   rw[if_pos hi] at e;cases e;exact fun h=>h
  ·rw[List.getElem?_append_right (by simpa using hi),List.getElem?_map] at e
   cases q:caps[i - (List.replicate own Slot.no).length]? with
   | none=>rw[q] at e;cases e
   | some j=>
    rw[q] at e;have e' :tE Γ j=s:=by simpa using e
    unfold tE at e';split at e' <;>(subst e';exact fun h=>h)
 refine⟨Gr.refl R.g,len,fun i s e=> ?_,fun i j a wB=>by obtain⟨s,o,e,_,h⟩:=wB;exact absurd h (yM i s o a e)⟩
 by_cases hi:i<own
 ·refine⟨none,?_,?_⟩
  ·unfold nZ;rw[List.getElem?_append_left (by simpa using hi),List.getElem?_replicate,if_pos hi]
  ·unfold kj at e;rw[List.getElem?_append_left (by simpa using hi),List.getElem?_replicate,if_pos hi] at e
   cases e;trivial
 ·unfold kj at e;rw[List.getElem?_append_right (by simpa using hi),List.getElem?_map,List.length_replicate] at e
  cases q:caps[i - own]? with
  | none=>rw[q] at e;cases e
  | some j=>
   rw[q] at e;have e' :tE Γ j=s:=by simpa using e
   refine⟨(σ[j]?).join,?_,?_⟩
   ·unfold nZ;rw[List.getElem?_append_right (by simpa using hi),List.getElem?_map,List.length_replicate,q];rfl
   ·unfold tE at e';split at e'
    ·rename_i d hd;subst e';obtain⟨o,e1,v,rfl,rv⟩:=R.sl j _ hd;exact⟨v,by rw[e1];rfl,rv⟩
    ·subst e';trivial
def pP(g:jH)(tc:TT2)(te:aH)(Γ0:G2)(x:D)(P:List D ->Prop):Prop:=g x Γ0 (fun Γ1=>tc Γ1 (fun b Γ2=>if b=true then te Γ2 (fun d _=>P [d]) j9 else P []) j9) j9
def aQ(one:D ->(List D ->Prop) ->Prop):List D ->(List D ->Prop) ->Prop
 | [],P=>P []
 | x::xs,P=>one x fun ys=>aQ one xs fun zs=>P (ys++zs)
def bM(own:Nat)(caps:List Nat)(ti:bh)(g:jH)(tc:TT2)(te:aH):bh:=fun Γ P E=>ti Γ (fun ds Γ1=>aQ (pP g tc te (kj own caps Γ1)) ds fun ys=>P ys Γ1) E
def gC:TT2:=fun Γ P _=>P true Γ
def Fv(X:Cx)(F0 H0:Hp)(ifs:List Expr)(t:TT2):Prop:=∀z E,Ctx (X.wsh z) F0 H0 E ->J0 (X.wsh z) ifs (Er X.K F0 H0 t E)
theorem qC:Fv X F0 H0 [] gC:=fun z E cx pins s σ H Q I yx=>by obtain⟨F,Γ,P,R,h,k⟩:=yx;exact z1m pins s σ H Q I (k _ _ _ _ R (.refl _) h)
theorem vJ(h:QT X F0 H0 c t):Fv X F0 H0 [c] t:=fun z E cx=>z03 (h z E cx)
end
section
variable{X:Cx}{F0 H0:Hp}{elt tg iter:Expr}{ifs:List Expr}{sc:Scope}{own:List Str}{caps:List Nat}{N' :List Str}{pos:Pos}{te:aH}{g:jH}{tc:TT2}{ti:bh}
def gX(K:W.Frag)(g:jH):TG:=fun v σ H Q=>∃F0 H0,JH K F0 H0 g j9 v σ H Q
def tX(K:W.Frag)(t:TT2):TT:=fun σ H Q=>∃F0 H0,Er K F0 H0 t j9 σ H Q
def eX(K:W.Frag)(t:aH):TE:=fun σ H Q=>∃F0 H0,yt K F0 H0 t j9 σ H Q
theorem XQ(gr:Gr F H F' H')(h:F a=none)(e:H a=some (.lst vs)):F' a=none:=by
 cases q:F' a with
 | none=>rfl
 | some u=>
  rcases gr.n a u q h with z | ⟨⟨xs,e'⟩,z⟩
  ·rw[e] at z;cases z
  ·rw[e] at z;cases z;cases e'
theorem XR{K:W.Frag}{F H:Hp}{σ:St}{Γ:G2}{J:It}{Hx:Hp}{ds:List D}{acc:Addr}{P:List D ->Prop}{Q:V ->Hp ->Prop}(R:SR K F0 H0 F H σ Γ)(hJ:yL K F Hx J ds)(hx:Same Hx H)(ha:H acc=none)
  (h:aQ (pP g tc te (kj own.length caps Γ)) ds P)
  (fin:∀ys F' H' vs,SR K F0 H0 F' H' σ Γ ->Same F F' ->H' acc=some (.lst vs) ->F' acc=none ->H0 acc=none ->ak K F' ys vs ->Apart σ Γ acc ->P ys ->Q (.ref acc) H'):
  wH acc J (nZ own.length caps σ) (gX K g) (tX K tc) (eX K te) Q (upd H acc (.lst [])):=by
 obtain⟨R1,e1,e2,e3,ap⟩:=yD (ds:= []) (vs:= []) R ha (by unfold ak;rfl)
 have hx1:Same Hx (upd H acc (.lst [])):=fun b u e=>by rw[c7 (lU (hx b u e) ha)];exact hx b u e
 have xa:∀u,Hx acc≠some u:=fun u e=>by rw[hx acc u e] at ha;cases ha
 refine⟨fun i m vs H' =>m=ds.length - i/\i<=ds.length/\∃F' ys,SR K F0 H0 F' H' σ Γ/\Same F F' /\Same Hx H' /\H' acc=some (.lst vs)/\F' acc=none/\ak K F' ys vs/\vs.length<=i/\aQ (pP g tc te (kj own.length caps Γ)) (ds.drop i) (fun zs=>P (ys++zs)),
  ⟨ds.length,by simp,Nat.zero_le _,F,[],R1,.refl _,hx1,e1,e2,by unfold ak;rfl,zO _,by simpa using h⟩,?_⟩
 rintro i m vs H' ⟨rfl,hi,F',ys,R',sF,hx',ha',Qw,rs,lv,hc⟩;have hz:=hJ.1;refine⟨ha',by omega,?_⟩
 obtain⟨hstop,hgo⟩:=hJ.2 i H' F' sF R'.g hx';by_cases hlt:i<ds.length
 ·obtain⟨go,yl⟩:=hgo ds[i] (zZ hlt);refine .inr ⟨go,by omega,fun x H2 y=> ?_⟩
  obtain⟨F2,gr,rx⟩:=yl x H2 y;rw[List.drop_eq_getElem_cons hlt] at hc;have R2:=R'.grow gr;refine⟨F2,H2,F2,kj own.length caps Γ,_,ds[i],zzj own.length caps R2,rx,hc,fun Γ3 F3 H3 σ3 R3 s3 q3=> ?_⟩;refine⟨F2,H2,F3,Γ3,_,R3,q3,fun b Γ4 F4 H4 R4 s4 q4=> ?_⟩;have Bk:Gr F' H' F4 H4:=gr.trans R4.gr;cases b with
  | false=>
   rw[if_neg Bool.false_ne_true] at q4;show∃m',m' <ds.length - i/\_;refine⟨ds.length - (i+1),by omega,rfl,hlt,F4,ys,R'.grow Bk,sF.trans Bk.f,fun b u e=>Bk.h b u (hx' b u e),Bk.h _ _ ha',XQ Bk Qw ha',rs.up Bk.f,by omega,?_⟩
   simpa using q4
  | true=>
   rw[if_pos rfl] at q4;show eX K te σ3 H4 _;refine⟨F2,H2,F4,Γ4,_,R4,q4,fun d Γ5 F5 H5 v R5 s5 rv q5=> ?_⟩;have Bl:Gr F' H' F5 H5:=gr.trans R5.gr;have a5:=Bl.h _ _ ha';have f5:=XQ Bl Qw ha';refine⟨a5,ds.length - (i+1),by omega,rfl,hlt,F5,ys++ [d],?_,sF.trans Bl.f,fun b u e=> ?_,lW,f5,Az (rs.up Bl.f) (Jy rv),by simp;omega,?_⟩
   ·have R6:=R'.grow Bl;refine⟨⟨R6.gr.f,fun b u e=> ?_,fun b u e=> ?_,R6.gr.n⟩,R6.len,fun j sl e=> ?_,R6.ap⟩
    ·rw[c7 (lU e f5)];exact R6.g b u e
    ·rw[c7 (lU e e3)];exact R6.gr.h b u e
    ·obtain⟨o,p1,p2⟩:=R6.sl j sl e;refine⟨o,p1,Ek p2 (.refl _) fun c hc=>⟨(uR p2 hc).1,fun u q=> ?_⟩⟩;have:c≠acc:=fun z=>by subst z;exact ap j ⟨sl,o,e,p1,hc⟩
     rw[c7 this];exact q
   ·rw[c7 (fun z=>xa u (by rw[<- z];exact e))];exact Bl.h b u (hx' b u e)
   ·simpa [List.append_assoc] using q5
 ·obtain rfl:i=ds.length:=by omega
  refine .inl ⟨hstop rfl,fin ys F' H' vs R' sF ha' Qw e3 rs ap ?_⟩;rw[List.drop_length] at hc
  simpa [aQ] using hc
structure cR (N:List Str) (sc:Scope) (own:List Str) (caps:List Nat) (Fw:Scope) (N' :List Str):Prop where
 kind:sc.kind= .function
 nd:N'.Nodup
 snd:(sc.names.map (·.1)).Nodup
 free:∀p∈sc.names,p.2= .free ->Fw.names.lookup p.1=some .cell\/Fw.names.lookup p.1=some .free
 names:N' =own++caps.map fun j=>N.getD j ""
 caps:∀j∈caps,j<N.length/\sc.names.lookup (N.getD j "")=some .free
theorem cR.cs(h:cR X.N sc own caps X.env.scope N'):eU X.N sc own caps X.env N' :=⟨h.kind,h.nd,h.snd,h.free,h.names,h.caps⟩
def QIg(X:Cx)(F0 H0:Hp)(tg e:Expr)(t:bh):Prop:=∀z E,Ctx (X.wsh z) F0 H0 E ->Qo (X.wsh z) tg e (XM X.K F0 H0 t E)
theorem zx1(S:cR X.N sc own caps X.env.scope N')(hi:QIg X F0 H0 tg iter ti)
  (hg:∀C s₀ H₀ fp F0 H0,QG (blk X sc N' C s₀ H₀ fp) F0 H0 tg g) (ht:∀C s₀ H₀ fp F0 H0,Fv (blk X sc N' C s₀ H₀ fp) F0 H0 ifs tc) (he:∀C s₀ H₀ fp F0 H0,QE (blk X sc N' C s₀ H₀ fp) F0 H0 elt te)
  (hn:own.length=n:=by rfl) (hs:∀x,foldedSetIterable iter X.env x=pure x:=by intro _;rfl):QF X F0 H0 (.ListComp elt [⟨tg,iter,ifs,0⟩] sc pos) (bM n caps ti g tc te):=by
 subst hn;rintro z E cx pins s σ H Q I ⟨F,Γ,P,R,h,k⟩;rw[show eval (.ListComp elt [⟨tg,iter,ifs,0⟩] sc pos) (X.wsh z).env=comprehension (.ListComp elt [⟨tg,iter,ifs,0⟩] sc pos) sc X.env _ (newList []) false (eval iter X.env) from eval_ListComp ..];refine XD (X:=X.wsh z) (g:=gX X.K g) (tc:=tX X.K tc) (te:=eX X.K te) (Q:=Q) (cR.cs (X:=X.wsh z) S) (hi z E cx) ?_ ?_ ?_ rfl hs I ?_ ?_
 ·rintro C s₀ H₀ fp pins s σ H v u Q I r ⟨tG,tH,q⟩;exact hg C s₀ H₀ fp tG tH ⟨fun _ _=>False,[]⟩ j9 Bd pins s σ H v u Q I r q
 ·rintro C s₀ H₀ fp pins s σ H Q I ⟨tG,tH,q⟩;exact ht C s₀ H₀ fp tG tH ⟨fun _ _=>False,[]⟩ j9 Bd pins s σ H Q I q
 ·rintro C s₀ H₀ fp pins s σ H Q I ⟨tG,tH,q⟩;exact he C s₀ H₀ fp tG tH ⟨fun _ _=>False,[]⟩ j9 Bd pins s σ H Q I q
 ·exact⟨F,Γ,_,R,h,fun ds Γ1 F1 H1 J Hx R1 s1 hx hJ h1 acc ha=>XR R1 hJ hx ha h1 fun ys F' H' vs R' sF a1 a2 a3 rs ap hp=>k ys Γ1 F' H' acc vs R' (s1.trans sF) a1 a2 a3 rs ap hp⟩
 ·rintro acc C H' s5 I5 q5 ⟨m,hn⟩ c1 c2 c3 c4 c5 c6;exact⟨m,hn,fun h' hs' =>⟨.ref acc,H',I5.turned (t' :=s5.toks) (it:=C) (fun b o hb e=>(hs'.2 b hb).trans e) c1 c2 (.inr c3) c4 c5,rfl,q5⟩⟩
theorem n6(S:cR X.N sc own caps X.env.scope N')(hc:X.calm=true)(hi:Qt X F0 H0 tg iter ti)
  (hg:∀C s₀ H₀ fp F0 H0,QG (blk X sc N' C s₀ H₀ fp) F0 H0 tg g) (ht:∀C s₀ H₀ fp F0 H0,Fv (blk X sc N' C s₀ H₀ fp) F0 H0 ifs tc) (he:∀C s₀ H₀ fp F0 H0,QE (blk X sc N' C s₀ H₀ fp) F0 H0 elt te)
  (hn:own.length=n:=by rfl) (hs:∀x,foldedSetIterable iter X.env x=pure x:=by intro _;rfl):QF X F0 H0 (.ListComp elt [⟨tg,iter,ifs,0⟩] sc pos) (bM n caps ti g tc te):=zx1 S (fun z E cx=>XC hc (hi z E cx)) hg ht he hn hs
theorem Fy(hN:X.N.Nodup)(hi' :X.N[i]?=some y)(hy:X.env.scope.names.lookup y=some .local)(S:cR X.N sc own caps X.env.scope N')(hc:X.calm=true)(hi:Qt X F0 H0 tg iter ti)
  (hg:∀C s₀ H₀ fp F0 H0,QG (blk X sc N' C s₀ H₀ fp) F0 H0 tg g) (ht:∀C s₀ H₀ fp F0 H0,Fv (blk X sc N' C s₀ H₀ fp) F0 H0 ifs tc) (he:∀C s₀ H₀ fp F0 H0,QE (blk X sc N' C s₀ H₀ fp) F0 H0 elt te)
  (hn:own.length=n:=by rfl) (hsw:swapsWith (.ListComp elt [⟨tg,iter,ifs,0⟩] sc pos) (some (.Name y py)) spos.line X.env=pure true:=by rfl) (hs:∀x,foldedSetIterable iter X.env x=pure x:=by intro _;rfl):
  QS X F0 H0 (.Assign [.Name y py] (.ListComp elt [⟨tg,iter,ifs,0⟩] sc pos) spos) (jG i (bM n caps ti g tc te)):=by
 subst hn;rintro z E cx pins s σ H Dn I ⟨F,Γ,D2,R,h,k⟩;show wpAny _ _ (exec (.Assign [.Name y py] (.ListComp elt [⟨tg,iter,ifs,0⟩] sc pos) spos) X.env) _ _ _;rw[exec_Assign_Name_used _ _ _ _ hsw];refine z6 (wpAny_standAt (z6 ?_));show wpAny _ _ (do let _<- comprehension (.ListComp elt [⟨tg,iter,ifs,0⟩] sc pos) sc X.env _ (newList []) false (eval iter X.env) (some (assign (.Name y py) X.env))) _ _ s;refine z6 (wpAny_mono (XD (X:=X.wsh z) (use:=some (assign (.Name y py) X.env)) (Qv:=fun _ s' =>SP (X.wsh z) pins Dn .next s') (g:=gX X.K g) (tc:=tX X.K tc) (te:=eX X.K te) (Q:=fun v H' =>Dn.nx (σ.set i (some v)) H') (cR.cs (X:=X.wsh z) S) (XC hc (hi z E cx)) ?_ ?_ ?_ rfl hs I ?_ ?_) (fun _ s' hq=>z7 (z7 hq)) fun _ _ e=>e)
 ·rintro C s₀ H₀ fp pins s σ H v u Q I r ⟨tG,tH,q⟩;exact hg C s₀ H₀ fp tG tH ⟨fun _ _=>False,[]⟩ j9 Bd pins s σ H v u Q I r q
 ·rintro C s₀ H₀ fp pins s σ H Q I ⟨tG,tH,q⟩;exact ht C s₀ H₀ fp tG tH ⟨fun _ _=>False,[]⟩ j9 Bd pins s σ H Q I q
 ·rintro C s₀ H₀ fp pins s σ H Q I ⟨tG,tH,q⟩;exact he C s₀ H₀ fp tG tH ⟨fun _ _=>False,[]⟩ j9 Bd pins s σ H Q I q
 ·exact⟨F,Γ,_,R,h,fun ds Γ1 F1 H1 J Hx R1 s1 hx hJ h1 acc ha=>XR R1 hJ hx ha h1 fun ys F' H' vs R' sF a1 a2 a3 rs ap hp=>k.nx _ _ _ _ (R'.setOw i a1 a2 a3 rs ap) (s1.trans sF) hp⟩
 ·rintro acc C H' s5 I5 q5 ⟨m,hn⟩ c1 c2 c3 c4 c5 c6;show wpAny _ _ (assign (.Name y py) X.env (.ref acc)) _ _ _;refine wpAny_assign_Name (Vx (X:=X.wsh z) I5 hN hi' (.inl hy) (v:= .ref acc) rfl (fun s6 I6 ⟨a,hsb,ha⟩=> ?_) (.inr hy));have ha' :a=X.env.locals\/X.env.cells.lookup y=some a:=ha;have hac:C≠a:=by
   rcases ha' with rfl | ha'
   ·exact c2
   ·exact fun z=>c4 y a ha' z.symm
  refine⟨m,hn.sameBut hsb hac,fun h' hs' =>⟨_,H',I6.turned (t' :=s6.toks) (it:=C) (fun b o hb e=>(hs'.2 b hb).trans e) c1 c2 (.inr c3) c4 c5,q5⟩⟩
end
def qW(K:W.Frag)(g:List D ->(List D ->Prop) ->Prop):List V ->Hp ->VK ->Prop:=fun vs H Q=>∃F ds P,Same F H/\ak K F ds vs/\g ds P/\∀es us l,ak K F es us ->H l=none ->P es ->Q (.ref l) (upd H l (.lst us))
section
variable{X:Cx}{F0 H0:Hp}{a b e:Expr}{es:List Expr}{pos p p2:Pos}{ta tb te:aH}{t:bh}{x:Str}
def qX(g:List D ->(List D ->Prop) ->Prop)(t:bh):bh:=fun Γ P E=>t Γ (fun ds Γ1=>g ds fun es=>P es Γ1) E
theorem XS{K:W.Frag}{g:List D ->(List D ->Prop) ->Prop}{E:XW}{σ:St}{H:Hp}{Q:VK}(h:W5 K F0 H0 (qX g t) E σ H Q):DP (qW K g) (Es K F0 H0 t E) σ H Q:=by
 obtain⟨F,Γ,P,R,h,k⟩:=h;refine⟨F,Γ,_,R,h,fun ds Γ1 F1 H1 vs R1 s1 r1 h1=>⟨F1,ds,_,R1.g,r1,h1,fun es us l r hl hp=> ?_⟩⟩;obtain⟨R2,e1,e2,e3,ap⟩:=yD R1 hl r;exact k es Γ1 F1 _ l us R2 s1 e1 e2 e3 r ap hp
theorem X3{id:String}{g:List D ->(List D ->Prop) ->Prop}(hc:∀z,cH (X.wsh z) (.builtin id) (qW X.K g))(hg:Gl X x)(hm:X.mg x=none)(hv:bootBuiltins x=some (.builtin id))(ha:QA X F0 H0 (e::es) t)(hn:x≠ "__name__" :=by decide)(hdb:(x==("__debug__" :Str))=false:=by decide)
  (he:starEach (e::es) X.env=(false,eval e X.env)::starEach es X.env:=by rfl) (hpl:(backTo pos (starEach es X.env)).any (·.1)=false:=by rfl):QF X F0 H0 (.Call (.Name x p) (e::es) [] pos) (qX g t):=fun z E cx=>
 jt (Jt (X:=X.wsh z) (hc z) hg hm hv (ha z E cx) hn hdb he hpl) fun _ _ _ h=>XS h
theorem J1{T:String}{g:List D ->(List D ->Prop) ->Prop}(hc:∀z,cH (X.wsh z) (.type T) (qW X.K g))(hg:Gl X x)(hm:X.mg x=none)(hv:bootBuiltins x=some (.type T))(ha:QA X F0 H0 (e::es) t)(hn:x≠ "__name__" :=by decide)(hdb:(x==("__debug__" :Str))=false:=by decide)
  (he:starEach (e::es) X.env=(false,eval e X.env)::starEach es X.env:=by rfl) (hpl:(backTo pos (starEach es X.env)).any (·.1)=false:=by rfl):QF X F0 H0 (.Call (.Name x p) (e::es) [] pos) (qX g t):=fun z E cx=>
 jt (Nr (X:=X.wsh z) (hc z) hg hm hv (ha z E cx) hn hdb he hpl) fun _ _ _ h=>XS h
theorem X4{T:String}{g:List D ->(D ->Prop) ->Prop}(hc:∀z,cH (X.wsh z) (.type T) (m9 X.K g))(hg:Gl X x)(hm:X.mg x=none)(hv:bootBuiltins x=some (.type T))(ha:QA X F0 H0 (e::es) t)(hn:x≠ "__name__" :=by decide)(hdb:(x==("__debug__" :Str))=false:=by decide)
  (he:starEach (e::es) X.env=(false,eval e X.env)::starEach es X.env:=by rfl) (hpl:(backTo pos (starEach es X.env)).any (·.1)=false:=by rfl):QE X F0 H0 (.Call (.Name x p) (e::es) [] pos) (jK g t):=fun z E cx=>
 jt (Nr (X:=X.wsh z) (hc z) hg hm hv (ha z E cx) hn hdb he hpl) fun _ _ _ h=>Xq h
end
def Bm:List D ->(List D ->Prop) ->Prop:=fun ds P=>match ds with | [.lst xs]=>P xs | [.tup xs]=>P xs | _=>False
theorem Qx:cH X (.type "list") (qW X.K Bm):=by
 rintro pins s σ H xs us Q I r ⟨F,ds,P,sF,rs,h,k⟩;unfold Bm at h;split at h
 ·unfold ak ak Rep at rs;obtain⟨v,_,rfl,⟨p,vs,rfl,hq,rs⟩,rfl⟩:=rs;exact Wr pins s σ H _ us Q I r ⟨p,vs,rfl,.inl (sF.seq hq),fun l hl=>k _ _ l rs hl h⟩
 ·unfold ak ak Rep at rs;obtain⟨v,_,rfl,⟨p,vs,rfl,hq,rs⟩,rfl⟩:=rs;exact Wr pins s σ H _ us Q I r ⟨p,vs,rfl,.inr (jX sF hq),fun l hl=>k _ _ l rs hl h⟩
 ·exact h.elim
def z13:List D ->(D ->Prop) ->Prop:=fun ds P=>match ds with | [.lst xs]=>P (.tup xs) | [.tup xs]=>P (.tup xs) | _=>False
def cutD(xs:List D)(lo hi:Option Int):List D:=(xs.drop (HT.sIx xs.length 0 lo)).take (HT.sIx xs.length xs.length hi - HT.sIx xs.length 0 lo)
theorem X5{K:W.Frag}{F:Hp}{ds:List D}{vs:List V}(r:ak K F ds vs)(lo hi:Option Int):ak K F (cutD ds lo hi) (m7 vs lo hi):=by
 unfold cutD m7;rw[gj r];exact WX _ (WY _ r)
abbrev uV:=G2 ->(Option Int ->G2 ->Prop) ->XW ->Prop
def upO(K:W.Frag)(F0 H0:Hp)(t:uV)(E:XW):TO:=fun σ H Q=>∃F Γ P,SR K F0 H0 F H σ Γ/\t Γ P E/\∀o Γ' F' H',SR K F0 H0 F' H' σ Γ' ->Same F F' ->P o Γ' ->Q o H'
def QO(X:Cx)(F0 H0:Hp)(e:Option Expr)(t:uV):Prop:=∀z E,Ctx (X.wsh z) F0 H0 E ->PO (X.wsh z) e (upO X.K F0 H0 t E)
theorem X6(h:PO X e t)(hi:∀σ H Q,t' σ H Q ->t σ H Q):PO X e t' :=fun pins s σ H Q I q=>h pins s σ H Q I (hi _ _ _ q)
def wJ:uV:=fun Γ P _=>P none Γ
def wK(te:aH):uV:=fun Γ P E=>te Γ (fun d Γ1=>match d with | .int i=>P (some i) Γ1 | _=>False) E
section
variable{X:Cx}{F0 H0:Hp}{a b e:Expr}{es:List Expr}{pos p p2:Pos}{ta tb te:aH}{t:bh}{x:Str}{lo hi:Option Expr}{tl th:uV}
theorem Bo:QO X F0 H0 none wJ:=fun z E cx=>X6 z1h fun σ H Q hq1=>by obtain⟨F,Γ,P,R,h,k⟩:=hq1;exact k _ _ _ _ R (.refl _) h
theorem Bp(h:QE X F0 H0 e te):QO X F0 H0 (some e) (wK te):=fun z E cx=>X6 (z17 (h z E cx)) fun σ H Q hq2=>by obtain⟨F,Γ,P,R,h,k⟩:=hq2;exact⟨F,Γ,_,R,h,fun d Γ1 F1 H1 v R1 s1 r q=>by
 cases d with
 | int i=>unfold Rep at r;exact⟨i,r,k _ _ _ _ R1 s1 q⟩
 | _=>exact False.elim q⟩
def Bq(te:aH)(tl th:uV):bh:=fun Γ P E=>te Γ (fun d Γ1=>tl Γ1 (fun l Γ2=>th Γ2 (fun u Γ3=>match d with | .lst xs=>P (cutD xs l u) Γ3 | _=>False) E) E) E
theorem J2(he:QE X F0 H0 e te)(hl:QO X F0 H0 lo tl)(hh:QO X F0 H0 hi th):QF X F0 H0 (.Subscript e (.Slice lo hi none p2) pos) (Bq te tl th):=fun z E cx=>
 jt (Wi z3b (he z E cx) (hl z E cx) (hh z E cx)) fun σ H Q sX=>by obtain⟨F,Γ,P,R,h,k⟩:=sX;exact⟨F,Γ,_,R,h,fun d Γ1 F1 H1 v R1 s1 r1 h1=>⟨F1,Γ1,_,R1,h1,fun l Γ2 F2 H2 R2 s2 h2=>⟨F2,Γ2,_,R2,h2,fun u Γ3 F3 H3 R3 s3 h3=>by
  cases d with
  | lst xs=>
   have r3:=r1.up (s2.trans s3);unfold Rep at r3;obtain⟨a,vs,rfl,hq,rs⟩:=r3;refine⟨a,vs,rfl,R3.g.seq hq,fun p hp=> ?_⟩;have rc:=X5 rs l u;obtain⟨R4,e1,e2,e3,ap⟩:=yD R3 hp rc;exact k _ Γ3 F3 _ p _ R4 (s1.trans (s2.trans s3)) e1 e2 e3 rc ap h3
  | _=>exact False.elim h3⟩⟩⟩
def Qy(te:aH):bh:=fun Γ P E=>te Γ (fun d Γ1=>match d with | .lst xs=>P xs.reverse Γ1 | _=>False) E
end
section
variable{X:Cx}
theorem X7{A:Around}(h:A.handled=none):A.in1.handled=none:=h
theorem Qz(I:Inv X pins σ H s)(k:∀b o,s.heap.get? b=some o ->h'.get? b=some o)(r:RelV v u)(q:Q v H):EP X pins σ Q u {s with heap:=h',toks:=tk}:=⟨v,H,I.kept k,r,q⟩
def fV:List D ->Option (List Int)
 | []=>some []
 | .int i::r=>(fV r).map (i:: ·)
 | _::_=>none
def oH:List D ->Option (List Bool)
 | []=>some []
 | .bl i::r=>(oH r).map (i:: ·)
 | _::_=>none
theorem QB{K:W.Frag}{F:Hp}:∀{ds:List D} {vs:List V} {ns:List Int},ak K F ds vs ->fV ds=some ns ->vs=ns.map .int
 | [],vs,ns,r,h=>by unfold ak at r;cases h;subst r;rfl
 | .int i::ds,vs,ns,r,h=>by
  unfold ak Rep at r;obtain⟨v,us,rfl,rfl,r⟩:=r;unfold fV at h;cases q:fV ds with
  | none=>rw[q] at h;cases h
  | some ms=>
   rw[q] at h;cases h;rw[QB r q];rfl
 | .non::_,_,_,_,h=>by cases h
 | .bl _::_,_,_,_,h=>by cases h
 | .str _::_,_,_,_,h=>by cases h
 | .tup _::_,_,_,_,h=>by cases h
 | .lst _::_,_,_,_,h=>by cases h
 | .exc _::_,_,_,_,h=>by cases h
 | .ptr _::_,_,_,_,h=>by cases h
 | .obj _ _ _::_,_,_,_,h=>by cases h
 | .dic _ _::_,_,_,_,h=>by cases h
 | .gh _ _::_,_,_,_,h=>by cases h
 | .dik _ _::_,_,_,_,h=>by cases h
theorem X8{K:W.Frag}{F:Hp}:∀{ds:List D} {vs:List V} {ns:List Bool},ak K F ds vs ->oH ds=some ns ->vs=ns.map .bl
 | [],vs,ns,r,h=>by unfold ak at r;cases h;subst r;rfl
 | .bl i::ds,vs,ns,r,h=>by
  unfold ak Rep at r;obtain⟨v,us,rfl,rfl,r⟩:=r;unfold oH at h;cases q:oH ds with
  | none=>rw[q] at h;cases h
  | some ms=>
   rw[q] at h;cases h;rw[X8 r q];rfl
 | .non::_,_,_,_,h=>by cases h
 | .int _::_,_,_,_,h=>by cases h
 | .str _::_,_,_,_,h=>by cases h
 | .tup _::_,_,_,_,h=>by cases h
 | .lst _::_,_,_,_,h=>by cases h
 | .exc _::_,_,_,_,h=>by cases h
 | .ptr _::_,_,_,_,h=>by cases h
 | .obj _ _ _::_,_,_,_,h=>by cases h
 | .dic _ _::_,_,_,_,h=>by cases h
 | .gh _ _::_,_,_,_,h=>by cases h
 | .dik _ _::_,_,_,_,h=>by cases h
theorem Yb(ns:List Int)(f:Nat ->Int)(h:∀i,i<ns.length ->f i=ns.getD i 0):PySem.preSum f ns.length=ns.sum:=by
 have key:∀k,k<=ns.length ->PySem.preSum f k=(ns.take k).sum:=by
  intro k;induction k with
  | zero=>intro _;rfl
  | succ k ih=>
   intro hk;show PySem.preSum f k+f k=_;rw[ih (by omega),h k (by omega),List.take_add_one,List.sum_append,List.getD_eq_getElem?_getD,List.getElem?_eq_getElem (by omega)]
   simp
 rw[key _ (Nat.le_refl _),List.take_length]
def J3:List D ->(D ->Prop) ->Prop:=fun ds P=>match ds with | [.lst xs]=>∃ns,fV xs=some ns/\P (.int ns.sum) | _=>False
theorem Yc(hc:X.calm=true):cH X (.builtin "sum") (m9 X.K J3):=by
 rintro pins s σ H xs us Q I r ⟨F,ds,P,sF,rs,h,k⟩;unfold J3 at h;split at h
 ·unfold ak ak Rep at rs;obtain⟨v,_,rfl,⟨p,vs,rfl,hq,rs⟩,rfl⟩:=rs;obtain⟨ns,hns,h⟩:=h;obtain rfl:=QB rs hns;obtain⟨u,rfl,rx⟩:=vals1 r;cases rx;obtain⟨its,rv,pl,hz⟩:=I.list (sF.seq hq);have hl:=rv.length;rw[List.length_map] at hl;refine call_sum_walkAnyS (wpAny_pyIter_list pl.isList ?_);have J4:p<s.heap.objs.size:=by obtain⟨o,n,e,_⟩:=pl;exact zJ e
  refine⟨s.heap.objs.size,_,_,_,_,_,_,fun i=>ns.getD i 0,rfl,(Walks.list (X7 (I.ok.hd hc)) s.heap.objs.size p (zL J4) its.toArray).toS,⟨⟨_,z9 _ rfl,rfl,rfl⟩,?_⟩,?_,?_,?_⟩
  ·obtain⟨o,n,e,hcl,_,hd⟩:=pl;exact⟨o,z8 _ e,hcl,n,hd⟩
  ·intro b hb;rw[Heap.size_push];rcases zV.mp hb with rfl | hb
   ·exact Nat.lt_succ_self _
   ·rcases zV.mp hb with rfl | hb
    ·exact Nat.lt_succ_of_lt J4
    ·cases hb
  ·intro i v hv;have hv' :its[i]?=some v:=by simpa using hv
   have hi:i<ns.length:=by
    have:=(zW.mp hv').1;omega
   obtain⟨u,hu,ru⟩:=rv.get (i:=i) (x:= .int (ns.getD i 0)) (by rw[List.getElem?_map,List.getD_eq_getElem?_getD,List.getElem?_eq_getElem hi];rfl)
   rw[hv'] at hu;cases hu;exact ru
  ·intro s' t' mv;rw[show its.toArray.size=ns.length by simp [hl],Yb ns _ (fun i _=>rfl)]
   obtain⟨h',g',d',tk',os'⟩:=s';have e1:=mv.gens;have e2:=mv.drawn;have e3:=mv.os;dsimp only at e1 e2 e3;subst e1 e2 e3;refine Qz (s:=s) (v:= .int ns.sum) I (fun b o e=>mv.heap b o (fun z=> ?_) (z8 _ e)) ⟨_,rfl⟩ (k _ _ F H (Gr.refl sF) (by unfold Rep;rfl) h)
   rcases zV.mp z with rfl | z
   ·exact absurd (zJ e) (yZ _)
   ·cases z
 ·exact h.elim
theorem zyt(pl:PlainL h p its):(h.push {cls:= .type "list_iterator",data:= .fields #[.ref p,rawInt 0]}).IsListIter h.objs.size p 0/\ (h.push {cls:= .type "list_iterator",data:= .fields #[.ref p,rawInt 0]}).IsList p its:=by
 refine⟨⟨_,z9 _ rfl,rfl,rfl⟩,?_⟩;obtain⟨o,n,e,hcl,_,hd⟩:=pl;exact⟨o,z8 _ e,hcl,n,hd⟩
theorem zuw(bs:List Bool):(List.range bs.length).any (fun i=>bs.getD i false)=bs.any id:=by
 rw[Bool.eq_iff_iff];simp only [List.any_eq_true,List.mem_range,id];constructor
 ·rintro⟨i,hi,e⟩;rw[List.getD_eq_getElem?_getD,List.getElem?_eq_getElem hi] at e;exact⟨_,zA hi,e⟩
 ·rintro⟨b,hb,e⟩;obtain⟨i,hi,rfl⟩:=List.mem_iff_getElem.mp hb;exact⟨i,hi,by rw[List.getD_eq_getElem?_getD,List.getElem?_eq_getElem hi];exact e⟩
def QC:List D ->(D ->Prop) ->Prop:=fun ds P=>match ds with | [.lst xs]=>∃bs,oH xs=some bs/\P (.bl (bs.any id)) | _=>False
def z61:List D ->(D ->Prop) ->Prop:=fun ds P=>match ds with | [.lst xs]=>∃bs,oH xs=some bs/\P (.bl (bs.all id)) | _=>False
theorem z5b{bs:List Bool}{its:List Value}(rv:Vals (bs.map .bl) its){i:Nat}{v:Value}(hv:its.toArray[i]?=some v):v= .bool (bs.getD i false):=by
 have hl:=rv.length;rw[List.length_map] at hl;have hv' :its[i]?=some v:=by simpa using hv
 have hi:i<bs.length:=by
  have:=(zW.mp hv').1;omega
 obtain⟨u,hu,ru⟩:=rv.get (i:=i) (x:= .bl (bs.getD i false)) (by rw[List.getElem?_map,List.getD_eq_getElem?_getD,List.getElem?_eq_getElem hi];rfl)
 rw[hv'] at hu;cases hu;exact ru
theorem z5v(hc:X.calm=true):cH X (.builtin "any") (m9 X.K QC):=by
 rintro pins s σ H xs us Q I r ⟨F,ds,P,sF,rs,h,k⟩;unfold QC at h;split at h
 ·unfold ak ak Rep at rs;obtain⟨v,_,rfl,⟨p,vs,rfl,hq,rs⟩,rfl⟩:=rs;obtain⟨bs,hbs,h⟩:=h;obtain rfl:=X8 rs hbs;obtain⟨u,rfl,rx⟩:=vals1 r;cases rx;obtain⟨its,rv,pl,hz⟩:=I.list (sF.seq hq);have hl:=rv.length;rw[List.length_map] at hl;refine call_any_walk (wpAny_pyIter_list pl.isList ?_);have J4:p<s.heap.objs.size:=by obtain⟨o,n,e,_⟩:=pl;exact zJ e
  refine⟨s.heap.objs.size,_,_,_,_,_,fun i=>bs.getD i false,rfl,Walks.list (X7 (I.ok.hd hc)) s.heap.objs.size p (zL J4) its.toArray,zyt pl,fun i v s' Q' E' hv hQ=> ?_,fun h' tk kp=> ?_⟩
  ·rw[z5b rv hv];exact wpAny_truthy_bool hQ
  ·rw[show its.toArray.size=bs.length by simp [hl],zuw]
   refine Qz (s:=s) (v:= .bl (bs.any id)) I (fun b o e=>kp b o (fun z=> ?_) (z8 _ e)) rfl (k _ _ F H (Gr.refl sF) (by unfold Rep;rfl) h)
   rcases zV.mp z with rfl | z
   ·exact absurd (zJ e) (yZ _)
   ·cases z
 ·exact h.elim
def z6w:List D ->(D ->Prop) ->Prop:=fun ds P=>match ds with | [.lst xs]=>∃ns m,fV xs=some ns/\m∈ns/\ (∀i∈ns,i<=m)/\P (.int m) | _=>False
def z6x:List D ->(D ->Prop) ->Prop:=fun ds P=>match ds with | [.lst xs]=>∃ns m,fV xs=some ns/\m∈ns/\ (∀i∈ns,m<=i)/\P (.int m) | _=>False
end
def FJ:Slot ->Slot | .ow ds=> .pu (.lst ds) | .tr _ t=> .pu (toD t) | s=>s
def jw(Γ:G2):G2:=Γ.map FJ
def nu(Γ:G2)(σ:St)(b:Addr):Prop:=∃j,jc Γ σ j b
open Classical in
theorem zy1{K:W.Frag}{F0 H0 F H:Hp}{σ:St}{Γ:G2}(R:SR K F0 H0 F H σ Γ):∃F1,Same F F1/\SR K F1 H F1 H σ (jw Γ)/\ (∀b,F b=none ->¬nu Γ σ b ->F1 b=none)/\∀b,nu Γ σ b ->F b=none/\∃u,F1 b=some u/\LD u:=by
 let F1:Hp:=fun b=>if (F b).isSome then F b else if nu Γ σ b then H b else none
 have s1:Same F F1:=fun b u e=>by show(if _ then _ else _)=_;rw[if_pos (by rw[e];rfl)];exact e
 have s2:Same F1 H:=fun b u e=>by
  have e' :(if (F b).isSome then F b else if nu Γ σ b then H b else none)=some u:=e;split at e'
  ·exact R.g b u e'
  ·split at e'
   ·exact e'
   ·cases e'
 have at1:∀b u,F b=none ->nu Γ σ b ->H b=some u ->F1 b=some u:=fun b u h1 h2 h3=>by
  show(if (F b).isSome then F b else if nu Γ σ b then H b else none)=_;rw[if_neg (by rw[h1];exact Bool.false_ne_true),if_pos h2]
  exact h3
 have yM:∀(i:Nat) s o a,(jw Γ)[i]?=some s ->¬eN s o a:=fun i s o a e=>by
  unfold jw at e;rw[List.getElem?_map] at e;cases q:Γ[i]? with
  | none=>rw[q] at e;cases e
  | some t=>
   rw[q] at e;cases t<;>(cases e;exact fun h=>h)
 have own:∀b,nu Γ σ b ->F b=none/\∃u,F1 b=some u/\LD u:=fun b hb=>by
  obtain⟨j,s,o,e1,e2,hs⟩:=id hb;obtain⟨o',e3,r⟩:=R.sl j _ e1;rw[e2] at e3;cases e3;obtain⟨h1,_,u,h2,ld⟩:=uR r hs;exact⟨h1,u,at1 _ _ h1 hb h2,ld⟩
 refine⟨F1,s1,⟨Gr.refl s2,by rw[jw,List.length_map];exact R.len,fun i s e=> ?_,fun i j a ⟨s,o,e,_,h⟩=>absurd h (yM i s o a e)⟩,fun b hb hn=> ?_,own⟩
 ·unfold jw at e;rw[List.getElem?_map] at e;cases q:Γ[i]? with
  | none=>rw[q] at e;cases e
  | some sl=>
   rw[q] at e;obtain⟨o,e1,r⟩:=R.sl i sl q;refine⟨o,e1,?_⟩;have mine:∀b u,eN sl o b ->H b=some u ->F1 b=some u:=fun b u hb hu=>at1 b u (uR r hb).1 ⟨i,sl,o,q,e1,hb⟩ hu;cases sl with
   | no=>cases e;trivial
   | pu d=>cases e;obtain⟨v,rfl,rv⟩:=r;exact⟨v,rfl,rv.up s1⟩
   | ow ds=>
    cases e;obtain⟨a,vs,rfl,h1,h2,h3,rs⟩:=r;refine⟨.ref a,rfl,?_⟩;unfold Rep;exact⟨a,vs,rfl,.inl (.inl (mine a _ rfl h1)),rs.up s1⟩
   | tr as t=>
    cases e;obtain⟨v,rfl,nd,h1,rv⟩:=r;exact⟨v,rfl,TR.rep s1 t v as (fun a ha u hu=>mine a u ha hu) rv⟩
 ·show(if (F b).isSome then F b else if nu Γ σ b then H b else none)=none;rw[if_neg (by rw[hb];exact Bool.false_ne_true),if_neg hn]
theorem z0y{K:W.Frag}{F0 H0 F H:Hp}{σ:St}{Γ:G2}(R:SR K F0 H0 F H σ Γ):∃F1,Same F F1/\SR K F1 H F1 H σ (jw Γ):=by
 obtain⟨F1,s1,R1,_⟩:=zy1 R;exact⟨F1,s1,R1⟩
theorem zwa{K:W.Frag}{F0 H0 F H H' :Hp}{σ:St}{Γ:G2}(R:SR K F0 H0 F H σ Γ)(s:Same H H'):SR K F0 H0 F H' σ Γ:=by
 refine R.grow ⟨.refl _,fun b u e=>s b u (R.g b u e),s,fun b o e n=>by rw[e] at n;cases n⟩
def Yd:D ->Prop | .non=>True | .bl _=>True | .int _=>True | .str _=>True | _=>False
theorem z4d{K:W.Frag}{F F' :Hp}{d:D}{v:V}(h:Yd d)(r:Rep K F d v):Rep K F' d v:=by
 cases d with
 | non=>unfold Rep at r⊢;exact r
 | bl=>unfold Rep at r⊢;exact r
 | int=>unfold Rep at r⊢;exact r
 | str=>unfold Rep at r⊢;exact r
 | _=>exact h.elim
def tK(te:aH):aH:=fun Γ P _=>te (jw Γ) (fun d _=>Yd d/\P d Γ) j9
def yN(t:TT2):TT2:=fun Γ P _=>t (jw Γ) (fun b _=>P b Γ) j9
section
variable{X:Cx}{F0 H0:Hp}{e:Expr}{te:aH}{tt:TT2}
theorem zy6{E:XW}{F1 H1:Hp}(cx:Ctx X F0 H0 E):Ctx X F1 H1 j9:=
 ⟨fun _ _ _ _ _ _ _ _ _ _ h=>by obtain⟨_,_,_,_,_,_,_,_,_,_,_,_,_,_,_,_,h,_⟩:=h;exact h.elim,cx.po⟩
theorem z1g(h:∀F0 H0,QE X F0 H0 e te):QE X F0 H0 e (tK te):=fun z E cx=>by
 rintro pins s σ H Q I ⟨F,Γ,P,R,q,k⟩;obtain⟨F1,s1,R1⟩:=z0y R;exact h F1 H z j9 (zy6 cx) pins s σ H Q I ⟨F1,jw Γ,_,R1,q,fun d Γ' F' H' v R' s' r hp=>k d Γ F H' v (zwa R R'.gr.h) (.refl _) (z4d hp.1 r) hp.2⟩
def QD(i:Nat)(te:aH):aH:=fun Γ P E=>(∃xs,Γ[i]?=some (.ow xs))/\te Γ (fun k Γ1=>match k,Γ1[i]? with | .int k,some (.ow ds)=>∃d,jl ds k=some d/\P d Γ1 | _,_=>False) E
end
def QH(X:Cx)(id:String)(g:List D ->List D ->(List D ->Prop) ->Prop):Prop:=
 ∀(pins:bC) (s:Shared) (σ:St) (F H:Hp) (l:Addr) (vs args:List V) (xs ds:List D) (us:List Value) (P:List D ->Prop) (Q:VK),Inv X pins σ H s ->H l=some (.lst vs) ->Same F H ->ak X.K F xs vs ->ak X.K F ds args ->Vals args us ->g xs ds P ->
  (∀ys ws,ak X.K F ys ws ->P ys ->Q .non (upd H l (.lst ws))) ->wpAny (model X.prog X.w) X.A (call (.builtin id) (.ref l::us)) (EP X pins σ Q) X.xe s
def FN:List D ->List D ->(List D ->Prop) ->Prop:=fun xs ds P=>match ds with | [d]=>xs.length<sizeLine/\P (xs++ [d]) | _=>False
def QJ(xs:List D)(k:Nat)(d:D):List D:=xs.take k++d::xs.drop k
def zyq:List D ->List D ->(List D ->Prop) ->Prop:=fun xs ds P=>match ds with | [.int k,d]=>0<=k/\k<=xs.length/\xs.length<sizeLine/\P (QJ xs k.toNat d) | _=>False
def QK:List D ->List D ->(List D ->Prop) ->Prop:=fun xs ds P=>match ds with | [.lst ys]=>xs.length+ys.length<=sizeLine/\P (xs++ys) | _=>False
def z4l:List D ->List D ->(List D ->Prop) ->Prop:=fun xs ds P=>match ds with | []=>P xs.reverse | _=>False
def z6i:List D ->List D ->(List D ->Prop) ->Prop:=fun xs ds P=>match ds with | []=>P [] | _=>False
section
variable{X:Cx}
theorem Ye:QH X "list.append" FN:=by
 intro pins s σ F H l vs args xs ds us P Q I hl sF rs ra rv h k;unfold FN at h;split at h
 ·unfold ak ak at ra;obtain⟨v,_,rfl,rd,rfl⟩:=ra;exact Ws pins s σ H (.ref l) [v] (.ref l) us Q I rfl rv ⟨l,vs,v,rfl,rfl,hl,by rw[<- gj rs];exact h.1,k _ _ (Az rs (Jy rd)) h.2⟩
 ·exact h.elim
end
section
variable{X:Cx}{F0 H0:Hp}{x name:Str}{apos cpos npos pos:Pos}{e:Expr}{es:List Expr}{id:String}{i:Nat}{t:bh}{g:List D ->List D ->(List D ->Prop) ->Prop}
def FP(i:Nat)(g:List D ->List D ->(List D ->Prop) ->Prop)(t:bh):au:=fun D Γ E=>(∃xs,Γ[i]?=some (.ow xs))/\t Γ (fun ds Γ1=>match Γ1[i]? with | some (.ow xs)=>g xs ds fun ys=>D.nx (Γ1.set i (.ow ys)) | _=>False) E
theorem zze{z:W6}{σ:St}{F Fa H Ha:Hp}{Γ Γ1:G2}{xs:List D}{a:Addr}{D2:j6}{Dn:Ends}{vs args:List V}{ds:List D}(_R:SR X.K F0 H0 F H σ Γ)(R1:SR X.K F0 H0 Fa Ha σ Γ1)(s1:Same F Fa)(k:qP X.K F0 H0 F D2 Dn)(e1:σ[i]?=some (some (.ref a)))
  (q:match Γ1[i]? with | some (.ow xs)=>g xs ds fun ys=>D2.nx (Γ1.set i (.ow ys)) | _=>False):
  ∃vs xs P,Ha a=some (.lst vs)/\ak X.K Fa xs vs/\g xs ds P/\∀ys ws,ak X.K Fa ys ws ->P ys ->Dn.nx σ (upd Ha a (.lst ws)):=by
 split at q
 ·rename_i xs e;obtain⟨o,e2,a',vs,rfl,g1,g2,g3,r⟩:=R1.sl i _ e;rw[e1] at e2;cases e2;exact⟨vs,xs,_,g1,r,q,fun ys ws lV hp=>k.nx _ _ _ _ (R1.wr e e1 lV) s1 hp⟩
 ·exact q.elim
theorem QL(hr:∀z,QH (X.wsh z) id g)(slot:PySem.Slot "list" name id)(hty:typeOf (.builtin id)=pure (.type "method_descriptor"))(hN:X.N[i]?=some x)(hv:pF X.env.scope x)(ha:QA X F0 H0 (e::es) t)
  (hd:(x==("__debug__" :Str))=false:=by decide) (hcd:(x==("__classdict__" :Str))=false:=by decide)
  (hbase:attributeBase (.Name x npos) name X.env (eval (.Name x npos) X.env)=eval (.Name x npos) X.env:=by rfl)
  (hfew:((backTo cpos (starEach (e::es) X.env)).all (fun x=> !x.1)&&(backToKw cpos (keywordEach [] X.env)).all (fun x=>x.1.isSome)
   &&decide ((e::es).length+ ([]:List Keyword).length+ (if ([]:List Keyword).isEmpty then 0 else 1)<30))=true:=by rfl)
  (hline:(apos.endLine==cpos.line)=true:=by rfl) (hs:starEach (e::es) X.env=(false,eval e X.env)::starEach es X.env:=by rfl) (hplain:(backTo cpos (starEach es X.env)).any (·.1)=false:=by rfl)
  (hsw:swapsWith (.Call (.Attribute (.Name x npos) name apos) (e::es) [] cpos) none pos.line X.env=pure false:=by rfl):
  QS X F0 H0 (.Expr (.Call (.Attribute (.Name x npos) name apos) (e::es) [] cpos) pos) (FP i g t):=by
 intro z E cx;refine nW (z15 (X:=X.wsh z) (te:=fun σ H Q=>Dh i σ H fun v H1=>Jv X.K "list" v H1/\Es X.K F0 H0 t E σ H1 fun vs H2=>∃l xs ws F Pd ds,v= .ref l/\H2 l=some (.lst ws)/\Same F H2/\ak X.K F xs ws/\ak X.K F ds vs/\g xs ds Pd/\∀ys us,ak X.K F ys us ->Pd ys ->Q .non (upd H2 l (.lst us))) ?_ hsw) ?_
 ·refine z54 (X:=X.wsh z) (T:= "list") (id:=id) (r:=fun v vs H2 Q=>∃l xs ws F Pd ds,v= .ref l/\H2 l=some (.lst ws)/\Same F H2/\ak X.K F xs ws/\ak X.K F ds vs/\g xs ds Pd/\∀ys us,ak X.K F ys us ->Pd ys ->Q .non (upd H2 l (.lst us)))
   PySem.F.plainAttrs_list slot hty ?_ (rZ (X:=X.wsh z) (i:=i) hN hv hd hcd) (ha z E cx) hbase hfew hline hs hplain
  rintro pins s σ H x xs v us Q I rx rs ⟨l,ys,ws,Fz,Pd,ds,e1,h1,h2,h3,h4,h5,h6⟩;subst e1;cases rx;exact hr z pins s σ Fz H l ws xs ys ds us Pd Q I h1 h2 h3 h4 rs h5 h6
 ·rintro Dn σ H ⟨F,Γ,D2,R,⟨⟨xs,e0⟩,h⟩,k⟩;obtain⟨o,e1,a,vs,rfl,h1,h2,h3,r⟩:=R.sl i _ e0;refine⟨.ref a,e1,.inl ⟨rfl,vs,.inl (.inl h1)⟩,F,Γ,_,R,h,fun ds Γ1 F1 H1 us R1 s1 r1 q1=> ?_⟩;obtain⟨ws,ys,P,g1,g2,g3,g4⟩:=zze (z:=z) (vs:=vs) (args:=us) (xs:=xs) R R1 s1 k e1 q1;exact⟨a,ys,ws,F1,P,ds,rfl,g1,R1.g,g2,r1,g3,g4⟩
end
end L3
namespace L3
open PySem PySem.Spec PyProof.Rows L2
section
variable{X:Cx}{F0 H0:Hp}{st:Stmt}{i:Nat}{t:bh}
theorem FQ(h:QS X F0 H0 st (jG i t)):QS X F0 H0 st (aO i (dg t)):=fun z E cx=>
 nW (h z E cx) fun Dn σ H hq1=>by
  obtain⟨F,Γ,D2,R,q,k⟩:=hq1;have key:(fun(ds:List D) (Γ1:G2)=>(match (Γ1.set i (.ow ds))[i]? with | some (.ow ds')=>D2.nx ((Γ1.set i (.ow ds)).set i (.pu (.lst ds'))) | _=>D2.nx (Γ1.set i (.ow ds))))=fun ds Γ1=>D2.nx (Γ1.set i (.pu (.lst ds))):=by
   funext ds Γ1
   by_cases hi:i<Γ1.length
   ·rw[List.getElem?_set_self hi];dsimp only;rw[List.set_set]
   ·rw[List.getElem?_eq_none (by simpa using hi)]
    dsimp only;rw[List.set_eq_of_length_le (by omega),List.set_eq_of_length_le (by omega)]
  refine⟨F,Γ,{D2 with nx:=fun Γ' =>match Γ'[i]? with | some (.ow ds)=>D2.nx (Γ'.set i (.pu (.lst ds))) | _=>D2.nx Γ'},R,?_,⟨fun Γ' F' H' σ' R' s' q' => ?_,k.bk,k.ct,k.rt,k.rf,k.rT,k.rm⟩⟩
  ·show t Γ _ E;dsimp only;rw[key];exact q
  ·dsimp only at q';split at q'
   ·rename_i ds e;obtain⟨a,F2,_,s2,R2,_⟩:=R'.frz e;exact k.nx _ _ _ _ R2 (s'.trans s2) q'
   ·exact k.nx _ _ _ _ R' s' q'
end
def mC(t u:aH):bh:=fun Γ P E=>t Γ (fun d Γ1=>u Γ1 (fun d' Γ2=>match d,d' with | .lst xs,.lst ys=>xs.length+ys.length<=sizeLine/\P (xs++ys) Γ2 | _,_=>False) E) E
section
variable{X:Cx}{F0 H0:Hp}{a b c:Expr}{pos:Pos}{ta tb tc:aH}
theorem zw1{M:Program}{w:World}{A:Around}{E:bJ}{s:Shared}{l b:Addr}{vs ws:List Value}{Q:bJ}(hl:s.heap.IsList l vs.toArray)(hb:s.heap.IsList b ws.toArray)
  (h:Q (.ref s.heap.objs.size) {s with heap:=s.heap.push {cls:= .type "list",data:= .seq (vs++ws).toArray}}) (hsz:vs.length+ws.length<=sizeLine):wpAny (model M w) A (binaryOp .Add (.ref l) (.ref b)) Q E s:=by
 obtain⟨⟨cls,dd,data,sl⟩,ho,hc,n,hd⟩:=id hl;obtain⟨⟨cls2,dd2,data2,sl2⟩,ho2,hc2,n2,hd2⟩:=id hb;simp only at hc hd hc2 hd2;subst hc hd hc2 hd2;have e:vs.toArray++ws.toArray=(vs++ws).toArray:=by simp
 refine concat_meets ⟨_,ho,rfl⟩ ⟨_,ho2,rfl⟩ noFill_list_add seq_list_add PySem.F.slot_list_add PySem.F.entry_list_add (PySem.F.args_list_add_2 _ _) (list_addW l b vs.toArray ws.toArray n n2 dd dd2 sl sl2 (by simpa using hsz)) ⟨ho,ho2,?_⟩
 rw[e];exact h
theorem wL(ha:QE X F0 H0 a ta)(hb:QE X F0 H0 b tb):QF X F0 H0 (.BinOp a .Add b pos) (mC ta tb):=fun z E cx=>
 jt (V1 (X:=X.wsh z) (r:=fun x y H Q=>∃p q xs ys,x= .ref p/\y= .ref q/\fM X.K H p xs/\fM X.K H q ys/\xs.length+ys.length<=sizeLine/\∀l,H l=none ->Q (.ref l) (upd H l (.lst (xs++ys)))) (by
  rintro pins s σ H x y v u Q I rx ry ⟨p,q,xs,ys,e1,e2,h1,h2,hz,k⟩;subst e1 e2;cases rx;cases ry;obtain⟨its,r,pl,_⟩:=I.list h1;obtain⟨its2,r2,pl2,_⟩:=I.list h2;have l1:=r.length;have l2:=r2.length;refine zw1 pl.isList pl2.isList ?_ (by omega)
  exact⟨.ref _,_,I.lnew (t' :=s.toks) (r.append r2) (by rw[List.length_append];omega),rfl,k _ I.fresh⟩) (ha z E cx) (hb z E cx)) fun σ H Q hq2=>by obtain⟨F,Γ,P,R,h,k⟩:=hq2;exact⟨F,Γ,_,R,h,fun d1 Γ1 F1 H1 v1 R1 s1 r1 h1=>⟨F1,Γ1,_,R1,h1,fun d2 Γ2 F2 H2 v2 R2 s2 r2 h2=>by
   cases d1 with
   | lst xs=>
    cases d2 with
    | lst ys=>
     have r1' :=r1.up s2;unfold Rep at r1' r2;obtain⟨p,vs,rfl,hq,rs⟩:=r1';obtain⟨q,ws,rfl,hq2,Br⟩:=r2;refine⟨p,q,vs,ws,rfl,rfl,R2.g.seq hq,R2.g.seq hq2,by rw[<- gj rs,<- gj Br];exact h2.1,fun l hl=> ?_⟩
     have ra:=Az rs Br;obtain⟨R3,e1,e2,e3,ap⟩:=yD R2 hl ra;exact k _ Γ2 F2 _ l _ R3 (s1.trans s2) e1 e2 e3 ra ap h2.2
    | _=>exact False.elim h2
   | _=>exact False.elim h2⟩⟩
def tL:D ->Bool | .non=>true | .bl _=>true | .int _=>true | .str _=>true | _=>false
def J5:D ->D ->Bool
 | .non,.non=>true
 | .bl a,.bl b=>a==b
 | .bl a,.int b=>(if a then 1 else 0)==b
 | .int a,.bl b=>a==(if b then 1 else 0)
 | .int a,.int b=>a==b
 | .str a,.str b=>a==b
 | _,_=>false
def inD(x:D)(xs:List D):Bool:=xs.any fun y=>J5 y x
def rW(neg:Bool):D ->D ->(D ->Prop) ->Prop:=fun x y P=>match y with
 | .lst xs=>tL x=true/\xs.all tL=true/\P (.bl (if neg then !inD x xs else inD x xs))
 | .tup xs=>tL x=true/\xs.all tL=true/\P (.bl (if neg then !inD x xs else inD x xs))
 | _=>False
theorem yO{K:W.Frag}{F:Hp}{d:D}{v:V}(h:tL d=true)(r:Rep K F d v):iw v=true:=by
 cases d<;>first | (unfold Rep at r;subst r;rfl) | (exact absurd h zK)
theorem QM{K:W.Frag}{F:Hp}{d e:D}{v u:V}(h:tL d=true)(h' :tL e=true)(r:Rep K F d v)(r' :Rep K F e u):vq v u=J5 d e:=by
 cases d<;>first | (exact absurd h zK) | (unfold Rep at r;subst r;cases e<;>first | (exact absurd h' zK) | (unfold Rep at r';subst r';rfl))
theorem QV{K:W.Frag}{F:Hp}:∀{ds:List D} {vs:List V},ak K F ds vs ->ds.all tL=true ->vs.all iw=true
 | [],vs,r,_=>by unfold ak at r;subst r;rfl
 | d::ds,vs,r,h=>by
  unfold ak at r;obtain⟨v,us,rfl,r1,r2⟩:=r;rw[List.all_cons,Bool.and_eq_true] at h⊢;exact⟨yO h.1 r1,QV r2 h.2⟩
theorem yP{K:W.Frag}{F:Hp}{x:D}{u:V}(hx:tL x=true)(rx:Rep K F x u):∀{ds:List D} {vs:List V},ak K F ds vs ->ds.all tL=true ->inV u vs=inD x ds
 | [],vs,r,_=>by unfold ak at r;subst r;rfl
 | d::ds,vs,r,h=>by
  unfold ak at r;obtain⟨v,us,rfl,r1,r2⟩:=r;rw[List.all_cons,Bool.and_eq_true] at h;unfold inV inD;rw[List.any_cons,List.any_cons,QM h.1 hx r1 rx];have:=yP hx rx r2 h.2;unfold inV inD at this;rw[this]
theorem qY:iu X (compareOp .In) (nY X.K (rW false)):=by
 rintro pins s σ H x y v u Q I rx ry ⟨F,d1,d2,P,sF,r1,r2,h,k⟩;unfold rW at h;split at h
 ·unfold Rep at r2;obtain⟨p,vs,rfl,hq,rs⟩:=r2;obtain⟨h1,h2,h3⟩:=h;exact Wo pins s σ H x _ v u Q I rx ry ⟨p,vs,rfl,.inl (sF.seq hq),yO h1 r1,QV rs h2,k _ _ F H (Gr.refl sF) (by rw[yP h1 r1 rs h2];unfold Rep;rfl) h3⟩
 ·unfold Rep at r2;obtain⟨p,vs,rfl,hq,rs⟩:=r2;obtain⟨h1,h2,h3⟩:=h;exact Wo pins s σ H x _ v u Q I rx ry ⟨p,vs,rfl,.inr (jX sF hq),yO h1 r1,QV rs h2,k _ _ F H (Gr.refl sF) (by rw[yP h1 r1 rs h2];unfold Rep;rfl) h3⟩
 ·exact h.elim
def yQ(g g' :D ->D ->(D ->Prop) ->Prop)(ta tb tc:aH):aH:=fun Γ P E=>ta Γ (fun x Γ1=>tb Γ1 (fun y Γ2=>g x y fun r=>match r with
 | .bl k=>if k=true then tc Γ2 (fun w Γ3=>g' y w fun d=>P d Γ3) E else P (.bl false) Γ2
 | _=>False) E) E
end
section
variable{X:Cx}{F0 H0:Hp}{tg a b:Expr}{t:bh}{p pc:Pos}
def aaO(t:bh):bh:=fun Γ P E=>t Γ (fun ds Γ1=>match ds with | [.int j]=>(-(2^62)<=j/\j<2^62)/\j.toNat<=sizeLine/\P ((List.range j.toNat).map fun(k:Nat)=> .int (0+k)) Γ1 | _=>False) E
def aaP(t:bh):bh:=fun Γ P E=>t Γ (fun ds Γ1=>match ds with | [.int i,.int j]=>(-(2^62)<=i/\i<2^62/\ -(2^62)<=j/\j<2^62)/\ (j - i).toNat<=sizeLine/\P ((List.range (j - i).toNat).map fun(k:Nat)=> .int (i+k)) Γ1 | _=>False) E
end
def zxd(sc Fw:Scope):Scope:={sc with names:=sc.names.map fun(n,k)=>if (k== .free&&Fw.kind== .function&&Fw.names.lookup n==some .cell) then(n,.cell) else(n,k)}
section
variable{X:Cx}{F0 H0:Hp}{x:Str}{pos:Pos}{d:D}
def Glb(K:W.Frag)(mg:Str ->Option Value)(x:Str)(d:D):Prop:=∃v u,mg x=some u/\RelV v u/\∀F,Rep K F d v
end
structure aaQ (K:W.Frag) (x qual:Str) (st:Stmt) (f:Addr) (fd:FuncData) (dV:Value):Prop where
 ex:∃(oc:Value) (od:Option Addr) (kV doc pm:Value) (an:Option Addr) (cdv ct:Value) (osl:Array (Option Value)),
  fd=W.fnOf x qual (vC st) (sG st) (bL st) dV kV doc pm an cdv ct/\K.lookup f=some ⟨oc,od,.func fd,osl⟩/\W.codeIn K cdv qual=true
 kp:W.keepIn K (.ref f)=true
section
variable{P:Program}{w:World}{K:W.Frag}{mg:Str ->Option Value}{base:Heap}
structure aaR (P:Program) (w:World) (K:W.Frag) (mg:Str ->Option Value) (base:Heap) (x:Str) (k:Nat) (ps:List Str) (sp:cG):Prop where
 ex:∃f fd,d7 P w K mg base (gP P w) k f fd ps (jV K sp)/\mg x=some (.ref f)/\W.keepIn K (.ref f)=true/\Binds K fd ps []/\Binds K fd ps [.none]
end
def yR(sp:cG)(t:bh):aH:=fun Γ P E=>t Γ (fun ds Γ1=>sp (ds++ [.non]) (fun d=>P d Γ1) fun C=>E Γ1 C) E
section
variable{X:Cx}{F0 H0:Hp}{e:Expr}{es:List Expr}{pos p:Pos}{x:Str}{ps:List Str}{k:Nat}{sp:cG}{t:bh}
end
def VE(K:W.Frag)(C:Addr):Prop:=W.kitOne K (.ref C) (.type "ValueError")=some true
def QX(K:W.Frag)(ta:aH):aH:=fun Γ P E=>ta Γ (fun d Γ1=>match d with | .exc C0=>(sO K C0/\vI K C0/\VE K C0)/\P (.bl true) Γ1 | _=>False) E
def QZ(K:W.Frag)(Cs:List Addr)(ta:aH):aH:=fun Γ P E=>ta Γ (fun d Γ1=>match d with | .exc C0=>(sO K C0/\vI K C0)/\P (.bl (Cs.any fun C=>m8 K C0 C)) Γ1 | _=>False) E
def PCl(X:Cx)(es:List Expr)(Cs:List Addr):Prop:=∀z,PA (X.wsh z) es fun _ H Q=>Q (Cs.map V.ref) H
section
variable{X:Cx}{F0 H0:Hp}{a:Expr}{pos p pt:Pos}{ta:aH}{x:Str}{C:Addr}{es:List Expr}{Cs:List Addr}
end
theorem Q5{X:Cx}{pins:bC}{σ:St}{H:Hp}{s:Shared}{h' :Heap}{t' :Nat}{fp:List Addr}(I:Inv X pins σ H s)(k:∀b o,b∉fp ->s.heap.get? b=some o ->h'.get? b=some o)(hf:∀b∈fp,gb X pins H b):Inv X pins σ H {s with heap:=h',toks:=t'}:=by
 have Dg:∀b u,H b=some u ->b∉fp:=fun b u e z=>by rw[(hf b z).1] at e;cases e
 refine I.step (g' :=s.gens) (d' :=s.drawn) (ch:=fp) (fun b hb=> ?_) (fun b o _ _ hc e _=>k b o hc e) (fun b o _ _ hc e _=>⟨o.slots,k b o hc e⟩) (fun _ _ _ _ n=>n) (fun b o hc e=>⟨o,k b o hc e⟩) (fun _ _ e=>e) (fun _ _ _ e=>e) (fun b ps e=>⟨#[],by rw[e];simp⟩) (fun m hm=> ?_) (fun b u e=> ?_) I.bare
 ·obtain⟨f0,f1,f2,f3,f4,f5⟩:=hf b hb;exact⟨f3,f1,f4,f5⟩
 ·obtain⟨o,es,ep,ho,r⟩:=hm;exact⟨o,es,ep,k _ o (fun z=>(hf _ z).2.1 rfl) ho,r⟩
 ·refine(I.hok b u e).stay (fun c v hc q=>k c v ?_ q) (fun _ q=>q) fun _ _ q=>q;rcases hc with z | z
  ·rw[z];exact Dg b u e
  ·exact Dg c _ z
theorem Q6(h:gb X pins H b)(hb:b≠a):gb X pins (upd H a o) b:=⟨by rw[c7 hb];exact h.1,h.2⟩
theorem Yg{X:Cx}{pins:bC}{σ:St}{H:Hp}{s:Shared}{h' :Heap}{t' :Nat}{fp:List Addr}{xs:List V}{its:List Value}(I:Inv X pins σ H s)(k:∀b o,b∉fp ->s.heap.get? b=some o ->h'.get? b=some o)
  (hlt:∀b∈fp,b<s.heap.objs.size) (ht:h'.get? s.heap.objs.size=some {cls:= .type "tuple",data:= .seq its.toArray}) (hv:Vals xs its) (hz:xs.length<=sizeLine) (hf:∀b∈fp,gb X pins H b):
  Inv X pins σ (upd H s.heap.objs.size (.tup xs)) {s with heap:=h',toks:=t'}:=by
 have I1:Inv X pins σ (upd H s.heap.objs.size (.tup xs)) {s with heap:=s.heap.push {cls:= .type "tuple",data:= .seq its.toArray},toks:=s.toks}:=
  I.laid (t' :=s.toks) (fun b o e=>z8 _ e) (zO _) (show aU X.prog X.w _ _ _ (.tup xs) from ⟨hz,its,hv,IsTup.new _ _⟩)
 refine Q5 (s:={s with heap:=s.heap.push {cls:= .type "tuple",data:= .seq its.toArray},toks:=s.toks}) (fp:=fp) I1 (fun b o hb e=> ?_) fun b hb=>Q6 (hf b hb) (zL (hlt b hb));rcases Heap.get?_push_cases e with ⟨rfl,rfl⟩ | e
 ·exact ht
 ·exact k b o hb e
def Ite(K:W.Frag)(a:Addr):It:=
 ⟨fun i H=>∃xs x,fM K H a xs/\xs[i]?=some x,fun i H x H' =>∃b v,x= .ref b/\H b=none/\H' =upd H b (.tup [.int i,v])/\∀xs,fM K H a xs ->xs[i]?=some v,fun i H=>∃xs,fM K H a xs/\xs.length<=i⟩
theorem zuc{P:Program}{w:World}{K:W.Frag}{elts:List Expr}{x1}{pos:Pos}(a e it:Addr)(hne:e≠it):Turn P w K (.Tuple elts x1 pos) (Ite K a) [e,it] e (fun i h=>(∃old,IsEnum h e it (i:Int) old)/\h.IsListIter it a i) where
 mem:=by simp
 obj:=fun i h q b hb=>by
  obtain⟨⟨old,q⟩,st⟩:=q;rcases zV.mp hb with rfl | hb
  ·exact⟨_,q,fun v z=>by cases z⟩
  ·obtain rfl:b=it:=by simpa using hb
   obtain⟨o,e,c,d⟩:=st;exact⟨o,e,fun v z=>by rw[d] at z;cases z⟩
 keep:=fun i h h' q k=>by
  obtain⟨⟨old,q⟩,st⟩:=q;exact⟨⟨old,k e (by simp) _ q⟩,st.at fun o z=>k it (by simp) o z⟩
 item:=by
  intro X hP hw hK hc i pins s σ H E I hf q hg;obtain⟨⟨old,q⟩,st⟩:=q;subst hP hw hK;obtain⟨xs,x,hq,hx⟩:=hg;obtain⟨its,rv,p,hz⟩:=I.list hq;obtain⟨u,hu,ru⟩:=rv.get hx;have el:e<s.heap.objs.size:=zJ q;have il:it<s.heap.objs.size:=by obtain⟨o,z,_⟩:=st;exact zJ z
  refine wpAny_pyNext_enum_item q st p.isList (x:=u) (by simpa using hu) hne fun h1 eo st1 ht hs1 k1=> ?_
  refine⟨_,rfl,wpAny_letOwnedTupleGo_enum eo fun h2 e2 sb=> ?_⟩;have uW:Heap.SameBut e h1 h2:=sb;have I2:Inv X pins σ (upd H s.heap.objs.size (.tup [.int i,x])) {s with heap:=h2,toks:=s.toks+1}:=
   Yg (fp:= [e,it]) (its:= [.int i s.toks,u]) I (fun b o hb z=>uW.extBut b o (fun y=>hb (by simp [y])) (k1 b o (fun y=>hb (by simp [y])) (fun y=>hb (by simp [y])) z))
    (fun b hb=>by
     rcases zV.mp hb with rfl | hb
     ·exact el
     ·obtain rfl:b=it:=by simpa using hb
      exact il)
    ((uW.2 _ (Nat.ne_of_gt el)).trans ht) (.cons ⟨_,rfl⟩ (.cons ru .nil)) (by show(2:Nat)<=sizeLine;decide) hf
  refine⟨.ref s.heap.objs.size,_,I2,rfl,⟨_,x,rfl,I.fresh,rfl,fun ys hy=>by rw[I.list_inj hy hq];exact hx⟩,⟨⟨u,?_⟩,(st1.extBut uW.extBut (Ne.symm hne))⟩,fun b hb=> ?_⟩
  ·have:((i+1:Nat):Int)=(i:Int)+1:=by omega
   rw[this];exact e2
  ·refine(Q6 (hf b hb) ?_).1;rcases zV.mp hb with rfl | hb
   ·exact zL el
   ·obtain rfl:b=it:=by simpa using hb
    exact zL il
 done:=by
  intro X hP hw hK hc i pins s σ H E I hf q hg;obtain⟨⟨old,q⟩,st⟩:=q;subst hP hw hK;obtain⟨xs,hq,hx⟩:=hg;obtain⟨its,rv,p,hz⟩:=I.list hq;have hl:=rv.length;exact wpAny_pyNext_enum_end (I.ok.hd hc) q st p.isList (by simp;omega) fun h' eb=>⟨rfl,Q5 (t' :=s.toks) (fp:= [e,it]) I (fun b o hb z=>eb b o (fun y=>hb (by simp [y])) z) hf⟩
 self:=fun _ _ _ _ _ q h=>by
  obtain⟨⟨old,q⟩,st⟩:=q;exact wpAny_pyIter_enum q h
theorem zjf:bootBuiltins "enumerate" =some (.type "enumerate"):=by decide+kernel
def FT(K:W.Frag)(ta:TA):TI:=fun σ H R=>ta σ H fun vs H1=>∃a xs,vs= [.ref a]/\fM K H1 a xs/\ (xs.length<=sizeLine ->R (Ite K a) H1)
theorem z2s{X:Cx}{a:Expr}{ta:TA}{p pos:Pos}{elts:List Expr}{x1}{pt:Pos}(hg:Gl X "enumerate")(hm:X.mg "enumerate" =none)(ha:PA X [a] ta)(hs:starEach [a] X.env=(false,eval a X.env)::starEach [] X.env:=by rfl):
  PI X (.Tuple elts x1 pt) (.Call (.Name "enumerate" p) [a] [] pos) (FT X.K ta):=by
 intro pins s σ H R I h;refine Call_ (vh I hg hm zjf (PyProof.Rows.callWith_type1 (bK (ha pos pins s σ H _ I h) fun us s1 ⟨vs,H1,I1,r1,q1⟩=> ?_) hs rfl));obtain⟨l,xs,rfl,hq,q⟩:=q1;obtain⟨u,rfl,rx⟩:=vals1 r1;cases rx;obtain⟨its,rv,pl,hz⟩:=I1.list hq;refine call_enumerate_list pl.isList fun h' e1 st hsz kp=> ?_;refine wpAny_pyIter_enum (i:=0) e1 ⟨s1.heap.objs.size+1,[s1.heap.objs.size+1,s1.heap.objs.size],_,_,H1,rfl,I1.kept (t' :=s1.toks) kp,zuc l _ _ (Nat.ne_of_gt (Nat.lt_succ_self _)),⟨⟨_,e1⟩,st⟩,fun b hb=> ?_,q hz⟩;have hb2:s1.heap.objs.size<=b:=by
  rcases zV.mp hb with rfl | hb
  ·exact Nat.le_succ _
  ·obtain rfl:b=s1.heap.objs.size:=by simpa using hb
   exact zO _
 exact I1.fpOk hb2 (I1.hok.fresh hb2)
def uX:Nat ->List D ->List D
 | _,[]=> []
 | k,x::r=> .tup [.int k,x]::uX (k+1) r
theorem Q7:∀(k:Nat) (xs:List D),(uX k xs).length=xs.length
 | _,[]=>rfl
 | k,x::r=>by show(uX (k+1) r).length+1=r.length+1;rw[Q7]
theorem Q8:∀(k:Nat) (xs:List D) (i:Nat),(uX k xs)[i]?=(xs[i]?).map fun d=> .tup [.int (k+i:Nat),d]
 | _,[],_=>rfl
 | k,x::r,0=>rfl
 | k,x::r,i+1=>by
  show(uX (k+1) r)[i]?=_;rw[Q8 (k+1) r i,show k+1+i=k+ (i+1) by omega]
  rfl
def FW(t:bh):bh:=fun Γ P E=>t Γ (fun ds Γ1=>match ds with | [.lst xs]=>P (uX 0 xs) Γ1 | _=>False) E
theorem zyj{K:W.Frag}{F:Hp}{a:Addr}{vs:List V}{xs:List D}(hq:fM K F a vs)(rs:ak K F xs vs)(hz:vs.length<=sizeLine):yL K F Bj (Ite K a) (uX 0 xs):=by
 have hl:=gj rs;refine⟨by rw[Q7];omega,fun i H2 F2 s2 s3 _=>⟨fun e=>⟨vs,s3.seq (s2.seq hq),by rw[e,Q7];omega⟩,fun d hd=> ?_⟩⟩
 rw[Q8] at hd;cases hx:xs[i]? with
 | none=>rw[hx] at hd;cases hd
 | some x=>
  rw[hx] at hd;cases hd;obtain⟨v,hv,rv⟩:=oA rs hx;refine⟨⟨vs,v,s3.seq (s2.seq hq),hv⟩,fun y H' z=> ?_⟩;obtain⟨b,v2,rfl,hb,rfl,z⟩:=z;have:=z vs (s3.seq (s2.seq hq));rw[hv] at this;cases this;have gr:=Gr.laid (o:=HO.tup [.int i,v]) s3 hb;refine⟨_,gr,?_⟩;unfold Rep;refine⟨b,_,rfl,.inl (.inl lW),pI ?_ (pI ((rv.up s2).up gr.f) (by unfold ak;rfl))⟩
  unfold Rep;simp
section
variable{X:Cx}{F0 H0:Hp}{a b e tg:Expr}{es:List Expr}{pos p pt:Pos}{te:aH}{t:bh}{g:jH}{tb:au}{elts:List Expr}
theorem Yh{x1}(hc:X.calm=true)(hg:Gl X "enumerate")(hm:X.mg "enumerate" =none)(ha:QA X F0 H0 [a] t)(hs:starEach [a] X.env=(false,eval a X.env)::starEach [] X.env:=by rfl):
  QI X F0 H0 (.Tuple elts x1 pt) (.Call (.Name "enumerate" p) [a] [] pos) (FW t):=fun z E cx=>Fq (z2s (X:=X.wsh z) hg hm (ha z E cx) hs) fun σ H R hq2=>by obtain⟨F,Γ,P,S,q,k⟩:=hq2;exact⟨F,Γ,_,S,q,fun ds Γ1 F1 H1 vs R1 s1 r1 h1=>by
  unfold FW at*;split at h1
  ·unfold ak ak Rep at r1;obtain⟨v,_,rfl,⟨l,us,rfl,hq,rs⟩,rfl⟩:=r1;exact⟨l,us,rfl,R1.g.seq hq,fun hz=>k _ Γ1 F1 H1 _ R1 s1 (zyj hq rs hz) h1⟩
  ·exact h1.elim⟩
end
def FZ:List D ->(D ->Prop) ->Prop:=fun ds P=>match ds with | [.bl b]=>P (.int (if b then 1 else 0)) | [.int i]=>P (.int i) | _=>False
theorem Yi:cH X (.type "int") (m9 X.K FZ):=by
 rintro pins s σ H xs us Q I r ⟨F,ds,P,sF,rs,h,k⟩;unfold FZ at h;split at h
 ·unfold ak ak Rep at rs;obtain⟨v,_,rfl,rfl,rfl⟩:=rs;obtain⟨u,rfl,rx⟩:=vals1 r;cases rx;exact call_int_bool ⟨.int _,H,I.tok _,⟨_,rfl⟩,k _ _ F H (Gr.refl sF) (by unfold Rep;rfl) h⟩
 ·unfold ak ak Rep at rs;obtain⟨v,_,rfl,rfl,rfl⟩:=rs;obtain⟨u,rfl,rx⟩:=vals1 r;obtain⟨t,rfl⟩:=rx;exact call_int_int ⟨.int _,H,I,⟨_,rfl⟩,k _ _ F H (Gr.refl sF) (by unfold Rep;rfl) h⟩
 ·exact h.elim
def zx0:List D ->(List D ->Prop) ->Prop:=fun ds P=>match ds with | [.lst xs]=>∃ns,fV xs=some ns/\ns.length<64/\∀ms:List Int,ms.Perm ns ->ms.Pairwise (· <= ·) ->P (ms.map .int) | _=>False
section
variable{prog:Program}{w:World}{A:Around}{E:bJ}{s:Shared}
def cY(t:Bool)(h:Heap)(it l:Addr)(i:Nat):Prop:=match t with | false=>h.IsListIter it l i | true=>h.IsTupleIter it l i
def dh(t:Bool)(h:Heap)(l:Addr)(xs:Array Value):Prop:=match t with | false=>h.IsList l xs | true=>h.IsTuple l xs
theorem wM(x:cY t h it l i)(k:∀o,h.get? it=some o ->h'.get? it=some o):cY t h' it l i:=by
 cases t<;>exact let ⟨o,ho,r⟩:=x;⟨o,k o ho,r⟩
theorem Q9(x:dh t h l xs)(k:∀o,h.get? l=some o ->h'.get? l=some o):dh t h' l xs:=by
 cases t<;>exact let ⟨o,ho,r⟩:=x;⟨o,k o ho,r⟩
theorem J6(x:cY t h it l i):∃o,h.get? it=some o/\∀v,o.data≠ .cell v:=by
 cases t<;>exact let ⟨o,ho,_,d⟩:=x;⟨o,ho,fun v z=>by rw[d] at z;cases z⟩
theorem Ga(hl:dh t s.heap l xs)
  (hQ:Q (.ref s.heap.objs.size) {s with heap:=s.heap.push {cls:= .type (if t then "tuple_iterator" else "list_iterator"),data:= .fields #[.ref l,.int 0 0]}}):wpAny (model prog w) A (pyIter (.ref l)) Q E s:=by
 cases t
 ·exact wpAny_pyIter_list hl hQ
 ·exact wpAny_pyIter_tuple hl hQ
theorem Ra(hit:cY t s.heap it l i)(hl:dh t s.heap l xs)(hx:xs[i]?=some x)
  (hQ:∀h',cY t h' it l (i+1) ->Heap.SameBut it s.heap h' ->Q x {s with heap:=h'}):wpAny (model prog w) A (Builtin.SmallTypes.nextOf (.ref it)) Q E s:=by
 cases t
 ·exact wpAny_nextOf_list_item hit hl hx hQ
 ·have hit2:s.heap.IsTupleIter it l i:=hit;obtain⟨o,ho,hc,hd⟩:=id hit2;obtain⟨ol,hol,_,nl,hdl⟩:=(show s.heap.IsTuple l xs from hl);unfold Builtin.SmallTypes.nextOf;refine z6 (wpAny_callSpecial?_slot (name:=Str.ofString "__next__") hit2.typeIs F.slot_tuple_iterator_next (wpAny_call_entry F.slot_tuple_iterator_next hit2.typeIs F.entry_tuple_iterator_next ?_ (F.args_tuple_iterator_next_1 _)));show wpAny _ _ (field (.ref it) 0>>=_) _ _ s;refine z6 (wpAny_field ho hd (x:= .ref l) rfl ?_);show wpAny _ _ (if (Value.ref l==Value.none)=true then _ else _) _ _ s;rw[if_neg (show¬((Value.ref l==Value.none)=true) from Bool.false_ne_true)];show wpAny _ _ (field (.ref it) 1>>=_) _ _ s;refine z6 (wpAny_field ho hd (x:= .int i 0) rfl ?_);show wpAny _ _ (seqItems? (.ref l)>>=_) _ _ s;refine z6 (wpAny_seqItems hol hdl ?_);simp only [Int.toNat_natCast,hx];refine z6 (wpAny_setField ho hd (by simp) (z7 ⟨x,rfl,z7 (hQ _ ?_ (Heap.SameBut.update ..))⟩))
  exact⟨_,Heap.get?_update_self _ ho (Obj.isFreed_of_fields (Obj.data_mapFields hd _)),(Obj.cls_mapFields ..).trans hc,by rw[Obj.data_mapFields hd];simp [rawInt]⟩
theorem Yj(hh:A.handled=none)(hit:cY t s.heap it l i)(hl:dh t s.heap l xs)(hx:xs[i]?=none)
  (hE:∀h' e,Heap.ExtBut it s.heap h' ->(∃o,h'.get? e=some o/\o.cls= .type "StopIteration") ->E (.ref e) {s with heap:=h'}):wpAny (model prog w) A (Builtin.SmallTypes.nextOf (.ref it)) Q E s:=by
 cases t
 ·exact wpAny_nextOf_list_end hh hit hl hx hE
 ·have hit2:s.heap.IsTupleIter it l i:=hit;obtain⟨o,ho,hc,hd⟩:=id hit2;obtain⟨ol,hol,_,nl,hdl⟩:=(show s.heap.IsTuple l xs from hl);unfold Builtin.SmallTypes.nextOf;refine z6 (wpAny_callSpecial?_slot (name:=Str.ofString "__next__") hit2.typeIs F.slot_tuple_iterator_next (wpAny_call_entry F.slot_tuple_iterator_next hit2.typeIs F.entry_tuple_iterator_next ?_ (F.args_tuple_iterator_next_1 _)));show wpAny _ _ (field (.ref it) 0>>=_) _ _ s;refine z6 (wpAny_field ho hd (x:= .ref l) rfl ?_);show wpAny _ _ (if (Value.ref l==Value.none)=true then _ else _) _ _ s;rw[if_neg (show¬((Value.ref l==Value.none)=true) from Bool.false_ne_true)];show wpAny _ _ (field (.ref it) 1>>=_) _ _ s;refine z6 (wpAny_field ho hd (x:= .int i 0) rfl ?_);show wpAny _ _ (seqItems? (.ref l)>>=_) _ _ s;refine z6 (wpAny_seqItems hol hdl ?_);simp only [Int.toNat_natCast,hx];refine z6 (wpAny_rule (z6 (wpAny_setField ho hd (by simp) ?_)))
  show wpAny _ _ (newExc (.type "StopIteration") []>>=_) _ _ _;refine z6 ?_;simp only [newExc,newTuple];refine z6 (wpAny_newObj_type ?_ (by size_fits))
  refine z6 (m:=firstArgMember _ _) (wpAny_of_eq (a:=Value.none) (by first | rfl | (simp only [firstArgMember];rfl)) ?_)
  refine wpAny_newObj_type ?_ (by size_fits)
  simp only [raiseNew];refine z6 (wpAny_handled ?_)
  first | rw[show A.in1.handled=none from hh] | rw[hh]
  refine z6 (z7 (wpAny_throw ?_));exact hE _ _ (((Heap.SameBut.update ..).extBut.push _).push _) ⟨_,z9 _ rfl,rfl⟩
structure nA (z TI TO i1 i2 l1 l2:Addr):Prop where
 p:TI≠z/\TO≠z/\i1≠z/\i2≠z/\TI≠TO/\TI≠i1/\TI≠i2/\TO≠i1/\TO≠i2/\i1≠i2
 q:l1≠z/\l1≠TO/\l1≠i1/\l1≠i2/\l2≠z/\l2≠TO/\l2≠i1/\l2≠i2
theorem nA.k{z TI TO i1 i2 l1 l2:Addr}(D:nA z TI TO i1 i2 l1 l2):ZipApart z TI TO i1 i2 l1 l2:=by
 obtain⟨⟨a1,a2,a3,a4,a5,a6,a7,a8,a9,a10⟩,b1,b2,b3,b4,b5,b6,b7,b8⟩:=D;exact⟨a1,a2,a3,a4,a5,a6,a7,a8,a9,a10,b1,b2,b3,b4,b5,b6,b7,b8⟩
theorem zti{t1 t2:Bool}{z TI TO i1 i2 l1 l2:Addr}{k1 k2:Nat}{xs ys:Array Value}{x y a b:Value}{Q:bJ}(D:ZipApart z TI TO i1 i2 l1 l2)(hz:IsZip s.heap z TI TO .none)(hTI:IsPair s.heap TI (.ref i1) (.ref i2))(hTO:IsPair s.heap TO a b)
  (h1:cY t1 s.heap i1 l1 k1) (h2:cY t2 s.heap i2 l2 k2) (hl1:dh t1 s.heap l1 xs) (hl2:dh t2 s.heap l2 ys) (hx:xs[k1]?=some x) (hy:ys[k2]?=some y)
  (hQ:∀h',IsZip h' z TI TO (rawInt s.heap.objs.size) ->IsPair h' TO x y ->cY t1 h' i1 l1 (k1+1) ->cY t2 h' i2 l2 (k2+1) ->IsPair h' s.heap.objs.size x y ->h'.objs.size=s.heap.objs.size+1 ->
   (∀c o,c≠z ->c≠TO ->c≠i1 ->c≠i2 ->s.heap.get? c=some o ->h'.get? c=some o) ->Q (.ref s.heap.objs.size) {s with heap:=h'}):wpAny (model prog w) A (Builtin.«zip.__next__» ⟨[.ref z],[]⟩) (fun fin s' =>∃v,fin= .done (.ret v)/\Q v s') E s:=by
 have kI:∀{t:Bool} {h h' :Heap} {it l c:Addr} {i:Nat},cY t h it l i ->Heap.ExtBut c h h' ->it≠c ->cY t h' it l i:=fun x e n=>wM x fun o ho=>e _ o n ho;have kS:∀{t:Bool} {h h' :Heap} {l c:Addr} {ws:Array Value},dh t h l ws ->Heap.ExtBut c h h' ->l≠c ->dh t h' l ws:=fun x e n=>Q9 x fun o ho=>e _ o n ho;show wpAny _ _ (field (.ref z) 2>>=_) _ _ _;refine z6 (wpAny_field hz rfl (x:= .bool false) rfl ?_);show wpAny _ _ (field (.ref z) 3>>=_) _ _ _;refine z6 (wpAny_field hz rfl (x:= .ref TI) rfl ?_);refine z6 (wpAny_seqItems hTI rfl ?_);show wpAny _ _ (Builtin.SmallTypes.ownedTupleIsFree (.ref z)>>=_) _ _ _;refine z6 ?_;unfold Builtin.SmallTypes.ownedTupleIsFree;refine z6 (wpAny_field hz rfl (x:= .none) rfl (z7 ?_));simp only [if_true];refine z6 (wpAny_rule ?_);refine z6 (wpAny_field hz rfl (x:= .ref TO) rfl ?_);refine z6 (wpAny_setField_rec hz (by simp) fun g1 hz1 hs1=> ?_)
 replace hz1:IsZip g1 z TI TO .ellipsis:=hz1;refine z6 ?_;simp only [List.zipIdx_cons,List.zipIdx_nil,List.forIn_cons,List.forIn_nil];refine z6 (z6 (wpAny_onRaise ?_));show wpAny _ _ (Builtin.SmallTypes.nextOf (.ref i1)>>=_) _ _ _;refine z6 (Ra (kI h1 hs1.extBut D.i1z) (kS hl1 hs1.extBut D.l1z) hx fun g2 q1 hs2=>z7 ?_);have Gb :IsPair g2 TO a b:=hs2.extBut _ _ D.TOi1 (hs1.extBut _ _ D.TOz hTO);refine z6 (wpAny_seqItems Gb rfl ?_);refine z6 (wpAny_updateSeq_pair Gb fun g3 t3 hs3=> ?_);replace t3:IsPair g3 TO x b:=t3;refine z6 (wpAny_letGo (z7 ?_));refine z6 (z6 (wpAny_onRaise ?_));show wpAny _ _ (Builtin.SmallTypes.nextOf (.ref i2)>>=_) _ _ _;refine z6 (Ra (kI (kI (kI h2 hs1.extBut D.i2z) hs2.extBut D.i12.symm) hs3.extBut D.TOi2.symm) (kS (kS (kS hl2 hs1.extBut D.l2z) hs2.extBut D.l2i1) hs3.extBut D.l2TO) hy fun g4 q2 wN=>z7 ?_);have t4:IsPair g4 TO x b:=wN.extBut _ _ D.TOi2 t3;refine z6 (wpAny_seqItems t4 rfl ?_);refine z6 (wpAny_updateSeq_pair t4 fun g5 t5 wO=> ?_);replace t5:IsPair g5 TO x y:=t5;refine z6 (wpAny_letGo (z7 (z7 ?_)));refine z6 (wpAny_seqItems t5 rfl ?_);refine z6 (wpAny_newTuple ?_);have hsz:g5.objs.size=s.heap.objs.size:=by rw[wO.1,wN.1,hs3.1,hs2.1,hs1.1]
 have Qp:IsZip g5 z TI TO .ellipsis:=wO.extBut _ _ D.TOz.symm (wN.extBut _ _ D.i2z.symm (hs3.extBut _ _ D.TOz.symm (hs2.extBut _ _ D.i1z.symm hz1)));have hk5:∀c o,c≠z ->c≠TO ->c≠i1 ->c≠i2 ->s.heap.get? c=some o ->g5.get? c=some o:=fun c o c1 c2 c3 c4 e=>wO.extBut _ _ c2 (wN.extBut _ _ c4 (hs3.extBut _ _ c2 (hs2.extBut _ _ c3 (hs1.extBut _ _ c1 e))));have r1:cY t1 g5 i1 l1 (k1+1):=kI (kI (kI q1 hs3.extBut D.TOi1.symm) wN.extBut D.i12) wO.extBut D.TOi1.symm;have r2:cY t2 g5 i2 l2 (k2+1):=kI q2 wO.extBut D.TOi2.symm;have Yk:z<g5.objs.size:=zJ Qp;show wpAny _ _ (Builtin.SmallTypes.ownedTupleHandOut (.ref z) (.ref g5.objs.size)>>=_) _ _ _;refine z6 ?_;unfold Builtin.SmallTypes.ownedTupleHandOut;have hz6:IsZip (g5.push {cls:= .type "tuple",data:= .seq #[x,y]}) z TI TO .ellipsis:=z8 _ Qp;refine z6 (wpAny_setField_rec hz6 (by simp) fun g7 Rb Rf=> ?_)
 replace Rb:IsZip g7 z TI TO (rawInt g5.objs.size):=Rb;refine wpAny_setField_rec Rb (by simp) fun g8 hz8 Rg=> ?_
 replace hz8:IsZip g8 z TI TO (rawInt g5.objs.size):=hz8;have up:∀c o,c≠z ->g5.get? c=some o ->g8.get? c=some o:=fun c o c1 e=>Rg.extBut _ _ c1 (Rf.extBut _ _ c1 (z8 _ e));have hT8:IsPair g8 g5.objs.size x y:=Rg.extBut _ _ (Nat.ne_of_gt Yk) (Rf.extBut _ _ (Nat.ne_of_gt Yk) (z9 _ rfl));have Yl:g8.objs.size=g5.objs.size+1:=by rw[Rg.1,Rf.1,Heap.size_push]
 rw[hsz] at hz8 hT8 Yl;refine z7 ⟨_,rfl,?_⟩;show Q (.ref g5.objs.size) _;rw[hsz];exact hQ g8 hz8 (up _ _ D.TOz t5) (wM r1 fun o e=>up _ o D.i1z e) (wM r2 fun o e=>up _ o D.i2z e) hT8 Yl fun c o c1 c2 c3 c4 e=>up c o c1 (hk5 c o c1 c2 c3 c4 e)
theorem zxx{t1 t2:Bool}{z TI TO i1 i2 l1 l2:Addr}{k1 k2:Nat}{xs ys:Array Value}{a b:Value}{Q:Fin ->Shared ->Prop}(hh:A.handled=none)(D:ZipApart z TI TO i1 i2 l1 l2)(hz:IsZip s.heap z TI TO .none)(hTI:IsPair s.heap TI (.ref i1) (.ref i2))(hTO:IsPair s.heap TO a b)
  (h1:cY t1 s.heap i1 l1 k1) (h2:cY t2 s.heap i2 l2 k2) (hl1:dh t1 s.heap l1 xs) (hl2:dh t2 s.heap l2 ys) (hend:xs[k1]?=none\/ys[k2]?=none)
  (hE:∀h' e,(∀c o,c≠z ->c≠TO ->c≠i1 ->c≠i2 ->s.heap.get? c=some o ->h'.get? c=some o) ->(∃o,h'.get? e=some o/\o.cls= .type "StopIteration") ->E (.ref e) {s with heap:=h'}):wpAny (model prog w) A (Builtin.«zip.__next__» ⟨[.ref z],[]⟩) Q E s:=by
 have kI:∀{t:Bool} {h h' :Heap} {it l c:Addr} {i:Nat},cY t h it l i ->Heap.ExtBut c h h' ->it≠c ->cY t h' it l i:=fun x e n=>wM x fun o ho=>e _ o n ho;have kS:∀{t:Bool} {h h' :Heap} {l c:Addr} {ws:Array Value},dh t h l ws ->Heap.ExtBut c h h' ->l≠c ->dh t h' l ws:=fun x e n=>Q9 x fun o ho=>e _ o n ho;show wpAny _ _ (field (.ref z) 2>>=_) _ _ _;refine z6 (wpAny_field hz rfl (x:= .bool false) rfl ?_);show wpAny _ _ (field (.ref z) 3>>=_) _ _ _;refine z6 (wpAny_field hz rfl (x:= .ref TI) rfl ?_);refine z6 (wpAny_seqItems hTI rfl ?_);show wpAny _ _ (Builtin.SmallTypes.ownedTupleIsFree (.ref z)>>=_) _ _ _;refine z6 ?_;unfold Builtin.SmallTypes.ownedTupleIsFree;refine z6 (wpAny_field hz rfl (x:= .none) rfl (z7 ?_));simp only [if_true];refine z6 (wpAny_rule ?_);refine z6 (wpAny_field hz rfl (x:= .ref TO) rfl ?_);refine z6 (wpAny_setField_rec hz (by simp) fun g1 hz1 hs1=> ?_)
 replace hz1:IsZip g1 z TI TO .ellipsis:=hz1;refine z6 ?_;simp only [List.zipIdx_cons,List.zipIdx_nil,List.forIn_cons,List.forIn_nil];refine z6 (z6 (wpAny_onRaise ?_));show wpAny _ _ (Builtin.SmallTypes.nextOf (.ref i1)>>=_) _ _ _;cases hx:xs[k1]? with
 | none=>
  refine z6 (Yj hh (kI h1 hs1.extBut D.i1z) (kS hl1 hs1.extBut D.l1z) hx fun g2 e hs2 he=> ?_);obtain⟨oe,hoe,hce⟩:=he;have hz2:IsZip g2 z TI TO .ellipsis:=hs2 _ _ D.i1z.symm hz1;have hez:e≠z:=fun x=>by subst x;rw[hz2] at hoe;cases hoe;simp at hce
  exact wpAny_setField_rec hz2 (by simp) fun g3 _ hs3=>hE g3 e (fun c o c1 _ c3 _ x=>hs3.extBut _ _ c1 (hs2 _ _ c3 (hs1.extBut _ _ c1 x))) ⟨oe,hs3.extBut _ _ hez hoe,hce⟩
 | some x=>
  have hy:ys[k2]?=none:=by rcases hend with h | h;rw[hx] at h;cases h;exact h
  refine z6 (Ra (kI h1 hs1.extBut D.i1z) (kS hl1 hs1.extBut D.l1z) hx fun g2 q1 hs2=>z7 ?_);have Gb :IsPair g2 TO a b:=hs2.extBut _ _ D.TOi1 (hs1.extBut _ _ D.TOz hTO);refine z6 (wpAny_seqItems Gb rfl ?_);refine z6 (wpAny_updateSeq_pair Gb fun g3 t3 hs3=> ?_);refine z6 (wpAny_letGo (z7 ?_));refine z6 (z6 (wpAny_onRaise ?_));show wpAny _ _ (Builtin.SmallTypes.nextOf (.ref i2)>>=_) _ _ _;refine z6 (Yj hh (kI (kI (kI h2 hs1.extBut D.i2z) hs2.extBut D.i12.symm) hs3.extBut D.TOi2.symm) (kS (kS (kS hl2 hs1.extBut D.l2z) hs2.extBut D.l2i1) hs3.extBut D.l2TO) hy fun g4 e wN he=> ?_);obtain⟨oe,hoe,hce⟩:=he;have Ym:IsZip g4 z TI TO .ellipsis:=wN _ _ D.i2z.symm (hs3.extBut _ _ D.TOz.symm (hs2.extBut _ _ D.i1z.symm hz1));have hez:e≠z:=fun x=>by subst x;rw[Ym] at hoe;cases hoe;simp at hce
  exact wpAny_setField_rec Ym (by simp) fun g5 _ wO=>hE g5 e (fun c o c1 c2 c3 c4 x=>wO.extBut _ _ c1 (wN _ _ c4 (hs3.extBut _ _ c2 (hs2.extBut _ _ c3 (hs1.extBut _ _ c1 x))))) ⟨oe,wO.extBut _ _ hez hoe,hce⟩
theorem zst{t1 t2:Bool}{z TI TO i1 i2 l1 l2:Addr}{k1 k2:Nat}{xs ys:Array Value}{x y a b:Value}{Q:Option Value ->Shared ->Prop}(D:ZipApart z TI TO i1 i2 l1 l2)(hz:IsZip s.heap z TI TO .none)(hTI:IsPair s.heap TI (.ref i1) (.ref i2))(hTO:IsPair s.heap TO a b)
  (h1:cY t1 s.heap i1 l1 k1) (h2:cY t2 s.heap i2 l2 k2) (hl1:dh t1 s.heap l1 xs) (hl2:dh t2 s.heap l2 ys) (hx:xs[k1]?=some x) (hy:ys[k2]?=some y)
  (hQ:∀h',IsZip h' z TI TO (rawInt s.heap.objs.size) ->IsPair h' TO x y ->cY t1 h' i1 l1 (k1+1) ->cY t2 h' i2 l2 (k2+1) ->IsPair h' s.heap.objs.size x y ->h'.objs.size=s.heap.objs.size+1 ->
   (∀c o,c≠z ->c≠TO ->c≠i1 ->c≠i2 ->s.heap.get? c=some o ->h'.get? c=some o) ->Q (some (.ref s.heap.objs.size)) {s with heap:=h'}):wpAny (model prog w) A (pyNext (.ref z)) Q E s:=by
 have hT:s.TypeIs (.ref z) "zip" :=⟨_,hz,rfl⟩;unfold pyNext;exact z6 (wpAny_attempt (wpAny_callSpecial?_slot (name:=Str.ofString "__next__") hT F.slot_zip_next (wpAny_call_entry F.slot_zip_next hT F.entry_zip_next (zti D hz hTI hTO h1 h2 hl1 hl2 hx hy fun h' a1 a2 a3 a4 a5 a6 a7=>z7 (hQ h' a1 a2 a3 a4 a5 a6 a7)) (F.args_zip_next_1 _))))
theorem zt4{t1 t2:Bool}{z TI TO i1 i2 l1 l2:Addr}{k1 k2:Nat}{xs ys:Array Value}{a b:Value}{Q:Option Value ->Shared ->Prop}(hh:A.handled=none)(D:ZipApart z TI TO i1 i2 l1 l2)(hz:IsZip s.heap z TI TO .none)(hTI:IsPair s.heap TI (.ref i1) (.ref i2))(hTO:IsPair s.heap TO a b)
  (h1:cY t1 s.heap i1 l1 k1) (h2:cY t2 s.heap i2 l2 k2) (hl1:dh t1 s.heap l1 xs) (hl2:dh t2 s.heap l2 ys) (hend:xs[k1]?=none\/ys[k2]?=none)
  (hQ:∀h',(∀c o,c≠z ->c≠TO ->c≠i1 ->c≠i2 ->s.heap.get? c=some o ->h'.get? c=some o) ->Q none {s with heap:=h'}):wpAny (model prog w) A (pyNext (.ref z)) Q E s:=by
 have hT:s.TypeIs (.ref z) "zip" :=⟨_,hz,rfl⟩;unfold pyNext;refine z6 (wpAny_attempt (wpAny_callSpecial?_slot (name:=Str.ofString "__next__") hT F.slot_zip_next (wpAny_call_entry F.slot_zip_next hT F.entry_zip_next (zxx hh D hz hTI hTO h1 h2 hl1 hl2 hend fun h' e hk he=> ?_) (F.args_zip_next_1 _))));obtain⟨o,ho,hc⟩:=he;refine z6 (wpAny_isInstance (T:= "StopIteration") (b:=true) ⟨o,ho,hc⟩ isSubtype_stop ?_);exact z7 (hQ _ hk)
def Gd(t:Bool):String:=if t then "tuple_iterator" else "list_iterator"
abbrev J7(t1:Bool)(h:Heap)(l1:Addr):Heap:=h.push {cls:= .type (Gd t1),data:= .fields #[.ref l1,.int 0 0]}
abbrev J8(t1 t2:Bool)(h:Heap)(l1 l2:Addr):Heap:=(J7 t1 h l1).push {cls:= .type (Gd t2),data:= .fields #[.ref l2,.int 0 0]}
abbrev J9(t1 t2:Bool)(h:Heap)(l1 l2:Addr):Heap:=(J8 t1 t2 h l1 l2).push {cls:= .type "tuple",data:= .seq #[.ref h.objs.size,.ref (J7 t1 h l1).objs.size]}
abbrev Ka(t1 t2:Bool)(h:Heap)(l1 l2:Addr):Heap:=(J9 t1 t2 h l1 l2).push {cls:= .type "tuple",data:= .seq #[.none,.none]}
abbrev Bs(t1 t2:Bool)(h:Heap)(l1 l2:Addr):Heap:=(Ka t1 t2 h l1 l2).push {cls:= .type "zip",data:= .fields #[.none,.bool false,.bool false,.ref (J8 t1 t2 h l1 l2).objs.size,.ref (J9 t1 t2 h l1 l2).objs.size]}
theorem zsy(x:dh t h l xs)(o:Obj):dh t (h.push o) l xs:=Q9 x fun _ e=>z8 _ e
theorem tM(hl:dh t s.heap l xs)
  (hQ:Q (.ref s.heap.objs.size) {s with heap:=s.heap.push {cls:= .type (Gd t),data:= .fields #[.ref l,.int 0 0]}}):wpAny (model prog w) A (pyIter (.ref l)) Q E s:=Ga hl hQ
theorem yS(t1 t2:Bool)(l1 l2:Addr)(xs ys:Array Value):Meets (Builtin.«zip.__new__» ⟨[.type "zip",.ref l1,.ref l2],[]⟩) (fun _ R s=>dh t1 s.heap l1 xs/\dh t2 s.heap l2 ys/\R (.ok (.ret (.ref (Ka t1 t2 s.heap l1 l2).objs.size))) {s with heap:=Bs t1 t2 s.heap l1 l2}):=
 .of_wp fun prog w A R s h=>by
  obtain⟨hp,g,d,tk,os⟩:=s;obtain⟨hl1,hl2,h⟩:=h;have hsub:=sub_zip;have hL1:dh t1 (Shared.heap ⟨hp,g,d,tk,os⟩) l1 xs:=hl1;have hL2:dh t2 (Shared.heap ⟨hp.push {cls:= .type (Gd t1),data:= .fields #[.ref l1,.int 0 0]},g,d,tk,os⟩) l2 ys:=zsy hl2 _
  wp_walk using tM hL1,tM hL2
  exact⟨_,rfl,h⟩
theorem Yn(e:h.get? a=some {cls:= .type (Gd t),data:= .fields #[.ref l,.int 0 0]}):cY t h a l 0:=by
 cases t<;>exact⟨_,e,rfl,rfl⟩
theorem ztj(hl1:dh t1 s.heap l1 xs)(hl2:dh t2 s.heap l2 ys)
  (h:∀h',IsZip h' (s.heap.objs.size+4) (s.heap.objs.size+2) (s.heap.objs.size+3) .none ->IsPair h' (s.heap.objs.size+2) (.ref s.heap.objs.size) (.ref (s.heap.objs.size+1)) ->IsPair h' (s.heap.objs.size+3) .none .none ->cY t1 h' s.heap.objs.size l1 0 ->cY t2 h' (s.heap.objs.size+1) l2 0 ->
   (∀c o,s.heap.get? c=some o ->h'.get? c=some o) ->Q (.ref (s.heap.objs.size+4)) {s with heap:=h'}):wpAny (model prog w) A (call (.type "zip") [.ref l1,.ref l2]) Q E s:=by
 refine callType_new F.called_zip (by decide) (F.typeCall_zip_2 _ _) (F.newCall_zip_2 _ _) (fun obj=>F.args_object_init_3 obj _ _) F.entry_zip_new (yS t1 t2 l1 l2 xs ys) ⟨hl1,hl2,?_⟩
 have z1:(J7 t1 s.heap l1).objs.size=s.heap.objs.size+1:=Heap.size_push ..;have z2:(J8 t1 t2 s.heap l1 l2).objs.size=s.heap.objs.size+2:=by rw[Heap.size_push,z1]
 have z3:(J9 t1 t2 s.heap l1 l2).objs.size=s.heap.objs.size+3:=by rw[Heap.size_push,z2]
 have z4:(Ka t1 t2 s.heap l1 l2).objs.size=s.heap.objs.size+4:=by rw[Heap.size_push,z3]
 have g5:(Bs t1 t2 s.heap l1 l2).get? (Ka t1 t2 s.heap l1 l2).objs.size=some _:=z9 _ rfl;have g4:(Bs t1 t2 s.heap l1 l2).get? (J9 t1 t2 s.heap l1 l2).objs.size=some _:=z8 _ (z9 _ rfl);have g3:(Bs t1 t2 s.heap l1 l2).get? (J8 t1 t2 s.heap l1 l2).objs.size=some _:=z8 _ (z8 _ (z9 _ rfl));have g2:(Bs t1 t2 s.heap l1 l2).get? (J7 t1 s.heap l1).objs.size=some _:=z8 _ (z8 _ (z8 _ (z9 _ rfl)));have g1:(Bs t1 t2 s.heap l1 l2).get? s.heap.objs.size=some _:=z8 _ (z8 _ (z8 _ (z8 _ (z9 _ rfl))));show _/\_;rw[z2,z3,z4] at g5;rw[z1,z2] at g3;rw[z3] at g4;rw[z1] at g2;rw[z4];exact⟨⟨_,g5,rfl⟩,h _ g5 g3 g4 (Yn g1) (Yn g2) fun c o x=>z8 _ (z8 _ (z8 _ (z8 _ (z8 _ x))))⟩
end
def Sq(t:Bool)(K:W.Frag)(H:Hp)(a:Addr)(xs:List V):Prop:=match t with | false=>fM K H a xs | true=>iY K H a xs
theorem Bt(I:Inv X pins σ H s)(h:Sq t X.K H a xs):∃its:List Value,Vals xs its/\dh t s.heap a its.toArray/\xs.length<=sizeLine:=by
 cases t
 ·obtain⟨its,rv,p,hz⟩:=I.list h;exact⟨its,rv,p.isList,hz⟩
 ·obtain⟨its,rv,p,hz⟩:=I.tuple h;exact⟨its,rv,p,hz⟩
theorem Yo(I:Inv X pins σ H s)(h:Sq t X.K H a xs)(h' :Sq t X.K H a ys):xs=ys:=by
 cases t
 ·exact I.list_inj h h'
 ·exact I.tuple_inj h h'
def Rh(K:W.Frag)(t1 t2:Bool)(a b:Addr):It:=
 ⟨fun i H=>∃xs ys x y,Sq t1 K H a xs/\Sq t2 K H b ys/\xs[i]?=some x/\ys[i]?=some y,fun i H v H' =>∃c x y,v= .ref c/\H c=none/\H' =upd H c (.tup [x,y])/\ (∀xs,Sq t1 K H a xs ->xs[i]?=some x)/\∀ys,Sq t2 K H b ys ->ys[i]?=some y,
  fun i H=>∃xs ys,Sq t1 K H a xs/\Sq t2 K H b ys/\ (xs.length<=i\/ys.length<=i)⟩
theorem zap{n l1 l2:Nat}(h1:l1<n)(h2:l2<n):nA (n+4) (n+2) (n+3) n (n+1) l1 l2:=by
 have e:∀a b:Nat,a≠b ->(a:Addr)≠b:=fun _ _ h=>h;refine⟨⟨e _ _ ?_,e _ _ ?_,e _ _ ?_,e _ _ ?_,e _ _ ?_,e _ _ ?_,e _ _ ?_,e _ _ ?_,e _ _ ?_,e _ _ ?_⟩,e _ _ ?_,e _ _ ?_,e _ _ ?_,e _ _ ?_,e _ _ ?_,e _ _ ?_,e _ _ ?_,e _ _ ?_⟩<;>omega
theorem zxc{P:Program}{w:World}{K:W.Frag}{elts:List Expr}{x1}{pos:Pos}(t1 t2:Bool)(a b z TI TO i1 i2:Addr)(D:nA z TI TO i1 i2 a b):Turn P w K (.Tuple elts x1 pos) (Rh K t1 t2 a b) [z,TI,TO,i1,i2] z
  (fun i h=>IsZip h z TI TO .none/\IsPair h TI (.ref i1) (.ref i2)/\ (∃u v,IsPair h TO u v)/\cY t1 h i1 a i/\cY t2 h i2 b i) where
 mem:=by simp
 obj:=fun i h q c hc=>by
  obtain⟨q1,q2,⟨u,v,q3⟩,q4,q5⟩:=q;simp only [List.mem_cons,List.not_mem_nil,or_false] at hc;rcases hc with rfl | rfl | rfl | rfl | rfl
  ·exact⟨_,q1,fun v z=>by cases z⟩
  ·exact⟨_,q2,fun v z=>by cases z⟩
  ·exact⟨_,q3,fun v z=>by cases z⟩
  ·exact J6 q4
  ·exact J6 q5
 keep:=fun i h h' q k=>by
  obtain⟨q1,q2,⟨u,v,q3⟩,q4,q5⟩:=q;exact⟨k z (by simp) _ q1,k TI (by simp) _ q2,⟨u,v,k TO (by simp) _ q3⟩,wM q4 fun o e=>k i1 (by simp) o e,wM q5 fun o e=>k i2 (by simp) o e⟩
 item:=by
  intro X hP hw hK hc i pins s σ H E I hf q hg;obtain⟨q1,q2,⟨u,v,q3⟩,q4,q5⟩:=q;subst hP hw hK;obtain⟨xs,ys,x,y,hq1,hq2,hx,hy⟩:=hg;obtain⟨its,rv,p,_⟩:=Bt I hq1;obtain⟨jts,Kc,p2,_⟩:=Bt I hq2;obtain⟨ux,hux,rux⟩:=rv.get hx;obtain⟨uy,huy,ruy⟩:=Kc.get hy;have lt:∀c∈ [z,TI,TO,i1,i2],c<s.heap.objs.size:=fun c hc=>by
   simp only [List.mem_cons,List.not_mem_nil,or_false] at hc;rcases hc with rfl | rfl | rfl | rfl | rfl
   ·exact zJ q1
   ·exact zJ q2
   ·exact zJ q3
   ·obtain⟨o,e,_⟩:=J6 q4;exact zJ e
   ·obtain⟨o,e,_⟩:=J6 q5;exact zJ e
  have Dk:=D.k;refine zst Dk q1 q2 q3 q4 q5 p p2 (x:=ux) (y:=uy) (by simpa using hux) (by simpa using huy) fun h1 a1 a2 a3 a4 a5 a6 k1=> ?_
  refine⟨_,rfl,wpAny_letOwnedTupleGo_zip a1 fun h2 e2 sb=> ?_⟩;have uW:Heap.SameBut z h1 h2:=sb;have zl:=lt z (by simp)
  have I2:Inv X pins σ (upd H s.heap.objs.size (.tup [x,y])) {s with heap:=h2,toks:=s.toks}:=
   Yg (fp:= [z,TI,TO,i1,i2]) (its:= [ux,uy]) I (fun c o hb e=>uW.extBut c o (fun y=>hb (by simp [y])) (k1 c o (fun y=>hb (by simp [y])) (fun y=>hb (by simp [y])) (fun y=>hb (by simp [y])) (fun y=>hb (by simp [y])) e))
    lt ((uW.2 _ (Nat.ne_of_gt zl)).trans a5) (.cons rux (.cons ruy .nil)) (by show(2:Nat)<=sizeLine;decide) hf
  refine⟨.ref s.heap.objs.size,_,I2,rfl,⟨_,x,y,rfl,I.fresh,rfl,fun zs hz=>by rw[Yo I hz hq1];exact hx,fun zs hz=>by rw[Yo I hz hq2];exact hy⟩,⟨e2,?_,⟨ux,uy,uW.extBut _ _ Dk.TOz a2⟩,wM a3 fun o e=>uW.extBut _ o Dk.i1z e,wM a4 fun o e=>uW.extBut _ o Dk.i2z e⟩,fun c hc=> ?_⟩
  ·exact uW.extBut _ _ Dk.TIz (k1 _ _ Dk.TIz Dk.TITO Dk.TIi1 Dk.TIi2 q2)
  ·exact(Q6 (hf c hc) (zL (lt c hc))).1
 done:=by
  intro X hP hw hK hc i pins s σ H E I hf q hg;obtain⟨q1,q2,⟨u,v,q3⟩,q4,q5⟩:=q;subst hP hw hK;obtain⟨xs,ys,hq1,hq2,hx⟩:=hg;obtain⟨its,rv,p,_⟩:=Bt I hq1;obtain⟨jts,Kc,p2,_⟩:=Bt I hq2;have l1:=rv.length;have l2:=Kc.length;refine zt4 (I.ok.hd hc) D.k q1 q2 q3 q4 q5 p p2 ?_ fun h' k1=>⟨rfl,Q5 (t' :=s.toks) (fp:= [z,TI,TO,i1,i2]) I (fun c o hb e=>k1 c o (fun y=>hb (by simp [y])) (fun y=>hb (by simp [y])) (fun y=>hb (by simp [y])) (fun y=>hb (by simp [y])) e) hf⟩
  rcases hx with hx | hx
  ·exact .inl (by simp;omega)
  ·exact .inr (by simp;omega)
 self:=fun _ _ _ _ _ q h=>wpAny_pyIter_zip q.1 h
theorem zyo:bootBuiltins "zip" =some (.type "zip"):=by decide+kernel
def Ri(K:W.Frag)(ta:TA):TI:=fun σ H R=>ta σ H fun vs H1=>∃t1 t2 a b xs ys,vs= [.ref a,.ref b]/\Sq t1 K H1 a xs/\Sq t2 K H1 b ys/\ (xs.length<=sizeLine ->ys.length<=sizeLine ->R (Rh K t1 t2 a b) H1)
theorem z42{X:Cx}{a b:Expr}{ta:TA}{p pos:Pos}{elts:List Expr}{x1}{pt:Pos}(hg:Gl X "zip")(hm:X.mg "zip" =none)(ha:PA X [a,b] ta)(hs:starEach [a,b] X.env=(false,eval a X.env)::starEach [b] X.env:=by rfl)(hpl:(backTo pos (starEach [b] X.env)).any (·.1)=false:=by rfl):
  PI X (.Tuple elts x1 pt) (.Call (.Name "zip" p) [a,b] [] pos) (Ri X.K ta):=by
 intro pins s σ H R I h;refine Call_ (vh I hg hm zyo (PyProof.Rows.callWith_type1 (bK (ha pos pins s σ H _ I h) fun us s1 ⟨vs,H1,I1,r1,q1⟩=> ?_) hs hpl));obtain⟨t1,t2,l1,l2,xs,ys,rfl,hq1,hq2,q⟩:=q1;cases r1 with
 | cons r rr=>
  cases rr with
  | cons r' rr=>
   cases rr;cases r;cases r';obtain⟨its,rv,p1,hz1⟩:=Bt I1 hq1;obtain⟨jts,Kc,p2,hz2⟩:=Bt I1 hq2;have n1:l1<s1.heap.objs.size:=by cases t1<;>exact let ⟨o,e,_⟩:=p1;zJ e
   have n2:l2<s1.heap.objs.size:=by cases t2<;>exact let ⟨o,e,_⟩:=p2;zJ e
   refine ztj p1 p2 fun h' e1 e2 e3 e4 e5 kp=> ?_;refine wpAny_pyIter_zip e1 ⟨s1.heap.objs.size+4,[s1.heap.objs.size+4,s1.heap.objs.size+2,s1.heap.objs.size+3,s1.heap.objs.size,s1.heap.objs.size+1],_,_,H1,rfl,I1.kept (t' :=s1.toks) kp,
    zxc t1 t2 l1 l2 _ _ _ _ _ (zap n1 n2),⟨e1,e2,⟨_,_,e3⟩,e4,e5⟩,fun c hc=> ?_,q hz1 hz2⟩
   have hb2:s1.heap.objs.size<=c:=by
    simp only [List.mem_cons,List.not_mem_nil,or_false] at hc;rcases hc with rfl | rfl | rfl | rfl | rfl
    ·exact Nat.le_add_right _ _
    ·exact Nat.le_add_right _ _
    ·exact Nat.le_add_right _ _
    ·exact zO _
    ·exact Nat.le_add_right _ _
   exact I1.fpOk hb2 (I1.hok.fresh hb2)
def iT(xs ys:List D):List D:=List.zipWith (fun x y=> .tup [x,y]) xs ys
theorem Yp{K:W.Frag}{F:Hp}{t1 t2:Bool}{a b:Addr}{vs us:List V}{xs ys:List D}(hq1:∀H1,Same F H1 ->Sq t1 K H1 a vs)(hq2:∀H1,Same F H1 ->Sq t2 K H1 b us)(r1:ak K F xs vs)(r2:ak K F ys us)(hz:vs.length<=sizeLine):yL K F Bj (Rh K t1 t2 a b) (iT xs ys):=by
 have l1:=gj r1;have l2:=gj r2;have lz:(iT xs ys).length=min xs.length ys.length:=List.length_zipWith;refine⟨by omega,fun i H2 F2 s2 s3 _=>⟨fun e=>⟨vs,us,hq1 H2 (s2.trans s3),hq2 H2 (s2.trans s3),by omega⟩,fun d hd=> ?_⟩⟩
 unfold iT at hd;rw[List.getElem?_zipWith] at hd;cases e1:xs[i]? with
 | none=>rw[e1] at hd;cases hd
 | some x=>
  cases e2:ys[i]? with
  | none=>rw[e1,e2] at hd;cases hd
  | some y=>
   rw[e1,e2] at hd;cases hd;obtain⟨v,hv,rv⟩:=oA r1 e1;obtain⟨u,hu,ru⟩:=oA r2 e2;refine⟨⟨vs,us,v,u,hq1 H2 (s2.trans s3),hq2 H2 (s2.trans s3),hv,hu⟩,fun w H' z=> ?_⟩;obtain⟨c,v2,u2,rfl,hc,rfl,z1,z2⟩:=z;have:=z1 vs (hq1 H2 (s2.trans s3));rw[hv] at this;cases this;have:=z2 us (hq2 H2 (s2.trans s3));rw[hu] at this;cases this;have gr:=Gr.laid (o:=HO.tup [v,u]) s3 hc;refine⟨_,gr,?_⟩;unfold Rep;exact⟨c,_,rfl,.inl (.inl lW),pI ((rv.up s2).up gr.f) (pI ((ru.up s2).up gr.f) (by unfold ak;rfl))⟩
def sqD:D ->Option (Bool×List D) | .lst xs=>some (false,xs) | .tup xs=>some (true,xs) | _=>none
def Bu(t:bh):bh:=fun Γ P E=>t Γ (fun ds Γ1=>match ds with | [x,y]=>(match x,y with | .lst xs,.lst ys=>P (iT xs ys) Γ1 | .tup xs,.tup ys=>P (iT xs ys) Γ1 | _,_=>False) | _=>False) E
section
variable{X:Cx}{F0 H0:Hp}{a b e tg:Expr}{es:List Expr}{pos p pt:Pos}{te:aH}{t:bh}{elts:List Expr}
theorem Kd{x1}(hc:X.calm=true)(hg:Gl X "zip")(hm:X.mg "zip" =none)(ha:QA X F0 H0 [a,b] t)(hs:starEach [a,b] X.env=(false,eval a X.env)::starEach [b] X.env:=by rfl)(hpl:(backTo pos (starEach [b] X.env)).any (·.1)=false:=by rfl):
  QI X F0 H0 (.Tuple elts x1 pt) (.Call (.Name "zip" p) [a,b] [] pos) (Bu t):=fun z E cx=>Fq (z42 (X:=X.wsh z) hg hm (ha z E cx) hs hpl) fun σ H R hq2=>by obtain⟨F,Γ,P,S,q,k⟩:=hq2;exact⟨F,Γ,_,S,q,fun ds Γ1 F1 H1 vs R1 s1 r1 h1=>by
  unfold Bu at*;split at h1
  ·split at h1
   ·unfold ak ak ak Rep at r1;obtain⟨v,_,rfl,⟨l,us,rfl,hq,rs⟩,⟨v2,_,rfl,⟨l2,Rj,rfl,hq2,Br⟩,rfl⟩⟩:=r1;exact⟨false,false,l,l2,us,Rj,rfl,R1.g.seq hq,R1.g.seq hq2,fun hz _=>k _ Γ1 F1 H1 _ R1 s1 (Yp (t1:=false) (t2:=false) (fun H s=>s.seq hq) (fun H s=>s.seq hq2) rs Br hz) h1⟩
   ·unfold ak ak ak Rep at r1;obtain⟨v,_,rfl,⟨l,us,rfl,hq,rs⟩,⟨v2,_,rfl,⟨l2,Rj,rfl,hq2,Br⟩,rfl⟩⟩:=r1;exact⟨true,true,l,l2,us,Rj,rfl,jX R1.g hq,jX R1.g hq2,fun hz _=>k _ Γ1 F1 H1 _ R1 s1 (Yp (t1:=true) (t2:=true) (fun H s=>jX s hq) (fun H s=>jX s hq2) rs Br hz) h1⟩
   ·exact h1.elim
  ·exact h1.elim⟩
end
def wQ:List Str ->List D ->Str ->Option D
 | f::fs,d::ds,g=>if g=f then some d else wQ fs ds g
 | _,_,_=>none
def aaS(C:Addr)(f:Str)(te:aH):aH:=fun Γ P E=>te Γ (fun d Γ1=>match d with | .obj C' fs ds=>C' =C/\∃x,wQ fs ds f=some x/\P x Γ1 | _=>False) E
def Yq(C:Addr)(m:Str)(sp:cG)(te:aH)(t:bh):aH:=fun Γ P E=>te Γ (fun d Γ1=>match d with
 | .obj C' fs ds=>C' =C/\m∉fs/\t Γ1 (fun es Γ2=>sp (.obj C' fs ds::es) (fun r=>P r Γ2) fun Cx=>E Γ2 Cx) E
 | _=>False) E
section
variable{X:Cx}{F0 H0:Hp}{e o:Expr}{es:List Expr}{pos p apos:Pos}{f m:Str}{C fa:Addr}{fd:FuncData}{ps:List Str}{k:Nat}{sp:cG}{te:aH}{t:bh}
end
def yU(K:W.Frag)(C:Addr)(f:Str)(sp:cG):Sp:=fun vs H Q E=>∃x dx rest F ds Pd Ex,vs= .ref x::rest/\H x=some (.ins C dx [])/\H dx=some (.own x)/\dx≠x/\Same F H/\F x=none/\F dx=none/\ak K F ds rest/\sp ds Pd Ex/\
 (∀d F' H' H3 v,Gr F H F' H3 ->Rep K F' d v ->Pd d ->H' =upd H3 x (.ins C dx [(f,v)]) ->Q .non H')/\∀C' H',Ex C' ->Same H H' ->E C' none H'
def Yr(C:Addr)(f:Str)(sp:cG):cG:=fun ds P E=>sp ds (fun d=>P (.obj C [f] [d])) E
section
variable{P:Program}{w:World}{K:W.Frag}{mg:Str ->Option Value}{base:Heap}
end
section
variable{X:Cx}{F0 H0:Hp}{e:Expr}{es:List Expr}{pos p:Pos}{x fl:Str}{C f:Addr}{fd:FuncData}{ps:List Str}{k:Nat}{sp:cG}{t:bh}
end
structure Mt2 (P:Program) (w:World) (K:W.Frag) (mg:Str ->Option Value) (base:Heap) (C:Addr) (m:Str) (k:Nat) (ps:List Str) (sp:cG):Prop where
 ex:∃f fd,d7 P w K mg base (gP P w) k f fd ps (jV K sp)/\Meth K C m f/\Binds K fd ps []
structure Mk2 (P:Program) (w:World) (K:W.Frag) (mg:Str ->Option Value) (base:Heap) (x:Str) (C:Addr) (fl:Str) (k:Nat) (ps:List Str) (sp:cG):Prop where
 ex:∃f fd,d7 P w K mg base (gP P w) k f fd ps (yU K C fl sp)/\Mk K C f/\mg x=some (.ref C)/\Binds K fd ps []
def yV(te:aH)(tl th:uV):aH:=fun Γ P E=>te Γ (fun d Γ1=>tl Γ1 (fun l Γ2=>th Γ2 (fun u Γ3=>match d with | .tup xs=>¬(HT.sIx xs.length 0 l=0/\HT.sIx xs.length xs.length u=xs.length)/\P (.tup (cutD xs l u)) Γ3 | _=>False) E) E) E
section
variable{X:Cx}{F0 H0:Hp}{e o:Expr}{lo hi:Option Expr}{es:List Expr}{pos p p2 apos:Pos}{x m fl:Str}{C:Addr}{ps:List Str}{k:Nat}{sp:cG}{te:aH}{tl th:uV}{t:bh}
theorem Ys(he:QE X F0 H0 e te)(hl:QO X F0 H0 lo tl)(hh:QO X F0 H0 hi th):QE X F0 H0 (.Subscript e (.Slice lo hi none p2) pos) (yV te tl th):=fun z E cx=>
 jt (Wi z5a (he z E cx) (hl z E cx) (hh z E cx)) fun σ H Q su=>by obtain⟨F,Γ,P,R,h,k⟩:=su;exact⟨F,Γ,_,R,h,fun d Γ1 F1 H1 v R1 s1 r1 h1=>⟨F1,Γ1,_,R1,h1,fun l Γ2 F2 H2 R2 s2 h2=>⟨F2,Γ2,_,R2,h2,fun u Γ3 F3 H3 R3 s3 h3=>by
  cases d with
  | tup xs=>
   have r3:=r1.up (s2.trans s3);unfold Rep at r3;obtain⟨a,vs,rfl,hq,rs⟩:=r3;have hlen:=gj rs;refine⟨a,vs,rfl,jX R3.g hq,by rw[<- hlen];exact h3.1,fun p hp=> ?_⟩
   have gr:=Gr.laid (o:=HO.tup (m7 vs l u)) R3.g hp;refine k _ Γ3 _ _ _ (R3.grow gr) (s1.trans (s2.trans (s3.trans gr.f))) ?_ h3.2;unfold Rep;exact⟨p,_,rfl,.inl (.inl lW),(X5 rs l u).up gr.f⟩
  | _=>exact False.elim h3⟩⟩⟩
def aaT:cG:=fun _ _ _=>False
end
mutual
def vK:D ->Prop
 | .lst _=>False
 | .exc _=>False
 | .dic _ _=>False
 | .gh _ _=>False
 | .dik _ _=>False
 | .tup xs=>oJ xs
 | .obj _ fs xs=>sI fs=false/\oJ xs
 | _=>True
def oJ:List D ->Prop
 | []=>True
 | d::ds=>vK d/\oJ ds
end
section
variable{K:W.Frag}{F F' :Hp}{A:Addr ->Prop}
end
def Yt(te:aH):aH:=fun Γ P _=>te (jw Γ) (fun d _=>vK d/\P d Γ) j9
section
variable{X:Cx}{F0 H0:Hp}{e:Expr}{te:aH}
open Classical in
end
theorem Yu{K:W.Frag}{F:Hp}{d:D}{v:V}(h:Rep K F d v):∀{ds:List D} {vs:List V} (j:Nat),ak K F ds vs ->ak K F (ds.set j d) (vs.set j v)
 | [],vs,j,r=>by unfold ak at r;subst r;unfold ak;rfl
 | x::ds,vs,j,r=>by
  unfold ak at r;obtain⟨u,us,rfl,r1,r2⟩:=r;cases j with
  | zero=>exact pI h r2
  | succ j=>exact pI r1 (Yu h j r2)
def yX(i:Nat)(ti te:aH):au:=fun D Γ E=>te Γ (fun d Γ1=>(∃xs,Γ1[i]?=some (.ow xs))/\ti Γ1 (fun k Γ2=>match k,Γ2[i]? with
 | .int k,some (.ow xs)=>∃j,qO xs.length k=some j/\D.nx (Γ2.set i (.ow (xs.set j d)))
 | _,_=>False) E) E
section
variable{X:Cx}{F0 H0:Hp}{x:Str}{pos pos' npos:Pos}{e k:Expr}{i:Nat}{te ti:aH}
theorem Yv(hN:X.N[i]?=some x)(hv:pF X.env.scope x)(hk:QE X F0 H0 k ti)(he:QE X F0 H0 e te)(hd:(x==("__debug__" :Str))=false:=by decide)(hcd:(x==("__classdict__" :Str))=false:=by decide)
  (ha:∀v,assign (.Subscript (.Name x npos) k pos') X.env v=(do
   let ov<- holding [v] (eval (.Name x npos) X.env)
   let iv<- holding [v,ov] (eval k X.env)
   standAt pos'
   holding [v,ov,iv] (setItem ov iv v)
   release [v,ov,iv] []):=by intro _;rfl)
  (hs:swapsWithSole [.Subscript (.Name x npos) k pos'] e pos.line X.env=pure false:=by rfl) (hw:swappedStores [.Subscript (.Name x npos) k pos'] e X.env=pure none:=by rfl)
  (h1:(assignEach [.Subscript (.Name x npos) k pos'] X.env).map (·.2)= [assign (.Subscript (.Name x npos) k pos') X.env]:=by rfl):
  QS X F0 H0 (.Assign [.Subscript (.Name x npos) k pos'] e pos) (yX i ti te):=fun z E cx=>
 nW (z3m (X:=X.wsh z) (he z E cx) (z3o (X:=X.wsh z) (rZ (X:=X.wsh z) (i:=i) hN hv hd hcd) (hk z E cx) zzk ha) hs hw h1) fun Dn σ H hq1=>by obtain⟨F,Γ,D2,R,h,kk⟩:=hq1;exact⟨F,Γ,_,R,h,fun d Γ1 F1 H1 v R1 s1 r1 h1=>by
  obtain⟨⟨xs,e0⟩,h2⟩:=h1;obtain⟨o,e1,a,vs,rfl,g1,g2,g3,r⟩:=R1.sl i _ e0;refine⟨.ref a,e1,F1,Γ1,_,R1,h2,fun k Γ2 F2 H2 kv R2 s2 rk q=> ?_⟩;split at q
  ·rename_i k' xs' e2;obtain⟨j,hj,q⟩:=q;obtain⟨o,e3,a',ws,rfl,w1,w2,w3,lV⟩:=R2.sl i _ e2;rw[e1] at e3;cases e3;unfold Rep at rk;subst rk;have hl:=gj lV;refine⟨a,ws,k',j,rfl,rfl,w1,by rw[<- hl];exact hj,?_⟩
   exact kk.nx _ _ _ _ (R2.wr e2 e1 (Yu (r1.up s2) j lV)) (s1.trans s2) q
  ·exact q.elim⟩
end
section
variable(K:W.Frag)(F0 H0:Hp)
def upR(t:aH)(E:XW):TE:=fun σ H Q=>∃F Γ P,SR K F0 H0 F H σ Γ/\t Γ P E/\∀d Γ' F' H' v,SR K F0 H0 F' H' σ Γ' ->Same F F' ->Rep K (qp F0 F') d v ->P d Γ' ->Q v H'
def Rk(t:bh)(E:XW):TA:=fun σ H Q=>∃F Γ P,SR K F0 H0 F H σ Γ/\t Γ P E/\∀ds Γ' F' H' vs,SR K F0 H0 F' H' σ Γ' ->Same F F' ->ak K (qp F0 F') ds vs ->P ds Γ' ->Q vs H'
end
def QR(X:Cx)(F0 H0:Hp)(e:Expr)(t:aH):Prop:=∀z E,Ctx (X.wsh z) F0 H0 E ->PE (X.wsh z) e (upR X.K F0 H0 t E)
def QRA(X:Cx)(F0 H0:Hp)(es:List Expr)(t:bh):Prop:=∀z E,Ctx (X.wsh z) F0 H0 E ->PA (X.wsh z) es (Rk X.K F0 H0 t E)
section
variable{X:Cx}{F0 H0:Hp}{e:Expr}{es:List Expr}{pos:Pos}{te:aH}
def cNl(te:aH):aH:=fun Γ P E=>te Γ (fun d Γ1=>vK d/\P d Γ1) E
def aaU(i:Nat):aH:=fun Γ P _=>match Γ[i]? with
 | some (.ow ds)=>oJ ds/\P (.lst ds) (Γ.set i (.pu (.lst ds)))
 | _=>False
def aaV(t:bh):aH:=fun Γ P E=>t Γ (fun ds Γ1=>oJ ds/\P (.lst ds) Γ1) E
def Yw(te:aH):au:=fun D Γ E=>te Γ (fun d _=>D.rf d) E
end
def Ge(K:W.Frag)(sp:cG):Sp:=fun vs H Q E=>∃F ds P Ex,Same F H/\ak K F ds vs/\sp ds P Ex/\ (∀d v F' H',Gr F H F' H' ->Rep K (qp F F') d v ->P d ->Q v H')/\∀C H',Ex C ->Same H H' ->E C none H'
structure aaW (P:Program) (w:World) (K:W.Frag) (mg:Str ->Option Value) (base:Heap) (x:Str) (k:Nat) (ps:List Str) (sp:cG):Prop where
 ex:∃f fd,d7 P w K mg base (gP P w) k f fd ps (Ge K sp)/\mg x=some (.ref f)/\W.keepIn K (.ref f)=true/\Binds K fd ps []
section
variable{P:Program}{w:World}{K:W.Frag}{mg:Str ->Option Value}{base:Heap}
end
section
variable{X:Cx}{F0 H0:Hp}{e:Expr}{es:List Expr}{pos p:Pos}{x:Str}{f:Addr}{fd:FuncData}{ps:List Str}{k:Nat}{sp:cG}{t:bh}{te:aH}
def Rm(te:aH):aH:=fun Γ P _=>te (jw Γ) (fun d _=>P d Γ) j9
open Classical in
end
def aaX(tf:bh)(tb:aH):bh:=fun Γ P E=>tf Γ (fun xs Γ1=>tb Γ1 (fun d Γ2=>match d with | .int k=>(-(2^63)<=k/\k<2^63/\xs.length*k.toNat<=sizeLine)/\P (List.replicate k.toNat xs).flatten Γ2 | _=>False) E) E
section
variable{X:Cx}{F0 H0:Hp}{a b:Expr}{pos:Pos}{tf:bh}{tb:aH}
end
def Bv{α:Type}(lt:Nat ->Nat ->Bool):W.KasT α ->α
 | .ret a=>a
 | .ask i j k=>Bv lt (k (lt i j))
def za{α:Type}(lt:Nat ->Nat ->Bool)(n:Nat):W.KasT α ->Bool
 | .ret _=>true
 | .ask i j k=>decide (i<n)&&(decide (j<n)&&(decide (i≠j)&&za lt n (k (lt i j))))
theorem Yx(hc:∀i j (C:Bool ->Shared ->Prop),i<n ->j<n ->i≠j ->C (lt i j) s ->cmp i j C s):
  ∀(t:W.KasT α) (Q:α ->Shared ->Prop),za lt n t=true ->Q (Bv lt t) s ->t.kasWp cmp Q s
 | .ret _,_,_,h=>h
 | .ask i j k,Q,ok,h=>by
  unfold za at ok;simp only [Bool.and_eq_true,decide_eq_true_eq] at ok;exact hc i j _ ok.1 ok.2.1 ok.2.2.1 (Yx hc (k (lt i j)) Q ok.2.2.2 h)
def Rn(h:Heap)(v:Value)(i:Int):Prop:=∃(x:Addr) (o:Obj) (xs:Array Value) (m:Nat) (t:Tok),v= .ref x/\h.get? x=some o/\o.cls= .type "tuple" /\o.data= .seq xs m/\xs[0]?=some (.int i t)
inductive tO (h:Heap):List Value ->List Int ->Prop
 | nil:tO h [] []
 | cons {v i vs is}:Rn h v i ->tO h vs is ->tO h (v::vs) (i::is)
def ltI(ns:List Int)(i j:Nat):Bool:=decide (ns.getD i 0<ns.getD j 0)
def tQ(ns:List Int):List Nat:=if ns.length<2 then List.range ns.length else(Bv (ltI ns) (W.kas_sort ns.length)).toList
def Gf(ns:List Int):Prop:=ns.length<2\/ (ns.length<64/\ns.Nodup/\za (ltI ns) ns.length (W.kas_sort ns.length)=true)
section
variable{prog:Program}{w:World}{A:Around}{E:bJ}{s:Shared}
theorem ztz{vs:List Value}{p:Array Nat}(hp:p.size=vs.length):(List.toArray (p.toList.map fun i=>vs.getD i Value.none)).size=vs.length:=by simp [hp]
end
def Yy:List D ->Option (List Int)
 | []=>some []
 | .tup (.int i::_)::r=>(Yy r).map (i:: ·)
 | _::_=>none
def z3i:List D ->(List D ->Prop) ->Prop:=fun ds P=>match ds with | [.lst xs]=>∃ns,Yy xs=some ns/\Gf ns/\ (∀i∈tQ ns,i<ns.length)/\ (tQ ns).length<=sizeLine/\P ((tQ ns).map fun i=>xs.getD i .non) | _=>False
theorem Yz(h:Vals xs us):∀{is:List Nat},(∀i∈is,i<xs.length) ->Vals (is.map fun i=>xs.getD i .non) (is.map fun i=>us.getD i Value.none)
 | [],_=> .nil
 | i::is,k=>by
  have hi:=k i zY;obtain⟨u,hu,ru⟩:=h.get (zZ hi);refine .cons ?_ (Yz h fun j hj=>k j (zX _ hj));show RelV (xs.getD i .non) (us.getD i Value.none);rw[List.getD_eq_getElem?_getD,List.getD_eq_getElem?_getD,List.getElem?_eq_getElem hi,hu];exact ru
theorem YB{K:W.Frag}{F:Hp}{ds:List D}{vs:List V}(h:ak K F ds vs):∀{is:List Nat},(∀i∈is,i<ds.length) ->ak K F (is.map fun i=>ds.getD i .non) (is.map fun i=>vs.getD i .non)
 | [],_=>by simp [ak]
 | i::is,k=>by
  have hi:=k i zY;obtain⟨v,hv,rv⟩:=oA h (zZ hi);refine pI ?_ (YB h fun j hj=>k j (zX _ hj));show Rep K F (ds.getD i .non) (vs.getD i .non);rw[List.getD_eq_getElem?_getD,List.getD_eq_getElem?_getD,List.getElem?_eq_getElem hi,hv];exact rv
def qZ(xs:List Nat):Prop:=xs.Pairwise (· < ·)
theorem Gg(h:qZ xs)(hij:i<j)(hj:j<xs.length):xs[i]'(Nat.lt_trans hij hj)<xs[j]:=List.pairwise_iff_getElem.mp h i j _ hj hij
structure Ke (xs:List Nat) (j b:Nat):Prop where
 le:b<=xs.length
 lo:∀(k:Nat) (h:k<xs.length),k<b ->xs[k]<j
 hi:∀(k:Nat) (h:k<xs.length),b<=k ->j<=xs[k]
theorem Ro(hr:qZ xs.toList):∀(f lo hi:Nat),lo<=hi ->hi<=xs.toList.length ->hi - lo<=f ->(∀(k:Nat) (h:k<xs.toList.length),k<lo ->xs.toList[k]<j) ->(∀(k:Nat) (h:k<xs.toList.length),hi<=k ->j<=xs.toList[k]) ->Ke xs.toList j (SetTable.below.go xs j f lo hi)
 | 0,lo,hi,h1,h2,h3,h4,h5=>by
  unfold SetTable.below.go;obtain rfl:lo=hi:=by omega
  exact⟨h2,h4,h5⟩
 | f+1,lo,hi,h1,h2,h3,h4,h5=>by
  unfold SetTable.below.go;by_cases hl:lo<hi
  ·rw[if_pos hl];have hm1:lo<=(lo+hi)/2:=by omega
   have hm2:(lo+hi)/2<hi:=by omega
   have hm:(lo+hi)/2<xs.toList.length:=by omega
   have hg:xs.getD ((lo+hi)/2) j=xs.toList[(lo+hi)/2]:=by
    have:(lo+hi)/2<xs.size:=by simpa using hm
    simp [Array.getD,this]
   dsimp only;rw[hg];by_cases hc:xs.toList[(lo+hi)/2]<j
   ·rw[if_pos hc];refine Ro hr f _ hi (by omega) h2 (by omega) (fun k hk hlt=> ?_) h5
    by_cases e:k=(lo+hi)/2
    ·subst e;exact hc
    ·exact Nat.lt_trans (Gg hr (by omega:k< (lo+hi)/2) hm) hc
   ·rw[if_neg hc];refine Ro hr f lo _ (by omega) (by omega) (by omega) h4 fun k hk hle=> ?_
    by_cases e:k=(lo+hi)/2
    ·subst e;omega
    ·have:=Gg hr (by omega:(lo+hi)/2<k) hk
     omega
  ·rw[if_neg hl];obtain rfl:lo=hi:=by omega
   exact⟨h2,h4,h5⟩
theorem YC(hr:qZ xs.toList)(j:Nat):Ke xs.toList j (SetTable.below xs j):=by
 unfold SetTable.below;exact Ro hr _ 0 _ (Nat.zero_le _) (by simp) (by omega) (fun k _ h=>by omega) fun k hk h=>by simp at hk;omega
theorem z31(h:Ke xs j b)(k:Ke xs j c):b=c:=by
 rcases Nat.lt_trichotomy b c with q | q | q
 ·have hb:b<xs.length:=zN q k.le;have:=k.lo b hb q;have:=h.hi b hb (zO _);omega
 ·exact q
 ·have hc:c<xs.length:=zN q h.le;have:=h.lo c hc q;have:=k.hi c hc (zO _);omega
theorem z1f(hr:qZ xs.toList)(hn:xs[SetTable.below xs j]?≠some j):qZ (SetTable.insertAt xs (SetTable.below xs j) j).toList:=by
 rw[SetTable.toList_insertAt];have hb:=YC hr j;generalize SetTable.below xs j=b at*;have hn' :∀(h:b<xs.toList.length),xs.toList[b]≠j:=fun h e=>hn (by rw[<- Array.getElem?_toList,List.getElem?_eq_getElem h,e])
 unfold qZ;rw[List.pairwise_append];refine⟨hr.take,?_,fun a ha c hc=> ?_⟩
 ·rw[List.pairwise_cons];refine⟨fun c hc=> ?_,hr.drop⟩;obtain⟨k,hk,rfl⟩:=List.mem_iff_getElem.mp hc;rw[List.length_drop] at hk;rw[List.getElem_drop];have h1:=hb.hi (b+k) (by omega) (by omega)
  by_cases e:k=0
  ·subst e;have:=hn' (by omega)
   simp only [Nat.add_zero] at h1⊢;omega
  ·have:=Gg hr (by omega:b<b+k) (by omega)
   have:=hb.hi b (by omega) (zO _)
   omega
 ·obtain⟨k,hk,rfl⟩:=List.mem_iff_getElem.mp ha;rw[List.length_take] at hk;rw[List.getElem_take];have h1:=hb.lo k (by omega) (by omega)
  rcases zV.mp hc with rfl | hc
  ·exact h1
  ·obtain⟨m,hm,rfl⟩:=List.mem_iff_getElem.mp hc;rw[List.length_drop] at hm;rw[List.getElem_drop];have:=hb.hi (b+m) (by omega) (by omega)
   omega
theorem zr0(hr:qZ xs.toList)(hi:i<=xs.toList.length):SetTable.below xs (if h:0<i then xs.toList[i - 1]'(by omega)+1 else 0)=i:=by
 refine z31 (YC hr _) ⟨hi,fun k hk hlt=> ?_,fun k hk hle=> ?_⟩
 ·rw[dif_pos (by omega)]
  by_cases e:k=i - 1
  ·subst e;exact Nat.lt_succ_self _
  ·have:=Gg hr (by omega:k<i - 1) (by omega)
   omega
 ·split
  ·rename_i h0;have:=Gg hr (by omega:i - 1<k) hk
   omega
  ·exact Nat.zero_le _
structure rA (led:Bool) (t:SetTable):Prop where
 Kf:qZ t.place.toList
 Kg:t.dummies= #[]
 led:t.led=led
theorem zwx:rA led (.fresh 0 0 led):=⟨by simp [SetTable.fresh,qZ],rfl,rfl⟩
theorem zvs(n:Nat):qZ (Array.range n).toList:=by
 unfold qZ;rw[Array.toList_range];exact List.pairwise_lt_range
theorem Kh(h:rA led t)(n:Nat):rA led (t.standIn n):=⟨zvs n,rfl,h.led⟩
theorem zt9(h:rA led t):rA led {t with plain:=false}:=⟨h.Kf,h.Kg,h.led⟩
theorem YD(j:Nat):SetTable.has #[] j=false:=by simp [SetTable.has]
theorem YF{t:SetTable}(hd:t.dummies= #[]){j:Nat}:(t.slot j= .empty ->t.place[SetTable.below t.place j]?≠some j)/\t.slot j≠ .dummy:=by
 unfold SetTable.slot;rw[hd,YD];dsimp only;split
 ·exact⟨fun z=>(by cases z),fun z=>(by cases z)⟩
 ·rename_i q;simp only [Bool.false_eq_true,if_false];exact⟨fun _=>(by simpa using q),fun z=>(by cases z)⟩
theorem YG{t:SetTable}(hd:t.dummies= #[]){ha:Nat ->Int}{h:Int}:∀(f:Nat) (p:SetTable.Probe) {j:Nat} {dm:Option Nat},p.dummy=none ->SetTable.probe.go t ha h f p=some (.empty j dm) ->dm=none/\t.slot j= .empty
 | 0,p,j,dm,_,e=>by unfold SetTable.probe.go at e;cases e
 | f+1,p,j,dm,hp,e=>by
  have adv:(t.advance p).dummy=none:=by
   unfold SetTable.advance;split<;>exact hp
  unfold SetTable.probe.go at e;split at e
  ·rename_i q;cases e;exact⟨hp,q⟩
  ·rename_i q;exact absurd q (YF hd).2
  ·rename_i i q;split at e
   ·cases e
   ·exact YG hd f _ adv e
theorem z2f{led:Bool}{t:SetTable}(h:rA led t)(es:Array (Int×Value))(k:Int)(x:Value):rA led (layNew t es k x).2.1:=by
 unfold layNew;split
 ·rename_i slot wd q;unfold SetTable.freeSlot at q;split at q
  ·rename_i j dm e;cases q;obtain⟨rfl,hs⟩:=YG h.Kg _ _ rfl e;have hn:=(YF h.Kg).1 hs;dsimp only [Option.getD_none];have hp:rA led (t.put j).1:=⟨z1f h.Kf hn,by show(if SetTable.has t.dummies j=true then _ else t.dummies)= #[];rw[h.Kg,YD];rfl,h.led⟩
   unfold SetTable.orStandIn;split
   ·exact hp
   ·exact Kh hp _
  ·cases q
 ·exact Kh h _
theorem ztp(h:rA led t)(es:Array (Int×Value))(n:Nat):rA led (relayAll t es n).2.1:=by
 unfold relayAll;split
 ·rename_i t' order q;dsimp only;split
  ·unfold SetTable.relaid SetTable.laid at q;cases e:SetTable.layClean (SetTable.sizeAbove n - 1) (es.map (·.1)) with
   | none=>rw[e] at q;cases q
   | some owner=>
    rw[e] at q;cases q;refine⟨?_,rfl,h.led⟩;show qZ (((List.range (SetTable.sizeAbove n - 1+1)).filterMap fun j=>(owner.getD j none).map (j, ·)).map (·.1));have sub:∀l:List Nat,((l.filterMap fun j=>(owner.getD j none).map (j, ·)).map (·.1)).Sublist l:=by
     intro l;induction l with
     | nil=>exact List.Sublist.refl _
     | cons a r ih=>
      rw[List.filterMap_cons];cases owner.getD a none with
      | none=>exact ih.cons _
      | some v=>exact ih.cons₂ _
    exact List.Pairwise.sublist (sub _) List.pairwise_lt_range
  ·exact Kh h _
 ·exact Kh h _
section
variable{prog:Program}{w:World}{κ:Type}[DecidableEq κ](knd:KeyKind prog w κ)(kf:Value ->κ)
structure iU (led:Bool) (o:Obj) (ks:List κ) (es:Array (Int×Value)) (ep:Nat) (t:SetTable):Prop where
 ex:o.ExactSet
 dat:o.data= .set es ep t
 el:ElemsOf knd es.toList
 fit:t.fits es.size=true
 tok:rA led t
 key:(es.toList.map fun e=>kf e.2).Perm ks
def kE(led:Bool)(h:Heap)(a:Addr)(ks:List κ):Prop:=∃o es ep t,h.get? a=some o/\iU knd kf led o ks es ep t
def jx(ks:List κ)(k:κ):List κ:=if k∈ks then ks else ks++ [k]
variable{knd kf}(hkf:∀k v,knd.is k v=true ->kf v=k)
include hkf
theorem z1l(el:ElemsOf knd es):k∈es.map (fun e=>kf e.2)↔∃e∈es,knd.is k e.2=true:=by
 rw[List.mem_map];constructor
 ·rintro⟨e,he,rfl⟩;obtain⟨⟨k',hk',_⟩,_⟩:=el e he;exact⟨e,he,by rw[hkf k' _ hk'];exact hk'⟩
 ·rintro⟨e,he,hk⟩;exact⟨e,he,hkf k _ hk⟩
variable{A:Around}{E:bJ}{s:Shared}{a:Addr}{ks:List κ}{led:Bool}
theorem YH{h:Heap}{o:Obj}{es:Array (Int×Value)}{ep:Nat}{t:SetTable}(hg:h.get? a=some o)(hd:o.data= .set es ep t)(es' :Array (Int×Value))(t' :SetTable):
  (h.update a (Obj.putSet es' t')).get? a=some {o with data:= .set es' (ep+1) t'}:=by
 have z:=Heap.get?_update_self (Obj.putSet es' t') hg (by rw[putSet_of es' t' hd];rfl)
 rwa [putSet_of es' t' hd] at z
omit hkf in
theorem iU.put(S:iU knd kf led o ks es ep t)(el:ElemsOf knd es'.toList)(fit:t'.fits es'.size=true)(tok:rA led t')(key:(es'.toList.map fun e=>kf e.2).Perm ks'):
  iU knd kf led {o with data:= .set es' (ep+1) t'} ks' es' (ep+1) t' :=⟨S.ex,rfl,el,fit,tok,key⟩
theorem z4a{k:κ}{x:Value}{Q:Bool ->Shared ->Prop}(hx:knd.is k x=true)(hsc:x.scannable=true)(S:kE knd kf led s.heap a ks)(hb:ks.length+1<scanBound)
  (h:∀b h',Heap.SameBut a s.heap h' ->kE knd kf led h' a (jx ks k) ->Q b {s with heap:=h'}):wpAny (model prog w) A (setAddHashed a x (knd.hash k)) Q E s:=by
 obtain⟨o,es,ep,t,hg,S⟩:=S;have hsz:es.size=ks.length:=by
  have:=S.key.length_eq
  simpa using this
 have hmem:=z1l hkf S.el (k:=k);unfold setAddHashed setAddHashedIn;refine wpAny_holding (vs:= [x]) (z6 (m:=setState a) (wpAny_setState_of hg S.dat S.fit ?_));dsimp only;rw[byScan_of hsc (by omega:es.size<scanBound) S.el]
 simp only [↓reduceIte];unfold setAddByScan;refine z6 (z6 (m:=rule _) (wpAny_rule (z6 (m:=setScan a x _ _ _) (wpAny_setScan_of hx hg S.dat S.fit S.el ?_))));cases hr:List.findIdx? (fun e=>knd.is k e.2) es.toList with
 | some j=>
  dsimp only;obtain⟨hj,hpj,_⟩:=List.findIdx?_eq_some_iff_getElem.mp hr;have hk:k∈ks:=S.key.mem_iff.mp (hmem.mpr ⟨_,zA hj,hpj⟩);refine z7 (α:=_) (z7 (α:=_) ?_);have z:=h false s.heap (Heap.SameBut.refl a s.heap) ⟨o,es,ep,t,hg,by unfold jx;rw[if_pos hk];exact S⟩
  exact z
 | none=>
  dsimp only;have hk:k∉ks:=fun q=>by
   obtain⟨e,he,hp⟩:=hmem.mp (S.key.mem_iff.mpr q);have:=List.findIdx?_eq_none_iff.mp hr e he;rw[hp] at this;cases this
  have hperm:=layNew_perm t es (knd.hash k) x;have hfits:=layNew_fits t es (knd.hash k) x;have tR:=z2f S.tok es (knd.hash k) x;generalize layNew t es (knd.hash k) x=lay at hperm hfits tR⊢;obtain⟨es1,t1,wd,gave⟩:=lay;dsimp only at hperm hfits tR⊢;rw[Array.toList_push] at hperm;have el1:ElemsOf knd es1.toList:=(S.el.push hx hsc).perm hperm;have key1:(es1.toList.map fun e=>kf e.2).Perm (jx ks k):=by
   unfold jx;rw[if_neg hk];refine(hperm.map _).trans ?_;rw[List.map_append];refine List.Perm.append S.key ?_;show [kf x].Perm [k];rw[hkf k x hx]
  have sz1:es1.size=es.size+1:=by
   have:=hperm.length_eq
   simpa using this
  have Gh:es1.size<=sizeLine:=fits_of_scanBound (by omega)
  have gw:∀(b:Bool) {s₁:Shared} {Q' :Unit ->Shared ->Prop},Q' () s₁ ->wpAny (model prog w) A (match b with | true=>rule "set.scan.the-table-gave-way" | false=>pure ()) Q' E s₁:=
   fun b s₁ Q' q=>by
    cases b with
    | true=>exact wpAny_rule q
    | false=>exact z7 (α:=_) q
  have tail:∀t2:SetTable,t2.fits es1.size=true ->rA led t2 ->wpAny (model prog w) A (do
    storeSet a es1 t2
    if (!wd&&t2.tooFull)=true then do
      (match (relayAll t2 es1 (SetTable.grown es1.size)).2.2 with | true=>rule "set.scan.the-table-gave-way" | false=>pure ())
      storeSet a (relayAll t2 es1 (SetTable.grown es1.size)).1 (relayAll t2 es1 (SetTable.grown es1.size)).2.1
      pure (some true)
     else pure (some true)) (fun r s' =>wpAny (model prog w) A (match r with | some added=>pure added | none=>setAddHashedIn a x (knd.hash k) 99999) Q E s') E s:=by
   intro t2 f2 k2;refine z6 (m:=storeSet a es1 t2) (wpAny_storeSet_of hg S.dat ?_ Gh);have g1:=YH (hkf:=hkf) hg S.dat es1 t2;have S1:=S.put (ks' :=jx ks k) el1 f2 k2 key1;have YJ:=Heap.SameBut.update s.heap a (Obj.putSet es1 t2);split
   ·have hp2:=relayAll_perm t2 es1 (SetTable.grown es1.size);have hf2:=relayAll_fits t2 es1 (SetTable.grown es1.size);have Rp:=ztp k2 es1 (SetTable.grown es1.size);generalize relayAll t2 es1 (SetTable.grown es1.size)=rl at hp2 hf2 Rp⊢;obtain⟨es2,t3,gave2⟩:=rl;dsimp only at hp2 hf2 Rp⊢;have sz2:es2.size=es1.size:=by
     have:=hp2.length_eq
     simpa using this
    refine z6 (gw gave2 ?_);refine z6 (m:=storeSet a es2 t3) (wpAny_storeSet_of g1 rfl ?_ (by omega))
    have S2:=S1.put (ks' :=jx ks k) (el1.perm hp2) hf2 Rp ((hp2.map _).trans key1);refine z7 (α:=_) (z7 (α:=_) ?_);exact h true _ (YJ.trans (Heap.SameBut.update _ a _)) ⟨_,_,_,_,YH (hkf:=hkf) g1 rfl es2 t3,S2⟩
   ·exact z7 (α:=_) (z7 (α:=_) (h true _ YJ ⟨_,_,_,_,g1,S1⟩))
  refine z6 (gw gave ?_);split
  ·refine z6 ?_;rw[hashByValue_scannable 8 hsc];refine z7 (α:=_) ?_;refine tail _ ?_ ?_
   ·split
    ·exact hfits
    ·exact SetTable.fits_plain_off hfits
   ·split
    ·exact tR
    ·exact zt9 tR
  ·refine z6 (z7 (α:=_) ?_);simp only [↓reduceIte];exact tail _ hfits tR
end
abbrev fW(w:World):Bool:= !(w.params.followText "set-order")
abbrev vL(w:World):Obj:={cls:= .type "set",dict:=none,data:= .set #[] 0 (.fresh 0 0 (fW w))}
def fL{κ:Type}[DecidableEq κ](val:Nat ->κ):Nat ->List κ
 | 0=> []
 | i+1=>jx (fL val i) (val i)
theorem YK [DecidableEq κ](val:Nat ->κ):∀i,(fL val i).length<=i
 | 0=>zO _
 | i+1=>by
  have ih:=YK val i;show(jx (fL val i) (val i)).length<=i+1;unfold jx;split
  ·omega
  ·rw[List.length_append,List.length_singleton];omega
theorem Rq [DecidableEq κ](val:Nat ->κ):∀{i},k∈fL val i↔∃j,j<i/\val j=k
 | 0=>by simp [fL]
 | i+1=>by
  have ih:=Rq val (k:=k) (i:=i);have e:k∈fL val (i+1)↔k∈fL val i\/k=val i:=by
   show k∈jx (fL val i) (val i)↔_;unfold jx;split
   ·rename_i q;constructor
    ·exact .inl
    ·rintro(z | rfl)
     ·exact z
     ·exact q
   ·rw[List.mem_append,List.mem_singleton]
  rw[e,ih];constructor
  ·rintro(⟨j,hj,rfl⟩ | rfl)
   ·exact⟨j,by omega,rfl⟩
   ·exact⟨i,by omega,rfl⟩
  ·rintro⟨j,hj,rfl⟩;by_cases q:j=i
   ·subst q;exact .inr rfl
   ·exact .inl ⟨j,by omega,rfl⟩
theorem YL [DecidableEq κ](val:Nat ->κ):∀i,(fL val i).Nodup
 | 0=>List.nodup_nil
 | i+1=>by
  have ih:=YL val i;show(jx (fL val i) (val i)).Nodup;unfold jx;split
  ·exact ih
  ·rename_i q;rw[List.nodup_append];refine⟨ih,by simp,fun a ha b hb=> ?_⟩
   rw[List.mem_singleton] at hb;subst hb;exact fun z=>q (z ▸ ha)
theorem zxm{prog:Program}{w:World}{κ:Type}[DecidableEq κ]{knd:KeyKind prog w κ}{kf:Value ->κ}:iU knd kf (fW w) (vL w) [] #[] 0 (.fresh 0 0 (fW w)):=
 ⟨⟨rfl,rfl,rfl⟩,rfl,fun e he=>by simp at he,by rfl,zwx,by simp⟩
section
variable{prog:Program}{w:World}{κ:Type}[DecidableEq κ]{knd:KeyKind prog w κ}{kf:Value ->κ}(hkf:∀k v,knd.is k v=true ->kf v=k)
theorem kE.stay(S:kE knd kf led h a ks)(e:∀o,h.get? a=some o ->h'.get? a=some o):kE knd kf led h' a ks:=by
 obtain⟨o,es,ep,t,hg,S⟩:=S;exact⟨o,es,ep,t,e o hg,S⟩
include hkf
theorem zyu{A:Around}{R:Result ->Shared ->Prop}{I:Addr}{fp wr:List Addr}{G:Array GenState ->Array GenState ->Prop}{n:Nat}{P:Nat ->Value ->Prop}{St:Nat ->Shared ->Prop}
  (W:WalksS prog w A.in1 I fp wr G n P St) {S:Addr} (hS:S∉fp) {val:Nat ->κ} (hv:∀i v,P i v ->knd.is (val i) v=true/\v.scannable=true) (hb:n+1<scanBound) {led:Bool}:
  ∀(j i:Nat) (s:Shared),i+j=n ->St i s ->kE knd kf led s.heap S (fL val i) ->
   (∀s',Moved (S::wr) G s s' ->kE knd kf led s'.heap S (fL val n) ->R (.ok (.ret .none)) s') ->codeAny (model prog w) A (.builtin "set.update.loop" ⟨[.ref S,.ref I],[]⟩) R s:=by
 have hw:S∉wr:=fun q=>hS (W.sub _ q);have grow:∀b∈wr,b∈S::wr:=fun b q=>zX _ q;intro j;induction j with
 | zero=>
  intro i s hij st hs hR;obtain rfl:i=n:=by omega
  refine codeAny_builtin PyProof.Rows.F.entry_set_update_loop ?_;rw[Around.under_plainId PyProof.Rows.F.plain_set_update_loop _];show wpAny _ _ (pyNext (.ref I)>>=_) _ _ _;refine z6 (m:=pyNext (.ref I)) (W.done s _ _ st fun s' hm=> ?_);show wpAny _ _ (ret Value.none) _ _ _;exact z7 (α:=_) (hR s' (hm.mono grow) (hs.stay fun o e=>hm.heap S o hw e))
 | succ j ih=>
  intro i s hij st hs hR;refine codeAny_builtin PyProof.Rows.F.entry_set_update_loop ?_;rw[Around.under_plainId PyProof.Rows.F.plain_set_update_loop _];show wpAny _ _ (pyNext (.ref I)>>=_) _ _ _;refine z6 (m:=pyNext (.ref I)) (W.item i s _ _ (by omega) st fun v s1 hP st1 hm=> ?_)
  obtain⟨hk,hc⟩:=hv i v hP;have hs1:=hs.stay (h' :=s1.heap) fun o e=>hm.heap S o hw e;show wpAny _ _ (holding [v] (setAdd S v)>>=_) _ _ _;refine z6 (m:=holding [v] (setAdd S v)) (wpAny_holding (vs:= [v]) ?_);unfold setAdd;refine wpAny_holding (vs:= [v]) (z6 (m:=pyHash v) (knd.pyHash hk ?_));refine z4a hkf (s:={s1 with toks:=s1.toks+1}) hk hc hs1 (by have:=YK val i;omega) fun _ h2 sb S2=> ?_
  refine z7 (α:=_) ⟨plainId_quiet PyProof.Rows.F.plain_set_update_loop _,ih (i+1) _ (by omega) (W.frame _ s1 h2 _ st1 (Nat.le_succ _) fun b hb o e=> ?_) S2 fun s3 hm3 S3=> ?_⟩
  ·exact(sb.2 b fun z=>hS (z ▸ hb)).trans e
  ·refine hR s3 (Moved.trans W.gtrans ((hm.mono grow).then_heap (Nat.le_succ _) fun b o hb e=> ?_) hm3) S3;exact(sb.2 b fun z=>hb (z ▸ zY)).trans e
end
section
variable{prog:Program}{w:World}{A:Around}{E:bJ}{s:Shared}
theorem zok(v:Value)(h:Q₁ (.ref s.heap.objs.size) {s with heap:=s.heap.push (vL w)}):
  codeAny (model prog w) A (.call (.builtin "set.__new__") ⟨[.type "set",v],[]⟩) (wants Q₁ E) s:=by
 refine codeAny_of_tree ?_;show wpAny _ A.in1 (checkBuiltinCall "set.__new__" ⟨[.type "set",v],[]⟩>>=fun _=>again (.builtin "set.__new__" ⟨[.type "set",v],[]⟩)) _ _ s;refine z6 (wpAny_of_eq (PySem.F.newCall_set_1 v) (z7 (α:=_) ⟨plainId_quiet PySem.F.plain_set_new _,codeAny_builtin PySem.F.entry_set_new ?_⟩));rw[Around.under_plainId PySem.F.plain_set_new _];unfold Builtin.«set.__new__» Builtin.Frozenset.newClass;have hsub:=sub_set_self;obtain⟨hp,g,d,tk,os⟩:=s;dsimp only
 wp_walk
 refine wpAny_askSetting (z7 (α:=_) ?_);dsimp only;simp only [newObj];exact z6 (wpAny_alloc (z7 (α:=_) (z7 (α:=_) h)))
end
section
variable{prog:Program}{w:World}{κ:Type}[DecidableEq κ]{knd:KeyKind prog w κ}{kf:Value ->κ}(hkf:∀k v,knd.is k v=true ->kf v=k){A:Around}{E:bJ}{s:Shared}
include hkf
set_option maxHeartbeats 3200000 in
theorem zpu{l:Addr}{items:Array Value}{val:Nat ->κ}{Q:bJ}(hh:A.handled=none)(hl:s.heap.IsList l items)(hv:∀i v,items[i]?=some v ->knd.is (val i) v=true/\v.scannable=true)(hb:items.size+1<scanBound)
  (h:∀(h' :Heap) (tk:Nat),kE knd kf (fW w) h' s.heap.objs.size (fL val items.size) ->(∀b o,s.heap.get? b=some o ->h'.get? b=some o) ->Q (.ref s.heap.objs.size) {s with heap:=h',toks:=tk}):
  wpAny (model prog w) A (call (.type "set") [.ref l]) Q E s:=by
 obtain⟨c,tl,hmro⟩:=PySem.F.called_set.mro;have hmade:=PySem.F.called_set.made;have hsub:=PySem.F.called_set.sub;refine wpAny_call (codeAny_of_tree ?_);show wpAny _ _ (callAny (.type "set") _) _ _ _;refine z7 (α:=_) ⟨Code.quiet_builtin _ (by decide+kernel),codeAny_builtin PySem.F.entry_type_call ?_⟩
 rw[Around.under_plain (weight_type_call_type "set" [.ref l] []) rfl];have q1:=PySem.F.called_set.notType;have q2:=PySem.F.called_set.canCreate;have q3:=PySem.F.typeCall_set_1 (.ref l)
 (repeat (any_goals (first | assumption | wp_step)));skip
 refine codeAny_mono (zok (.ref l) (E:=E) (Q₁:=fun obj s₁=>obj= .ref s.heap.objs.size/\s₁={s with heap:=s.heap.push (vL w)}) ⟨rfl,rfl⟩) fun r s₁ hr=> ?_;cases r with
 | error e=>exact hr
 | ok fl=>
  cases fl with
  | ret obj=>
   obtain⟨rfl,rfl⟩:=hr;have hS:(s.heap.push (vL w)).get? s.heap.objs.size=some (vL w):=z9 _ rfl;have hT:Shared.TypeIs {s with heap:=s.heap.push (vL w)} (.ref s.heap.objs.size) "set" :=⟨_,hS,rfl⟩;have q4:=PySem.F.called_set.init.lookup;have q5:=PySem.F.called_set.init.bind (.ref s.heap.objs.size)
   (repeat (any_goals (first | assumption | wp_step)));skip
   refine codeAny_mono (codeAny_call_builtin (R:=wants (fun r s₂=>r= .none/\∃h' tk,s₂={s with heap:=h',toks:=tk}/\kE knd kf (fW w) h' s.heap.objs.size (fL val items.size)/\
     ∀b o,s.heap.get? b=some o ->h'.get? b=some o) E) PySem.F.called_set.init.plain PySem.F.entry_set_init (check_set_init_1 hT ?_)) fun r₂ s₂ hr₂=> ?_
   ·obtain⟨ol,hol,hcl,nl,hdl⟩:=hl;obtain⟨oc,od,ot,os⟩:=ol;simp only at hcl hdl;subst hcl;subst hdl;have hol' :(s.heap.push (vL w)).get? l=some {cls:= .type "list",dict:=od,data:= .seq items nl,slots:=os}:=z8 _ hol;have q6:=PySem.F.sub_list_set;have q7:=PySem.F.sub_list_frozenset;have q8:(Value.type "list" ==Value.type "dict")=false:=by decide
    have hl1:(s.heap.push (vL w)).IsList l items:=⟨_,hol',rfl,nl,rfl⟩;unfold Builtin.«set.__init__» noKeywords Builtin.Frozenset.updateFrom;generalize hPI:pyIter=PI
    wp_walk
    subst hPI;refine wpAny_pyIter_list hl1 (z6 (wpAny_runValue ?_));have hlS:l<s.heap.objs.size:=zJ hol;have hh3:A.in1.in1.in1.handled=none:=by simp [hh]
    have Rr:(s.heap.push (vL w)).objs.size=s.heap.objs.size+1:=Heap.size_push ..;refine zyu hkf (led:=fW w) ((Walks.list hh3 _ l (by rw[Rr];exact zL (Nat.lt_succ_of_lt hlS)) items).toS) (S:=s.heap.objs.size) ?_ hv hb items.size 0 _ (Nat.zero_add _)
     ⟨⟨_,z9 _ rfl,rfl,rfl⟩,hl1.push _⟩ ⟨_,_,_,_,z8 _ hS,zxm⟩ fun s' hm hS' => ?_
    ·rw[Rr];simp only [List.mem_cons,List.not_mem_nil,or_false,not_or];exact⟨zL (Nat.lt_succ_self _),Nat.ne_of_gt hlS⟩
    ·obtain⟨h',g',d',tk',os'⟩:=s';obtain rfl:g' =s.gens:=hm.gens;obtain rfl:d' =s.drawn:=hm.drawn;obtain rfl:os' =s.os:=hm.os;refine z7 (α:=_) ?_;show wpAny _ _ (ret Value.none) _ _ _;refine z7 (α:=_) ⟨rfl,h',tk',rfl,hS',fun b o e=> ?_⟩;have hlt:=zJ e;refine hm.heap b o ?_ (z8 _ (z8 _ e));rw[Rr];simp only [List.mem_cons,List.not_mem_nil,or_false,not_or];exact⟨zL hlt,zL (Nat.lt_succ_of_lt hlt)⟩
   ·cases r₂ with
    | error e=>exact hr₂
    | ok fl₂=>
     cases fl₂ with
     | ret r=>
      obtain⟨rfl,h',tk,rfl,hS',hk'⟩:=hr₂
      (repeat (any_goals (first | assumption | wp_step)));skip
      exact h _ _ hS' hk'
     | _=>exact hr₂.elim
  | _=>exact hr.elim
end
theorem jy:PySem.Slot "set_iterator" "__next__" "set_iterator.__next__" := .of (owner:= "set_iterator") (n:= "__next__") (by rw[typeLookup_type,builtinLookup_eq_fast];kernel_rfl) (by decide+kernel) (by decide+kernel) (by decide+kernel) (by first | exact .inl (by decide+kernel) | exact .inr (by decide+kernel)) (by rw[isSubtype_type];kernel_rfl)
theorem z3p:entryFor table "set_iterator.__next__" =some Builtin.«set_iterator.__next__»:=entryFor_of_tree (by kernel_rfl)
theorem z4i(v:Value):argsOk "set_iterator.__next__" ⟨[v],[]⟩:=by unfold argsOk;kernel_rfl
theorem zye:entryFor table "set.__iter__" =some Builtin.«frozenset.__iter__»:=entryFor_alias (id' := "frozenset.__iter__") (by kernel_rfl) rfl (by decide+kernel) (by kernel_rfl)
def pC(h:Heap)(I:Addr)(fst:Value)(i:Nat)(S:Addr)(n ep:Nat):Prop:=∃o,h.get? I=some o/\o.cls= .type "set_iterator" /\o.data= .fields #[fst,.int i 0,.ref S,.int n 0,.int ep 0]
theorem pC.ty{s:Shared}{I S:Addr}{fst:Value}{i n ep:Nat}(x:pC s.heap I fst i S n ep):s.TypeIs (.ref I) "set_iterator" :=let ⟨o,ho,hc,_⟩:=x;⟨o,ho,hc⟩
theorem pC.at(x:pC h I fst i S n ep)(e:∀o,h.get? I=some o ->h'.get? I=some o):pC h' I fst i S n ep:=let ⟨o,ho,r⟩:=x;⟨o,e o ho,r⟩
theorem YM(hi:i<xs.length):(xs[i]::xs.eraseIdx i).Perm xs:=by
 rw[List.eraseIdx_eq_take_drop_succ];refine List.perm_middle.symm.trans ?_;rw[<- List.drop_eq_getElem_cons hi,List.take_append_drop]
section
variable{prog:Program}{w:World}{A:Around}{E:bJ}{s:Shared}
theorem zwf(hn:n≠0)(h:∀i d,i<n ->Q i {s with drawn:=d}):wpAny (model prog w) A (choose src n) Q E s:=fun Γ p _=>by
 unfold choose;rw[Sem.wp_choose];exact⟨hn,h _ _ (Nat.mod_lt _ (Nat.pos_of_ne_zero hn))⟩
theorem znj(n:Nat):∀(xs:List α) {s:Shared} {Q:List α ->Shared ->Prop},xs.length=n ->(∀ys d,ys.Perm xs ->Q ys {s with drawn:=d}) ->wpAny (model prog w) A (drawOrder n xs) Q E s:=by
 induction n with
 | zero=>
  intro xs s Q hn h;have:xs= []:=List.length_eq_zero_iff.mp hn;subst this;unfold drawOrder;exact z7 (α:=_) (h [] s.drawn (.refl _))
 | succ n ih=>
  intro xs s Q hn h;cases xs with
  | nil=>cases hn
  | cons x xs=>
  unfold drawOrder;refine z6 (m:=choose _ _) (zwf (by simp) fun i d hi=> ?_)
  rw[List.getElem?_eq_getElem hi];dsimp only;refine z6 (ih ((x::xs).eraseIdx i) ?_ fun ys d' hp=>z7 (α:=_) (h _ d' ?_))
  ·rw[List.length_eraseIdx_of_lt hi];omega
  ·refine(hp.cons _).trans ?_;exact YM hi
section
variable{S I:Addr}{fst:Value}{i n ep:Nat}{o:Obj}{es:Array (Int×Value)}{t:SetTable}
theorem Rt(hh:A.handled=none)(hQ:∀h',Heap.ExtBut I h0 h' ->Q none {s with heap:=h'})(hk:Heap.ExtBut I h0 s.heap):
  wpAny (model prog w) A.in1 (newExc (.type "StopIteration") []>>=fun e=>(raiseNew e:Sem PySem.Fin)) (fun _ _=>False)
   (fun e s' =>wpAny (model prog w) A (do if<- isInstance e (.type "StopIteration") then pure (none:Option Value) else throw e) Q E s') s:=by
 refine z6 ?_;simp only [newExc,newTuple];refine z6 (wpAny_newObj_type ?_ (by size_fits))
 refine z6 (m:=firstArgMember _ _) (wpAny_of_eq (a:=Value.none) (by first | rfl | (simp only [firstArgMember];rfl)) ?_)
 refine wpAny_newObj_type ?_ (by size_fits)
 simp only [raiseNew];refine z6 (m:=_) (wpAny_handled ?_);rw[show A.in1.handled=none by simp [hh]]
 refine z6 (z7 (α:=_) (wpAny_throw (α:=_) ?_));refine z6 (m:=isInstance _ _) (wpAny_isInstance (T:= "StopIteration") (b:=true) ⟨_,z9 _ rfl,rfl⟩ isSubtype_stop ?_);exact z7 (α:=_) (hQ _ ((hk.push _).push _))
end
end
section
variable{prog:Program}{w:World}{κ:Type}[DecidableEq κ]{knd:KeyKind prog w κ}{kf:Value ->κ}{A:Around}{E:bJ}{s:Shared}{S I:Addr}{fst:Value}{i n ep:Nat}{o:Obj}{es:Array (Int×Value)}{t:SetTable}{led:Bool}{ks:List κ}
theorem Bw(hit:pC s.heap I fst i S n ep)(hg:s.heap.get? S=some o)(O:iU knd kf led o ks es ep t)(hn:es.size=n)
  (h:wpAny (model prog w) A.in1 (if let .int slot _:=fst then do
    match<- setNext S slot.toNat i ep with
    | some (x,next)=>
     setField (.ref I) 0 (rawInt next)
     setField (.ref I) 1 (rawInt ((i:Int)+1))
     ret x
    | none=>setField (.ref I) 2 .none;raiseNew (<- newExc (.type "StopIteration") [])
   else do
    let some places<- seqItems? fst | unsupported "internal:set_iterator"
    match places[i]? with
    | some (.int place _)=>
     let x<- setNextDrawn S place.toNat ep
     setField (.ref I) 1 (rawInt ((i:Int)+1))
     ret x
    | some _=>unsupported "internal:set_iterator"
    | none=>setField (.ref I) 0 (rawInt 0);setField (.ref I) 2 .none;raiseNew (<- newExc (.type "StopIteration") []))
   (fun fin s' =>∃r,fin= .done (.ret r)/\Q (some r) s')
   (fun e s' =>wpAny (model prog w) A (do if<- isInstance e (.type "StopIteration") then pure (none:Option Value) else throw e) Q E s') s):
  wpAny (model prog w) A (pyNext (.ref I)) Q E s:=by
 obtain⟨oi,ho,hc,hd⟩:=id hit;unfold pyNext;refine z6 (m:=_) (wpAny_attempt (wpAny_callSpecial?_slot (name:=Str.ofString "__next__") hit.ty jy (wpAny_call_entry jy hit.ty z3p ?_ (z4i _))));unfold Builtin.«set_iterator.__next__»;refine z6 (m:=slotArgs _ _ _) (z7 (α:=_) ?_);refine z6 (m:=fieldsOf _) (wpAny_fieldsOf ho hd ?_);dsimp only;refine z6 (m:=setEntries S) (wpAny_setEntries_of hg O.dat O.fit ?_);rw[if_neg (by rw[hn];simp)]
 refine wpAny_mono h (fun fin s' ⟨r,hr,hq⟩=>⟨r,hr,z7 (α:=_) hq⟩) fun e s' he=>he
theorem Kl(h:Q (w.params.followText "set-order") s):wpAny (model prog w) A setsByText Q E s:=by
 unfold setsByText;exact z6 (m:=ask) (wpAny_askSetting (z7 (α:=_) h))
theorem YQ(hbt:w.params.followText "set-order" =false)(hg:s.heap.get? S=some o)(O:iU knd kf true o ks es ep t)(hdr:(!t.plain&&decide (es.size>1))=false)
  (h:Q (match es[SetTable.below t.place slot]?,t.place[SetTable.below t.place slot]? with | some (_,x),some j=>some (x,j+1) | _,_=>none) s):wpAny (model prog w) A (setNext S slot given e0) Q E s:=by
 unfold setNext;refine z6 (m:=setState S) (wpAny_setState_of hg O.dat O.fit ?_);dsimp only;refine z6 (m:=setsByText) (Kl ?_);rw[hbt,if_neg Bool.false_ne_true,if_neg (fun z=>by have z' :(!t.plain&&decide (es.size>1))=true:=z;rw[hdr] at z';cases z')]
 refine z6 (m:=_) ?_;show wpAny _ _ (if (!t.led&& !es.isEmpty)=true then _ else pure PUnit.unit) _ _ _;rw[O.tok.led,if_neg (by simp)]
 exact z7 (α:=_) (z7 (α:=_) h)
theorem YS(hbt:w.params.followText "set-order" =true)(hg:s.heap.get? S=some o)(O:iU knd kf led o ks es ep t)
  (h:Q ((pickOrder (w.params.setOrder S ep) es)[given]?.map fun e=>(e.2,slot)) s):wpAny (model prog w) A (setNext S slot given ep) Q E s:=by
 unfold setNext;refine z6 (m:=setState S) (wpAny_setState_of hg O.dat O.fit ?_);dsimp only;refine z6 (m:=setsByText) (Kl ?_);rw[hbt,if_pos rfl,if_neg (by simp)]
 refine z6 (m:=setWalk S) ?_;unfold setWalk;refine z6 (m:=setState S) (wpAny_setState_of hg O.dat O.fit ?_);dsimp only;refine z6 (m:=setsByText) (Kl ?_);rw[hbt,if_pos rfl];exact z6 (m:=ask) (wpAny_askSetting (z7 (α:=_) (z7 (α:=_) h)))
theorem ztm(hg:s.heap.get? S=some o)(O:iU knd kf led o ks es ep t)(hx:es[p]?=some x)(h:Q x.2 s):wpAny (model prog w) A (setNextDrawn S p ep) Q E s:=by
 unfold setNextDrawn;refine z6 (m:=setState S) (wpAny_setState_of hg O.dat O.fit ?_);dsimp only;rw[if_neg (by simp),hx]
 exact z7 (α:=_) h
theorem zpp(hg:s.heap.get? S=some o)(O:iU knd kf led o ks es ep t)(h:Q (!w.params.followText "set-order" &&(!t.plain&&decide (es.size>1))) s):wpAny (model prog w) A (setDrawn S) Q E s:=by
 unfold setDrawn;refine z6 (m:=setState S) (wpAny_setState_of hg O.dat O.fit ?_);dsimp only;refine z6 (m:=setsByText) (Kl ?_);exact z7 (α:=_) h
theorem YT(nx:Nat ->Nat):∀(f k:Nat) (l:List α) (out:Array α),l.length=f ->(pickOrder.go nx f k l out).toList.Perm (out.toList++l)
 | 0,k,l,out,hl=>by
  unfold pickOrder.go;rw[List.length_eq_zero_iff.mp hl];simp
 | f+1,k,l,out,hl=>by
  unfold pickOrder.go;have hi:nx k % l.length<l.length:=Nat.mod_lt _ (by omega)
  rw[List.getElem?_eq_getElem hi];dsimp only;refine(YT nx f (k+1) (l.eraseIdx (nx k % l.length)) _ (by rw[List.length_eraseIdx_of_lt hi];omega)).trans ?_
  rw[Array.toList_push,List.append_assoc];exact List.Perm.append_left _ (YM hi)
theorem Ru(nx:Nat ->Nat)(xs:Array α):(pickOrder nx xs).toList.Perm xs.toList:=by
 unfold pickOrder;exact YT nx _ 0 _ #[] (by simp)
end
theorem YW:PySem.Slot "set_iterator" "__iter__" "set_iterator.__iter__" := .of (owner:= "set_iterator") (n:= "__iter__") (by rw[typeLookup_type,builtinLookup_eq_fast];kernel_rfl) (by decide+kernel) (by decide+kernel) (by decide+kernel) (by first | exact .inl (by decide+kernel) | exact .inr (by decide+kernel)) (by rw[isSubtype_type];kernel_rfl)
theorem z3h:entryFor table "set_iterator.__iter__" =some Builtin.«dict_keyiterator.__iter__»:=entryFor_alias (id' := "dict_keyiterator.__iter__") (by kernel_rfl) rfl (by decide+kernel) (by kernel_rfl)
theorem z39(v:Value):argsOk "set_iterator.__iter__" ⟨[v],[]⟩:=by unfold argsOk;kernel_rfl
theorem pC.zc(x:pC h I fst i S n ep)(v:Value):pC (h.update I (Obj.mapFields (·.setIfInBounds 0 v))) I v i S n ep:=by
 obtain⟨o,ho,hc,hd⟩:=x;exact⟨_,Heap.get?_update_self _ ho (Obj.isFreed_of_fields (Obj.data_mapFields hd _)),(Obj.cls_mapFields ..).trans hc,by rw[Obj.data_mapFields hd];simp⟩
theorem pC.zf(x:pC h I fst i S n ep):pC (h.update I (Obj.mapFields (·.setIfInBounds 1 (rawInt ((i:Int)+1))))) I fst (i+1) S n ep:=by
 obtain⟨o,ho,hc,hd⟩:=x;exact⟨_,Heap.get?_update_self _ ho (Obj.isFreed_of_fields (Obj.data_mapFields hd _)),(Obj.cls_mapFields ..).trans hc,by rw[Obj.data_mapFields hd];simp [rawInt]⟩
section
variable{prog:Program}{w:World}{κ:Type}[DecidableEq κ]{knd:KeyKind prog w κ}{kf:Value ->κ}
structure Steps (prog:Program) (w:World) (A:Around) (I S:Addr) (n ep:Nat) (o:Obj) (ex:bC) (vals:List Value) (fst:Nat ->Value):Prop where
 item:∀i (s:Shared) (Q:Option Value ->Shared ->Prop) (E:bJ),i<n ->pC s.heap I (fst i) i S n ep ->s.heap.get? S=some o ->(∀p∈ex,s.heap.get? p.1=some p.2) ->
  (∀v h',vals[i]?=some v ->pC h' I (fst (i+1)) (i+1) S n ep ->Heap.SameBut I s.heap h' ->Q (some v) {s with heap:=h'}) ->wpAny (model prog w) A (pyNext (.ref I)) Q E s
 done:∀(s:Shared) (Q:Option Value ->Shared ->Prop) (E:bJ),pC s.heap I (fst n) n S n ep ->s.heap.get? S=some o ->(∀p∈ex,s.heap.get? p.1=some p.2) ->
  (∀h',Heap.ExtBut I s.heap h' ->Q none {s with heap:=h'}) ->wpAny (model prog w) A (pyNext (.ref I)) Q E s
theorem zsu(T:Steps prog w A I S n ep o ex vals fst)(hS:S≠I)(hX:∀p∈ex,p.1≠I):
  Walks prog w A I (I::S::ex.map (·.1)) [I] n (fun i v=>vals[i]?=some v) (fun i h=>pC h I (fst i) i S n ep/\h.get? S=some o/\∀p∈ex,h.get? p.1=some p.2) where
 sub:=fun b hb=>by simp at hb;simp [hb]
 frame:=fun i h h' st hk=>⟨st.1.at fun o e=>hk I (by simp) o e,hk S (by simp) o st.2.1,fun p hp=>hk p.1 (by simp only [List.mem_cons,List.mem_map];exact .inr (.inr ⟨p,hp,rfl⟩)) p.2 (st.2.2 p hp)⟩
 item:=fun i s Q E hi st hQ=>T.item i s Q E hi st.1 st.2.1 st.2.2 fun v h' hv st' sb=>hQ v h' s.toks hv ⟨st',(sb.2 S hS).trans st.2.1,fun p hp=>(sb.2 p.1 (hX p hp)).trans (st.2.2 p hp)⟩ fun b o hb e=>(sb.2 b fun z=>hb (by simp [z])).trans e
 done:=fun s Q E st hQ=>T.done s Q E st.1 st.2.1 st.2.2 fun h' eb=>hQ h' s.toks fun b o hb e=>eb b o (fun z=>hb (by simp [z])) e
 self:=fun i s Q E st hQ=>by
  refine wpAny_pyIter_slot st.1.ty YW (wpAny_call_entry YW st.1.ty z3h ?_ (z39 _));show wpAny _ _ (ret (.ref I)) _ _ _;exact z7 (α:=_) ⟨_,rfl,"set_iterator",_,st.1.ty,jy.lookup,hQ⟩
variable{A:Around}{I S:Addr}{n ep:Nat}{o:Obj}{es:Array (Int×Value)}{t:SetTable}{ks:List κ}
def iB(t:SetTable)(i:Nat):Nat:=if h:0<i/\i<=t.place.toList.length then t.place.toList[i - 1]'(by omega)+1 else 0
theorem YX(hr:qZ t.place.toList)(hi:i<=t.place.toList.length):SetTable.below t.place (iB t i)=i:=by
 have:=zr0 hr hi;unfold iB;by_cases h0:0<i
 ·rw[dif_pos ⟨h0,hi⟩];rw[dif_pos h0] at this;exact this
 ·rw[dif_neg (fun z=>h0 z.1)];rw[dif_neg h0] at this;exact this
theorem YZ(h:t.fits n=true):t.place.toList.length=n:=by
 simp only [SetTable.fits,Bool.and_eq_true,beq_iff_eq] at h
 simpa using h.1
theorem z1x(hh:A.handled=none)(hbt:w.params.followText "set-order" =false)(O:iU knd kf true o ks es ep t)(hdr:(!t.plain&&decide (es.size>1))=false):
  Steps prog w A I S es.size ep o [] (es.toList.map (·.2)) fun i=> .int (iB t i) 0 where
 item:=fun i s Q E hi hit hg _ hQ=>by
  have hl:=YZ O.fit;have hb:=YX O.tok.Kf (i:=i) (by omega)
  have hp:i<t.place.size:=by simpa using (by omega:i<t.place.toList.length)
  refine Bw hit hg O rfl ?_;refine z6 (m:=setNext _ _ _ _) (YQ (ep:=ep) hbt hg O hdr ?_);rw[show((iB t i:Nat):Int).toNat=iB t i from Int.toNat_natCast _,hb,Array.getElem?_eq_getElem hi,Array.getElem?_eq_getElem hp];dsimp only;obtain⟨oi,h1,h2,h3⟩:=id hit;refine z6 (m:=setField _ _ _) (wpAny_setField h1 h3 (by simp) ?_)
  have hit2:=hit.zc (rawInt (t.place[i]+1:Nat));obtain⟨oj,g1,g2,g3⟩:=id hit2;refine z6 (m:=setField _ _ _) (wpAny_setField g1 g3 (by simp) ?_)
  refine z7 (α:=_) ⟨_,rfl,hQ _ _ (by simp [hi]) ?_ ((Heap.SameBut.update s.heap I _).trans (Heap.SameBut.update _ I _))⟩
  have e:(Value.int (iB t (i+1)) 0)=rawInt (t.place[i]+1:Nat):=by
   unfold iB;rw[dif_pos ⟨by omega,by omega⟩]
   simp [rawInt]
  rw[e];exact hit2.zf
 done:=fun s Q E hit hg _ hQ=>by
  have hl:=YZ O.fit;have hb:=YX O.tok.Kf (i:=es.size) (by omega)
  refine Bw hit hg O rfl ?_;refine z6 (m:=setNext _ _ _ _) (YQ (ep:=ep) hbt hg O hdr ?_);rw[show((iB t es.size:Nat):Int).toNat=iB t es.size from Int.toNat_natCast _,hb,Array.getElem?_eq_none (Nat.le_refl _)];dsimp only;obtain⟨oi,h1,h2,h3⟩:=id hit;refine z6 (m:=setField _ _ _) (wpAny_setField h1 h3 (by simp) ?_)
  exact wpAny_mono (Rt (I:=I) hh hQ (Heap.SameBut.update s.heap I _).extBut) (fun _ _ q=>q.elim) fun _ _ q=>q
theorem z11(hh:A.handled=none)(hbt:w.params.followText "set-order" =true)(O:iU knd kf led o ks es ep t):
  Steps prog w A I S es.size ep o [] ((pickOrder (w.params.setOrder S ep) es).toList.map (·.2)) fun _=> .int 0 0 where
 item:=fun i s Q E hi hit hg _ hQ=>by
  have hp:=(Ru (w.params.setOrder S ep) es).length_eq;simp only [Array.length_toList] at hp;refine Bw hit hg O rfl ?_;refine z6 (m:=setNext _ _ _ _) (YS hbt hg O ?_);have hi' :i< (pickOrder (w.params.setOrder S ep) es).size:=by omega
  rw[Array.getElem?_eq_getElem hi'];dsimp only [Option.map_some];obtain⟨oi,h1,h2,h3⟩:=id hit;refine z6 (m:=setField _ _ _) (wpAny_setField h1 h3 (by simp) ?_)
  have hit2:=hit.zc (rawInt ((0:Nat):Int));obtain⟨oj,g1,g2,g3⟩:=id hit2;refine z6 (m:=setField _ _ _) (wpAny_setField g1 g3 (by simp) ?_)
  exact z7 (α:=_) ⟨_,rfl,hQ _ _ (by simp [hi']) hit2.zf ((Heap.SameBut.update s.heap I _).trans (Heap.SameBut.update _ I _))⟩
 done:=fun s Q E hit hg _ hQ=>by
  have hp:=(Ru (w.params.setOrder S ep) es).length_eq;simp only [Array.length_toList] at hp;refine Bw hit hg O rfl ?_;refine z6 (m:=setNext _ _ _ _) (YS hbt hg O ?_);rw[Array.getElem?_eq_none (by omega)]
  dsimp only [Option.map_none];obtain⟨oi,h1,h2,h3⟩:=id hit;refine z6 (m:=setField _ _ _) (wpAny_setField h1 h3 (by simp) ?_)
  exact wpAny_mono (Rt (I:=I) hh hQ (Heap.SameBut.update s.heap I _).extBut) (fun _ _ q=>q.elim) fun _ _ q=>q
theorem z1u{led:Bool}(hh:A.handled=none)(O:iU knd kf led o ks es ep t){Tp:Addr}{ot:Obj}{ps:List Nat}(hps:ps.Perm (List.range es.size))(hot:∃m,ot.data= .seq (ps.map fun(p:Nat)=>rawInt p).toArray m):
  Steps prog w A I S es.size ep o [(Tp,ot)] (ps.map fun p=>(es.getD p (0,.none)).2) fun _=> .ref Tp where
 item:=fun i s Q E hi hit hg hx hQ=>by
  obtain⟨m,hm⟩:=hot;have hl:ps.length=es.size:=by simpa using hps.length_eq
  have hi' :i<ps.length:=by omega
  have hlt:ps[i]<es.size:=List.mem_range.mp (hps.mem_iff.mp (zA hi'));refine Bw hit hg O rfl ?_;show wpAny _ _ (seqItems? (.ref Tp)>>=_) _ _ _;refine z6 (m:=seqItems? _) (wpAny_seqItems (hx (Tp,ot) (by simp)) hm ?_)
  dsimp only;have e:(ps.map fun(p:Nat)=>rawInt p).toArray[i]?=some (.int (ps[i]:Nat) 0):=by simp [hi',rawInt]
  rw[e];dsimp only;refine z6 (m:=setNextDrawn _ _ _) (ztm (x:=es[ps[i]]) hg O (by rw[Int.toNat_natCast];exact Array.getElem?_eq_getElem hlt) ?_)
  obtain⟨oi,h1,h2,h3⟩:=id hit;refine z6 (m:=setField _ _ _) (wpAny_setField h1 h3 (by simp) ?_)
  exact z7 (α:=_) ⟨_,rfl,hQ _ _ (by simp [hi',hlt]) hit.zf (Heap.SameBut.update s.heap I _)⟩
 done:=fun s Q E hit hg hx hQ=>by
  obtain⟨m,hm⟩:=hot;have hl:ps.length=es.size:=by simpa using hps.length_eq
  refine Bw hit hg O rfl ?_;show wpAny _ _ (seqItems? (.ref Tp)>>=_) _ _ _;refine z6 (m:=seqItems? _) (wpAny_seqItems (hx (Tp,ot) (by simp)) hm ?_)
  dsimp only;have e:(ps.map fun(p:Nat)=>rawInt p).toArray[es.size]?=none:=by simp [hl]
  rw[e];dsimp only;obtain⟨oi,h1,h2,h3⟩:=id hit;refine z6 (m:=setField _ _ _) (wpAny_setField h1 h3 (by simp) ?_)
  have hit2:=hit.zc (rawInt 0);obtain⟨oj,g1,g2,g3⟩:=id hit2;refine z6 (m:=setField _ _ _) (wpAny_setField g1 g3 (by simp) ?_)
  exact wpAny_mono (Rt (I:=I) hh hQ ((Heap.SameBut.update s.heap I _).trans (Heap.SameBut.update _ I _)).extBut) (fun _ _ q=>q.elim) fun _ _ q=>q
end
section
variable{prog:Program}{w:World}{κ:Type}[DecidableEq κ]{knd:KeyKind prog w κ}{kf:Value ->κ}{A:Around}{E:bJ}{s:Shared}{S:Addr}{ep:Nat}{o:Obj}{es:Array (Int×Value)}{t:SetTable}{ks:List κ}
structure Laid (knd:KeyKind prog w κ) (kf:Value ->κ) (s:Shared) (S:Addr) (o:Obj) (ks:List κ) (I:Addr) (h' :Heap) (n:Nat) (vals:List Value) (St:Nat ->Heap ->Prop) (fp:List Addr):Prop where
 wk:∀A' :Around,A'.handled=none ->Walks prog w A' I fp [I] n (fun i v=>vals[i]?=some v) St
 st:St 0 h'
 len:vals.length=n
 lem:n=ks.length
 key:(vals.map kf).Perm ks
 mem:∀v∈vals,(∃k,knd.is k v=true)/\v.scannable=true
 new:s.heap.objs.size<=I
 inF:I∈fp
 fpl:∀b∈fp,b<h'.objs.size
 fpn:∀b∈fp,b=S\/s.heap.objs.size<=b
 kep:∀b ob,s.heap.get? b=some ob ->h'.get? b=some ob
 siz:s.heap.objs.size<=h'.objs.size
theorem zxo(hg:s.heap.get? S=some o)(O:iU knd kf (fW w) o ks es ep t)(hb:es.size<=sizeLine)
  (h:∀(I:Addr) (h' :Heap) d n vals St fp,Laid knd kf s S o ks I h' n vals St fp ->Q (.ref I) {s with heap:=h',drawn:=d}):wpAny (model prog w) A (pyIter (.ref S)) Q E s:=by
 have hT:s.TypeIs (.ref S) "set" :=⟨o,hg,O.ex.1⟩;have hSl:S<s.heap.objs.size:=zJ hg;have hlk:es.size=ks.length:=by simpa using O.key.length_eq
 have Rv:∀v∈es.toList.map (·.2),(∃k,knd.is k v=true)/\v.scannable=true:=fun v hv=>by
  obtain⟨e,he,rfl⟩:=zG.mp hv;obtain⟨⟨k,hk,_⟩,hs⟩:=O.el e he;exact⟨⟨k,hk⟩,hs⟩
 have fin:∀(h1:Heap) d (vals:List Value) (ex:bC) (fst:Nat ->Value),s.heap.objs.size<=h1.objs.size ->(∀b ob,s.heap.get? b=some ob ->h1.get? b=some ob) ->(∀p∈ex,h1.get? p.1=some p.2/\s.heap.objs.size<=p.1) ->
   (∀A' :Around,A'.handled=none ->Steps prog w A' h1.objs.size S es.size ep o ex vals fst) ->vals.length=es.size ->(vals.map kf).Perm ks ->(∀v∈vals,(∃k,knd.is k v=true)/\v.scannable=true) ->
   Q (.ref h1.objs.size) {s with heap:=h1.push {cls:= .type "set_iterator",data:= .fields #[fst 0,rawInt 0,.ref S,rawInt es.size,rawInt ep]},drawn:=d}:=by
  intro h1 d vals ex fst hsz hk hx' hs hl hp hm;have hx:∀p∈ex,h1.get? p.1=some p.2:=fun p q=>(hx' p q).1;refine h _ _ d es.size vals _ _ ⟨fun A' hh=>zsu (hs A' hh) (zL (zN hSl hsz)) (fun p q=>zL (zJ (hx p q))),⟨⟨_,z9 _ rfl,rfl,rfl⟩,z8 _ (hk S o hg),fun p q=>z8 _ (hx p q)⟩,hl,hlk,hp,hm,hsz,by simp,fun b q=> ?_,fun b q=> ?_,fun b ob e=>z8 _ (hk b ob e),?_⟩
  ·rw[Heap.size_push];simp only [List.mem_cons,List.mem_map] at q;rcases q with rfl | rfl | ⟨p,hp',rfl⟩
   ·exact Nat.lt_succ_self _
   ·exact Nat.lt_succ_of_lt (zN hSl hsz)
   ·exact Nat.lt_succ_of_lt (zJ (hx p hp'))
  ·simp only [List.mem_cons,List.mem_map] at q;rcases q with rfl | rfl | ⟨p,hp',rfl⟩
   ·exact .inr hsz
   ·exact .inl rfl
   ·exact .inr (hx' p hp').2
  ·rw[Heap.size_push];exact Nat.le_succ_of_le hsz
 refine wpAny_pyIter_slot hT PySem.F.slot_set_iter (wpAny_call_entry PySem.F.slot_set_iter hT zye ?_ (PySem.F.args_set_iter_1 _));unfold Builtin.«frozenset.__iter__»;refine z6 (m:=Builtin.Frozenset.slot0 _ _) ?_;unfold Builtin.Frozenset.slot0;refine z6 (m:=slotArgs _ _ _) (z7 (α:=_) ?_);show wpAny _ _ (pure S) _ _ _;refine z7 (α:=_) ?_;refine z6 (m:=Builtin.Frozenset.sizeOf S) ?_;unfold Builtin.Frozenset.sizeOf;refine z6 (m:=setEntries S) (wpAny_setEntries_of hg O.dat O.fit (z7 (α:=_) ?_));refine z6 (m:=setDrawn S) (zpp hg O ?_);dsimp only;cases hbt:w.params.followText "set-order" with
 | true=>
  rw[show(!true&&(!t.plain&&decide (es.size>1)))=false from rfl,if_neg Bool.false_ne_true];refine z6 (m:=pure _) (z7 (α:=_) ?_);refine z6 (m:=setEpoch S) (wpAny_setEpoch_of hg O.dat O.fit ?_);refine z6 (m:=newFields _ _) (wpAny_newObj_type (z7 (α:=_) ⟨_,rfl,"set_iterator",_,⟨_,z9 _ rfl,rfl⟩,jy.lookup,?_⟩));have hp:=Ru (w.params.setOrder S ep) es;refine fin s.heap s.drawn ((pickOrder (w.params.setOrder S ep) es).toList.map (·.2)) [] (fun _=> .int 0 0) (zO _) (fun _ _ e=>e) (fun p q=>by cases q) (fun A' hh=>z11 hh hbt O) (by simpa using hp.length_eq) ?_ fun v hv=>Rv v ((hp.map _).mem_iff.mp hv)
  rw[List.map_map];exact(hp.map _).trans O.key
 | false=>
  have Rx:fW w=true:=by unfold fW;rw[hbt];rfl
  cases hdr:(!t.plain&&decide (es.size>1)) with
  | false=>
   rw[show(!false&&false)=false from rfl,if_neg Bool.false_ne_true];refine z6 (m:=pure _) (z7 (α:=_) ?_);refine z6 (m:=setEpoch S) (wpAny_setEpoch_of hg O.dat O.fit ?_);refine z6 (m:=newFields _ _) (wpAny_newObj_type (z7 (α:=_) ⟨_,rfl,"set_iterator",_,⟨_,z9 _ rfl,rfl⟩,jy.lookup,?_⟩));rw[Rx] at O;refine fin s.heap s.drawn (es.toList.map (·.2)) [] (fun i=> .int (iB t i) 0) (zO _) (fun _ _ e=>e) (fun p q=>by cases q) (fun A' hh=>z1x hh hbt O hdr) (by simp) ?_ Rv
   rw[List.map_map];exact O.key
  | true=>
   rw[show(!false&&true)=true from rfl,if_pos rfl];refine z6 (m:=drawOrder _ _) (znj es.size (List.range es.size) (by simp) fun ps d hps=> ?_)
   have hpl:ps.length=es.size:=by simpa using hps.length_eq
   refine z6 (m:=newTuple _) (wpAny_newTuple ?_ (by rw[List.length_map,hpl];exact hb))
   have hgt:(s.heap.push {cls:= .type "tuple",data:= .seq (ps.map fun(i:Nat)=>rawInt i).toArray}).get? S=some o:=z8 _ hg;refine z6 (m:=setEpoch S) (wpAny_setEpoch_of hgt O.dat O.fit ?_);refine z6 (m:=newFields _ _) (wpAny_newObj_type (z7 (α:=_) ⟨_,rfl,"set_iterator",_,⟨_,z9 _ rfl,rfl⟩,jy.lookup,?_⟩));have hpm:(ps.map fun p=>(es.getD p (0,.none)).2).Perm (es.toList.map (·.2)):=by
    refine(hps.map _).trans ?_;have:(List.range es.size).map (fun p=>(es.getD p (0,.none)).2)=es.toList.map (·.2):=by
     apply List.ext_getElem
     ·simp
     ·intro i h1 h2;have:i<es.size:=by simpa using h1
      simp [this]
    rw[this]
   refine fin _ d (ps.map fun p=>(es.getD p (0,.none)).2) [(s.heap.objs.size,{cls:= .type "tuple",data:= .seq (ps.map fun(i:Nat)=>rawInt i).toArray})] (fun _=> .ref s.heap.objs.size) (by rw[Heap.size_push];exact Nat.le_succ _) (fun b ob e=>z8 _ e) (fun p q=> ?_) (fun A' hh=>z1u hh O hps ⟨_,rfl⟩) (by simp [hpl]) ?_ fun v hv=>Rv v (hpm.mem_iff.mp hv)
   ·obtain rfl:p=_:=by simpa using q
    exact⟨z9 _ rfl,zO _⟩
   ·refine(hpm.map kf).trans ?_;rw[List.map_map];exact O.key
abbrev kJ:Obj:={cls:= .type "list",data:= .seq ([]:List Value).toArray}
theorem zpe(hh:A.handled=none)(hg:s.heap.get? S=some o)(O:iU knd kf (fW w) o ks es ep t)(hb:es.size<=sizeLine)
  (h:∀(vals:List Value) (h' :Heap) d tk,(vals.map kf).Perm ks ->(∀v∈vals,(∃k,knd.is k v=true)/\v.scannable=true) ->s.heap.objs.size<h'.objs.size ->(∀b ob,s.heap.get? b=some ob ->h'.get? b=some ob) ->Q vals {s with heap:=h',drawn:=d,toks:=tk}):
  wpAny (model prog w) A (collect (.ref S)) Q E s:=by
 have hSl:S<s.heap.objs.size:=zJ hg;unfold collect;refine z6 (m:=runValue _) (wpAny_runValue (codeAny_builtin PySem.F.entry_proto_collect ?_));rw[Around.under_plainId PySem.F.plain_proto_collect _];show wpAny _ _ (newList []>>=fun l=>again (.builtin "list.__iadd__" ⟨[l,.ref S],[]⟩)) _ _ _;refine z6 (m:=newList []) (wpAny_newObj_type ?_);refine z7 (α:=_) ⟨plainId_quiet PySem.F.plain_list_iadd _,codeAny_builtin PySem.F.entry_list_iadd ?_⟩;rw[Around.under_plainId PySem.F.plain_list_iadd _];have hg1:(s.heap.push kJ).get? S=some o:=z8 _ hg;have hT1:Shared.TypeIs {s with heap:=s.heap.push kJ} (.ref S) "set" :=⟨o,hg1,O.ex.1⟩;show wpAny _ _ (Builtin.List.listExtendWith (.ref s.heap.objs.size) (.ref S) (.ref s.heap.objs.size)) _ _ _;unfold Builtin.List.listExtendWith;refine z6 (m:=typeOf _) (wpAny_typeOf hT1 ?_);have n1:Builtin.List.listSameRef (.ref s.heap.objs.size) (.ref S)=false:=by simp [Builtin.List.listSameRef,Nat.ne_of_gt hSl]
 rw[if_neg (by rw[n1];decide)]
 refine z6 (m:=pyIter _) (zxo hg1 O hb fun I h1 d n vals St fp L=> ?_);refine z6 (m:=holding _ _) (wpAny_holding (vs:= [_]) ?_);unfold Builtin.List.listLengthHint;have hg2:h1.get? S=some o:=L.kep S o hg1;have hT2:Shared.TypeIs {s with heap:=h1,drawn:=d} (.ref S) "set" :=⟨o,hg2,O.ex.1⟩;refine z6 (m:=specialOf _ _) (wpAny_specialOf hT2 PySem.F.slot_set_len.lookup ?_);dsimp only;rw[show splitId "set.__len__" =some ("set","__len__") by decide+kernel]
 dsimp only;refine z6 (m:=isInstance _ _) (wpAny_isInstance hT2 sub_set_self ?_);rw[if_neg (by decide),if_pos (by decide+kernel)]
 refine z6 (m:=typeOf _) (wpAny_typeOf hT2 ?_);dsimp only;refine z7 (α:=_) ?_;rw[if_pos (by decide+kernel)]
 refine z6 (m:=rule _) (wpAny_rule ?_);have hS1:h1.get? s.heap.objs.size=some kJ:=L.kep _ _ (z9 _ rfl);have hNI:s.heap.objs.size≠I:=zL (zN (by rw[Heap.size_push];exact Nat.lt_succ_self _) L.new)
 refine z6 (m:=Builtin.List.listTouch _) ?_;show wpAny _ _ (updateSeq s.heap.objs.size (·.push .none)>>=fun _=>updateSeq s.heap.objs.size (·.pop)) _ _ _;refine z6 (m:=updateSeq _ _) (wpAny_updateSeq hS1 rfl ?_);have hS2:=Heap.get?_update_self (Obj.mapSeq (·.push Value.none)) hS1 rfl;refine wpAny_updateSeq hS2 rfl ?_;have hS3:=Heap.get?_update_self (Obj.mapSeq (·.pop)) hS2 rfl;have oth:∀b ob,b≠s.heap.objs.size ->h1.get? b=some ob ->((h1.update s.heap.objs.size (Obj.mapSeq (·.push Value.none))).update s.heap.objs.size (Obj.mapSeq (·.pop))).get? b=some ob:=
  fun b ob q e=>(Heap.get?_update_other _ _ (Ne.symm q)).trans ((Heap.get?_update_other _ _ (Ne.symm q)).trans e)
 have Y0:s.heap.objs.size∉fp:=fun q=>by
  rcases L.fpn _ q with z | z
  ·exact absurd z (Nat.ne_of_gt hSl)
  ·have z' :(s.heap.push kJ).objs.size<=s.heap.objs.size:=z;rw[Heap.size_push] at z';exact absurd z' (Nat.not_succ_le_self _)
 have Bx:n<=sizeLine:=by
  have e1:=L.lem;have e2:es.size=ks.length:=by simpa using O.key.length_eq
  omega
 have W:=L.wk A.in1 (by simp [hh])
 refine z7 (α:=_) ⟨plainId_quiet PySem.F.plain_extend_loop _,codeAny_extend_loopS W.toS Bx _ Y0 _ n 0 _ _ _ rfl (Nat.zero_le _) (W.frame 0 h1 _ L.st fun b q ob e=>oth b ob (fun z=>Y0 (z ▸ q)) e) hS3 (ItemsOf.nil _) fun s' acc c' hm hS' hacc=> ?_⟩;show wpAny _ _ (load s.heap.objs.size>>=_) _ _ _;refine z6 (m:=load _) (wpAny_load hS' ?_);refine z7 (α:=_) ?_;have ev:acc.toList=vals:=by
  apply List.ext_getElem?;intro i;by_cases q:i<n
  ·have hi:i<acc.size:=by rw[hacc.1];exact q
   have:=hacc.2 i acc[i] (Array.getElem?_eq_getElem hi);rw[Array.getElem?_toList,Array.getElem?_eq_getElem hi,this]
  ·exact(List.getElem?_eq_none (by rw[Array.length_toList,hacc.1];omega)).trans (List.getElem?_eq_none (by rw[L.len];omega)).symm
 rw[ev];obtain⟨h',g',d',tk',os'⟩:=s';obtain rfl:g' =s.gens:=hm.gens;obtain rfl:d' =d:=hm.drawn;obtain rfl:os' =s.os:=hm.os;refine h vals h' d' tk' L.key L.mem (zJ hS') fun b ob e=> ?_;have hlt:=zJ e;have Ry:b≠s.heap.objs.size:=zL hlt;refine hm.heap b ob ?_ (oth b ob Ry (L.kep b ob (z8 _ e)));simp only [List.mem_cons,List.not_mem_nil,or_false,not_or];exact⟨Ry,fun z=>Ry (by
  subst z;have z2:(s.heap.push kJ).objs.size<=b:=L.new;rw[Heap.size_push] at z2;exact absurd hlt (Nat.not_lt_of_ge (Nat.le_of_succ_le z2)))⟩
end
def Rz:Value ->Int | .int i _=>i | _=>0
theorem z55(hob:h.get? a=some (seqObj "list" xs n)):∃e,(sortedHeap h a vs out).get? a=some (seqObj "list" out e):=by
 have hal:a<h.objs.size:=zJ hob;have h1:=get?_update_seq hob (fun _=>(#[]:Array Value));have h2:(((h.update a (Obj.mapSeq fun _=> #[])).push (seqObj "tuple" vs.toArray 0)).push (seqObj "list" #[] 0)).get? a=some (seqObj "list" #[] _):=z8 _ (z8 _ h1);exact⟨_,get?_update_seq h2 (fun _=>out)⟩
theorem z5f(hb:h.get? b=some o)(hne:b≠a):(sortedHeap h a vs out).get? b=some o:=by
 have h1:(h.update a (Obj.mapSeq fun _=>(#[]:Array Value))).get? b=some o:=(Heap.get?_update_ne _ _ _ _ hne).trans hb;exact(Heap.get?_update_ne _ _ _ _ hne).trans (z8 _ (z8 _ h1))
section
variable{prog:Program}{w:World}{A:Around}{E:bJ}{s:Shared}{S:Addr}{ks:List Int}
end
def Gi(P:Program)(w:World)(a:Addr)(ns:List Int):HO:= .ext fun h=>kE (PySem.intKind P w) Rz (fW w) h a (fL (fun i=>ns.getD i 0) ns.length)
theorem z4f(I:Inv X pins σ H s)(d):Inv X pins σ H {s with drawn:=d}:=⟨I.ok,I.os,I.bare,I.base,I.loc,I.cell,I.free,I.freeC,I.pin,I.hok,I.len⟩
def aaY(X:Cx):List V ->Hp ->VK ->Prop:=fun vs H Q=>∃(p:Addr) (ns:List Int),vs= [.ref p]/\fM X.K H p (ns.map .int)/\ns.length+1<scanBound/\∀q,H q=none ->Q (.ref q) (upd H q (Gi X.prog X.w q ns))
def aaZ(X:Cx):List V ->Hp ->VK ->Prop:=fun vs H Q=>∃(q:Addr) (ns:List Int),vs= [.ref q]/\H q=some (Gi X.prog X.w q ns)/\ (fL (fun i=>ns.getD i 0) ns.length).length<64/\
 ∀(l:Addr) (ms:List Int),H l=none ->ms.Perm (fL (fun i=>ns.getD i 0) ns.length) ->ms.Pairwise (· <= ·) ->Q (.ref l) (upd H l (.lst (ms.map .int)))
def z6u:List D ->(List D ->Prop) ->Prop:=fun ds P=>match ds with
 | [.lst xs]=>∃ns,fV xs=some ns/\ns.length<63/\∀ms:List Int,ms.Pairwise (· < ·) ->(∀i,i∈ms↔i∈ns) ->P (ms.map .int)
 | _=>False
theorem zzn:bootBuiltins "set" =some (.type "set"):=by decide+kernel
section
variable{X:Cx}{F0 H0:Hp}{a e:Expr}{pos p pos2 p2:Pos}{t:bh}
end
def Itv(K:W.Frag)(a:Addr)(xs:List V):It:=⟨fun i H=>fM K H a xs/\i<xs.length,fun i H x H' =>H' =H/\xs.reverse[i]?=some x,fun i _=>xs.length<=i⟩
def Y4(K:W.Frag)(ta:TA):TI:=fun σ H R=>ta σ H fun vs H1=>∃a xs,vs= [.ref a]/\fM K H1 a xs/\ (xs.length<=sizeLine ->R (Itv K a xs) H1)
def z3c(t:bh):bh:=fun Γ P E=>t Γ (fun ds Γ1=>match ds with | [.lst xs]=>P xs.reverse Γ1 | _=>False) E
section
variable{X:Cx}{F0 H0:Hp}{a e tg:Expr}{pos p pos2 p2:Pos}{t:bh}
end
section
variable{prog:Program}{w:World}{A:Around}{E:bJ}{s:Shared}
abbrev RB:Obj:={cls:= .type "list",data:= .seq #[]}
end
def z6z:List D ->(List D ->Prop) ->Prop:=fun ds P=>match ds with | [.lst xs]=>P xs.reverse | _=>False
structure RD (K:W.Frag) (C:Addr):Prop where
 cls:Ep K C=true
 g:vI K C
 sa:W.findIn K (.ref C) "__setattr__" =some (some (.builtin "object.__setattr__"))
 hd:W.hasDictIn K C=true
section
variable{prog:Program}{w:World}{A:Around}{E:bJ}{K:W.Frag}{h:Heap}{g:Array GenState}{d:Drawn}{t:Nat}{os:OsState}{x C:Addr}{o:Obj}{name:Str}{v:Value}
end
section
variable{prog:Program}{w:World}{A:Around}{E:bJ}{K:W.Frag}{h:Heap}{g:Array GenState}{d:Drawn}{t:Nat}{os:OsState}{x C dx:Addr}{o:Obj}{name:Str}{v:Value}{mA:Str ->Option Value}
end
def XO(e C:Addr)(od:Option Addr):HO:= .ext fun h=>∃t,h.get? e=some ⟨.ref C,od,.fields #[.ref t,.none,.none,.none,.bool false,.none],#[]⟩
section
variable{X:Cx}{pins:bC}{σ:St}{H:Hp}{s:Shared}{A:Around}{E:bJ}{a C dx:Addr}{f:Str}{y v:V}{u:Value}{fs:List (Str×V)}
end
def Y5(C:Addr)(f:Str)(ta:TE):TE:=fun σ H Q=>ta σ H fun x H1=>∃a dx fs v,x= .ref a/\H1 a=some (XO a C (some dx))/\H1 dx=some (.xd fs)/\fs.lookup f=some v/\Q v H1
def Y6(C:Addr)(f:Str)(ta tv:TE):TS:=fun D σ H=>tv σ H fun y H1=>ta σ H1 fun x H2=>∃a,x= .ref a/\H2 a=some (XO a C none)/\∀dx,H2 dx=none ->dx≠a ->D.nx σ (upd (upd H2 a (XO a C (some dx))) dx (.xd [(f,y)]))
structure aa0 (K:W.Frag) (B:Addr):Prop where
 sp:W.specialIn K (.ref B) "__getattribute__" =some (some (.builtin "type.__getattribute__"))
 rd:W.readsIn K B (.type "type")=true
 fi:W.findCls K (.ref B) (.type "type") "__init__" =some (.val (.builtin "ValueError.__init__"))
section
variable{X:Cx}{o e value:Expr}{f:Str}{pos pos' apos p:Pos}{ta tv:TE}{C B:Addr}{x:Str}
end
def z5n(bn:Str)(p apos pos:Pos)(args:List Expr)(env:Env)(pl:Sem Bool):Prop:=eval (.Call (.Attribute (.Name bn p) "__init__" apos) args [] pos) env=(do
   let ov<- eval (.Name bn p) env
   standAt apos.atName
   let (f,first)<- holding [ov] (getMethod ov "__init__" pl)
   callWith pos f first (backTo pos (starEach args env)) (backToKw pos (keywordEach [] env)))
def z0w(K:W.Frag)(C:Addr)(f:Str)(sp:cG):Sp:=fun vs H Q E=>∃x rest F ds Pd Ex,vs= .ref x::rest/\H x=some (XO x C none)/\Same F H/\F x=none/\ak K F ds rest/\sp ds Pd Ex/\
 (∀d F' H3 v dx H',Gr F H F' H3 ->Rep K F' d v ->Pd d ->H3 dx=none ->dx≠x ->H' x=some (XO x C (some dx)) ->H' dx=some (.xd [(f,v)]) ->(∀b,b≠x ->b≠dx ->H' b=H3 b) ->Q .non H')/\∀C' H',Ex C' ->Same H H' ->E C' none H'
section
variable{P:Program}{w:World}{K:W.Frag}{mg:Str ->Option Value}{base:Heap}
end
def z6d(C:Addr)(sp:cG)(t:bh):au:=fun _ Γ E=>t Γ (fun ds Γ1=>ds.length<=sizeLine/\sp ds (fun _=>E Γ1 (.ref C)) fun Cx=>E Γ1 Cx) E
section
variable{X:Cx}{F0 H0:Hp}{e:Expr}{es:List Expr}{pos np cpos:Pos}{t:bh}{x fl:Str}{C f:Addr}{fd:FuncData}{ps:List Str}{k:Nat}{sp:cG}
structure Xk2 (P:Program) (w:World) (K:W.Frag) (mg:Str ->Option Value) (base:Heap) (x:Str) (C:Addr) (fl:Str) (k:Nat) (ps:List Str) (sp:cG):Prop where
 ex:∃f fd,d7 P w K mg base (gP P w) k f fd ps (z0w K C fl sp)/\W.findIn K (.ref C) "__init__" =some (some (.ref f))/\W.isFn K (.ref f)=true/\RD K C/\mg x=some (.ref C)/\Binds K fd ps []
end
section
variable{X:Cx}{F0 H0:Hp}{tg iter elt:Expr}{ifs:List Expr}{pos:Pos}{sc:Scope}{own:List Str}{caps:List Nat}{N' :List Str}{ti:bh}{g:jH}{tc:TT2}{te:aH}
open Classical in
end
section
variable{K:W.Frag}{F H:Hp}
theorem Km:∀{ds:List D} {vs:List V},ak K F ds vs ->cW K F H (ds.map .leaf) vs []
 | [],_,h=>by unfold ak at h;subst h;rw[List.map_nil];unfold cW;exact⟨rfl,rfl⟩
 | d::ds,_,h=>by
  unfold ak at h;obtain⟨v,us,rfl,h1,h2⟩:=h;rw[List.map_cons];unfold cW;exact⟨v,us,[],[],rfl,rfl,by unfold TR;exact⟨rfl,h1⟩,Km h2⟩
theorem Y7:∀{ts us:List T} {vs ws:List V} {as bs:List Addr},cW K F H ts vs as ->cW K F H us ws bs ->cW K F H (ts++us) (vs++ws) (as++bs)
 | [],us,vs,ws,as,bs,h1,h2=>by
  unfold cW at h1;obtain⟨rfl,rfl⟩:=h1;exact h2
 | t::ts,us,vs,ws,as,bs,h1,h2=>by
  unfold cW at h1;obtain⟨v,vs',a1,a2,rfl,rfl,q1,q2⟩:=h1;rw[List.cons_append];unfold cW;exact⟨v,vs' ++ws,a1,a2++bs,rfl,by rw[List.append_assoc],q1,Y7 q2 h2⟩
theorem z02(h:TR K F H t v as):cW K F H [t] [v] as:=by
 unfold cW;refine⟨v,[],as,[],rfl,by simp,h,?_⟩
 unfold cW;exact⟨rfl,rfl⟩
theorem Y8:∀{ts:List T} {vs:List V} {as:List Addr} {j:Nat} {t:T},cW K F H ts vs as ->ts[j]?=some t ->∃v b1 bs b2,vs[j]?=some v/\as=b1++ (bs++b2)/\TR K F H t v bs/\
  ∀{F' H' :Hp} {t' :T} {cs:List Addr},Same F F' ->(∀a∈b1++b2,∀u,H a=some u ->H' a=some u) ->TR K F' H' t' v cs ->cW K F' H' (ts.set j t') vs (b1++ (cs++b2))
 | [],_,_,j,t,_,e=>by simp at e
 | t0::ts,_,_,0,t,h,e=>by
  cases e;unfold cW at h;obtain⟨v,vs',a1,a2,rfl,rfl,q1,q2⟩:=h;refine⟨v,[],a1,a2,rfl,rfl,q1,fun{F' H' t' cs} f k r=> ?_⟩;rw[List.set_cons_zero];unfold cW;exact⟨v,vs',cs,a2,rfl,rfl,r,cW.move f ts vs' a2 (fun a ha=>k a ha) q2⟩
 | t0::ts,_,_,j+1,t,h,e=>by
  unfold cW at h;obtain⟨v,vs',a1,a2,rfl,rfl,q1,q2⟩:=h;obtain⟨w,b1,bs,b2,g1,rfl,g3,g4⟩:=Y8 q2 (by simpa using e)
  refine⟨w,a1++b1,bs,b2,by simpa using g1,by simp,g3,fun{F' H' t' cs} f k r=> ?_⟩
  rw[List.set_cons_succ];unfold cW;exact⟨v,vs',a1,b1++ (cs++b2),rfl,by simp,TR.move f t0 v a1 (fun a ha=>k a (by simp [ha])) q1,g4 f (fun a ha=>k a (by rcases zU.mp ha with z | z<;>simp [z])) r⟩
end
mutual
def Gj:T ->Prop
 | .leaf d=>vK d
 | .lst ts=>oK ts
 | .dic _ ts=>oK ts
 | .gh _ ts=>oK ts
 | .ob _ _ ts=>oK ts
 | .kt _=>True
def oK:List T ->Prop
 | []=>True
 | t::ts=>Gj t/\oK ts
end
section
variable{K:W.Frag}{F F' H:Hp}
end
abbrev jo:=G2 ->(T ->G2 ->Prop) ->XW ->Prop
section
variable(K:W.Frag)(F0 H0:Hp)
def upN(t:jo)(E:XW):TE:=fun σ H Q=>∃F Γ P,SR K F0 H0 F H σ Γ/\t Γ P E/\∀tr Γ' F' H' v as,SR K F0 H0 F' H' σ Γ' ->Same F F' ->as.Nodup ->(∀a∈as,F' a=none/\H0 a=none/\Apart σ Γ' a) ->TR K F' H' tr v as ->P tr Γ' ->Q v H'
end
def QN(X:Cx)(F0 H0:Hp)(e:Expr)(t:jo):Prop:=∀z E,Ctx (X.wsh z) F0 H0 E ->PE (X.wsh z) e (upN X.K F0 H0 t E)
def Y9(t:bh):jo:=fun Γ P E=>t Γ (fun ds Γ1=>P (.lst (ds.map .leaf)) Γ1) E
section
variable{X:Cx}{F0 H0:Hp}{e:Expr}{es:List Expr}{pos p:Pos}{te:aH}{tf:bh}{tn:jo}
theorem z53(h:QF X F0 H0 e tf):QN X F0 H0 e (Y9 tf):=fun z E cx=>
 jt (h z E cx) fun σ H Q hq1=>by obtain⟨F,Γ,P,R,h,k⟩:=hq1;exact⟨F,Γ,_,R,h,fun ds Γ1 F1 H1 a vs R1 s1 e1 e2 e3 r1 ap h1=>by
  refine k _ _ _ _ _ [a] R1 s1 (by simp) (fun b hb=>by rw[List.mem_singleton.mp hb];exact⟨e2,e3,ap⟩) ?_ h1
  unfold TR;exact⟨a,vs,[],rfl,rfl,e1,Km r1⟩⟩
def Ko:jo:=fun Γ P _=>P (.dic [] []) Γ
theorem RG:QN X F0 H0 (.Dict [] [] pos) Ko:=fun z E cx=>
 jt zx2 fun σ H Q hq2 q hq=>by
  obtain⟨F,Γ,P,R,h,k⟩:=hq2;have R2:SR X.K F0 H0 F (upd H q (.dK [])) σ Γ:=R.grow ⟨.refl _,fun b u e=>by rw[c7 (lU (R.g b u e) hq)];exact R.g b u e,fun b u e=>by rw[c7 (lU e hq)];exact e,fun b o e n=>by rw[e] at n;cases n⟩
  refine k _ _ _ _ _ [q] R2 (.refl _) (by simp) (fun b hb=>by rw[List.mem_singleton.mp hb];exact⟨R.g.free hq,R.gr.h.free hq,R.apart hq⟩) ?_ h
  unfold TR;exact⟨q,[],[],rfl,rfl,lW,rfl,by unfold cW;exact⟨rfl,rfl⟩⟩
def Za(t:jo):jo:=fun Γ P _=>t (jw Γ) (fun tr _=>Gj tr/\P tr Γ) j9
open Classical in
def tU(i:Nat)(t:jo):au:=fun D Γ E=>t Γ (fun tr Γ1=>∀as,D.nx (Γ1.set i (.tr as tr))) E
theorem Zb(hN:X.N.Nodup)(hi:X.N[i]?=some x)(hx:Loc X.env.scope x)(he:QN X F0 H0 e tn)(hs:swapsWith e (some (.Name x pos')) pos.line X.env=pure false:=by rfl)
  (hf:X.fn x=true\/X.env.scope.names.lookup x=some .local:=by first | exact .inl rfl | exact .inr rfl):QS X F0 H0 (.Assign [.Name x pos'] e pos) (tU i tn):=fun z E cx=>
 nW (Mz (X:=X.wsh z) (i:=i) hN hi hx (he z E cx) hs hf) fun D σ H sX=>by obtain⟨F,Γ,D2,R,h,k⟩:=sX;exact⟨F,Γ,_,R,h,fun t Γ1 F1 H1 v as R1 s1 nd hn r1 h1=>
  k.nx _ _ _ _ (R1.put i (s:= .tr as t) ⟨v,rfl,nd,fun b hb=>⟨(hn b hb).1,(hn b hb).2.1⟩,r1⟩ fun a ha=>(hn a ha).2.2) s1 (h1 as)⟩
def qF(t:jo):au:=fun D Γ E=>t Γ (fun tr _=>D.rT tr) E
theorem RJ(he:QN X F0 H0 e tn):QS X F0 H0 (.Return (some e) pos) (qF tn):=fun z E cx=>
 nW (VG (he z E cx)) fun D σ H pJ=>by obtain⟨F,Γ,D2,R,h,k⟩:=pJ;exact⟨F,Γ,_,R,h,fun t Γ1 F1 H1 v as R1 s1 nd hn r1 h1=>k.rT _ _ _ _ _ R1.gr nd (fun a ha=>⟨(hn a ha).1,(hn a ha).2.1⟩) r1 h1⟩
def nV(i:Nat):jo:=fun Γ P _=>match Γ[i]? with
 | some (.tr _ t)=>P t (Γ.set i .no)
 | _=>False
theorem Zc(hN:X.N[i]?=some x)(hv:pF X.env.scope x)(hd:(x==("__debug__" :Str))=false:=by decide)(hcd:(x==("__classdict__" :Str))=false:=by decide):QN X F0 H0 (.Name x pos) (nV i):=fun z E cx=>
 jt (rZ (X:=X.wsh z) (i:=i) hN hv hd hcd) fun σ H Q wB=>by
  obtain⟨F,Γ,P,R,h,k⟩:=wB;unfold nV at h;split at h
  ·rename_i as t e;obtain⟨o,e0,v,rfl,nd,hn,r⟩:=R.sl i _ e;exact⟨v,e0,k t _ F H v as (R.dropAt e0) (.refl _) nd (fun a ha=>⟨(hn a ha).1,(hn a ha).2,R.less e e0 (show eN (Slot.tr as t) (some v) a from ha)⟩) r h⟩
  ·exact h.elim
end
section
variable{prog:Program}{w:World}{κ:Type}[DecidableEq κ]{knd:KeyKind prog w κ}{A:Around}{E:bJ}{s:Shared}{d:Addr}{ep:Nat}{kvs:List (κ×Value)}
end
section
variable{prog:Program}{w:World}{A:Around}{E:bJ}{s:Shared}{d:Addr}{ep:Nat}{kvs:List (Key×Value)}
end
def Zd(X:Cx):List V ->Hp ->VK ->Prop:=fun vs H Q=>∃(q:Addr) (kvs:List (Key×V)) (ns:List Int),vs= [.ref q]/\H q=some (.dK kvs)/\kvs.map (·.1)=ns.map .inl/\ns.length<64/\
 ∀(l:Addr) (ms:List Int),H l=none ->ms.Perm ns ->ms.Pairwise (· <= ·) ->Q (.ref l) (upd H l (.lst (ms.map .int)))
def Ze(i:Nat):bh:=fun Γ P _=>match Γ[i]? with
 | some (.tr _ (.dic ks _))=>∃ns:List Int,ks=ns.map .inl/\ns.length<64/\∀ms:List Int,ms.Perm ns ->ms.Pairwise (· <= ·) ->P (ms.map .int) Γ
 | _=>False
section
variable{X:Cx}{F0 H0:Hp}{pos p px:Pos}{x:Str}{i:Nat}
theorem RK:∀{ks:List Key} {vs:List V},ks.length=vs.length ->(ks.zip vs).map (·.1)=ks
 | [],[],_=>rfl
 | [],_::_,h=>by cases h
 | _::_,[],h=>by cases h
 | k::ks,v::vs,h=>by rw[List.zip_cons_cons,List.map_cons,RK (by simpa using h)]
end
section
variable{K:W.Frag}{F0 H0 F H F' H' :Hp}{σ:St}{Γ:List Slot}
theorem zsd(e1:σ[i]?=some o)(h:Apart σ Γ a):Apart σ (Γ.set i .no) a:=fun j q=>by
 have q' :jc (Γ.set i .no) (σ.set i o) j a:=by rw[Ba e1];exact q
 rcases El q' with ⟨_,z⟩ | ⟨_,z⟩
 ·exact z
 ·exact h j z
theorem SR.wrT(R:SR K F0 H0 F H σ Γ)(e:Γ[i]?=some s)(e1:σ[i]?=some o)(h:eN s o a)(r:iZ K F (L2.upd H a u) H0 t o)(ht:∀b,eN t o b ->eN s o b\/Apart σ Γ b):
  SR K F0 H0 F (L2.upd H a u) σ (Γ.set i t):=by
 have R1:=R.wrO (t:= .no) (u:=u) e e1 h trivial fun _ z=>z.elim;have R2:=R1.put i r fun b hb=>by
  rcases ht b hb with z | z
  ·rw[show(Γ.set i Slot.no)=Γ.set i .no from rfl];exact R.less e e1 z
  ·exact zsd e1 z
 rw[Ba e1,List.set_set] at R2;exact R2
end
abbrev qG:=List D ->(T ->Prop) ->(Value ->Prop) ->Prop
def oM(K:W.Frag)(sp:qG):Sp:=fun vs H Q E=>∃F ds P Ex,Same F H/\ak K F ds vs/\sp ds P Ex/\ (∀t v as F' H',Gr F H F' H' ->as.Nodup ->(∀a∈as,F' a=none/\H a=none) ->TR K F' H' t v as ->P t ->Q v H')/\∀C H',Ex C ->Same H H' ->E C none H'
def vM(sp:qG):cG:=fun ds P E=>sp ds (fun t=>P (toD t)) E
open Classical in
theorem zxl{K:W.Frag}{sp:qG}{vs:List V}{H:Hp}{Q:VK}{E:XK}(h:jV K (vM sp) vs H Q E):oM K sp vs H Q E:=by
 obtain⟨F,ds,P,Ex,h1,h2,h3,h4,h5⟩:=h;refine⟨F,ds,fun t=>P (toD t),Ex,h1,h2,h3,fun t v as F' H' g nd hn r p=> ?_,h5⟩;have s1:Same F' (fun b=>if b∈as then H' b else F' b):=fun b u e=>by
  show(if b∈as then H' b else F' b)=some u;rw[if_neg fun hb=>by rw[(hn b hb).1] at e;cases e]
  exact e
 refine h4 (toD t) v (fun b=>if b∈as then H' b else F' b) H' ⟨g.f.trans s1,fun b u e=> ?_,g.h,fun b o e n=> ?_⟩ (TR.rep s1 t v as (fun a ha u hu=> ?_) r) p
 ·have e' :(if b∈as then H' b else F' b)=some u:=e;split at e'
  ·exact e'
  ·exact g.g b u e'
 ·have e' :(if b∈as then H' b else F' b)=some o:=e;split at e'
  ·rename_i hb;exact .inl (hn b hb).2
  ·exact g.n b o e' n
 ·show(if a∈as then H' a else F' a)=some u;rw[if_pos ha];exact hu
structure nC (P:Program) (w:World) (K:W.Frag) (mg:Str ->Option Value) (base:Heap) (x:Str) (k:Nat) (ps:List Str) (sp:qG):Prop where
 ex:∃f fd,d7 P w K mg base (gP P w) k f fd ps (oM K sp)/\mg x=some (.ref f)/\W.keepIn K (.ref f)=true/\Binds K fd ps []
theorem nC.fn{P:Program}{w:World}{K:W.Frag}{mg:Str ->Option Value}{base:Heap}{x:Str}{k:Nat}{ps:List Str}{sp:qG}(G:nC P w K mg base x k ps sp):cJ P w K mg base x k ps (vM sp):=by
 obtain⟨f,fd,h1,h2⟩:=G.ex;exact⟨f,fd,h1.imp fun _ _ _ _ q=>zxl q,h2⟩
section
variable{P:Program}{w:World}{K:W.Frag}{mg:Str ->Option Value}{base:Heap}
theorem zj{x qual:Str}{st:Stmt}{f:Addr}{fd:FuncData}{N ps:List Str}{k:Nat}{sp:qG}(Fn:fu K x qual st f fd)(S:aA N ps (bL st))(len:∀ds Q E,sp ds Q E ->ds.length=ps.length)
  (hbody:∀(cdv:Value) (A:Around) (outer:List Env) (s:Shared) (H:Hp) (E:XK),eG k (A.deeper (envOfC qual (bL st) s.heap.objs.size f cdv)) ->∀F0:Hp,
   ∃t,qt (jU (gP P w) P w K mg base N qual (bL st) f cdv A outer s H E) F0 H (sG st) t/\∀ds Q Ex,sp ds Q Ex ->t {nx:=fun _=>False,rt:=fun _=>False,rT:=Q} (gA N ds) fun _=>Ex):
  d7 P w K mg base (gP P w) (k+1) f fd ps (oM K sp):=by
 obtain⟨oc,od,kV,doc,pm,an,cdv,ct,osl,rfl,lk,hcd⟩:=Fn.ex;refine Wf lk hcd S (fun vs H Q E ⟨F,ds,P',Ex,_,rs,hs,_⟩=>by rw[<- gj rs];exact len _ _ _ hs) fun A outer s H vs Q E hr ⟨F0,ds,Pd,Ex,sF,rs,hsp,hQ,hE⟩=> ?_
 obtain⟨t,ht,hq⟩:=hbody cdv A outer s H E hr F0;have cx:Ctx ((jU (gP P w) P w K mg base N qual (bL st) f cdv A outer s H E).wsh ⟨(jU (gP P w) P w K mg base N qual (bL st) f cdv A outer s H E).xe,[]⟩) F0 H (fun _=>Ex):=by
  refine⟨fun pins σ Γ F H1 s1 e s' I R hx=> ?_,PassesOwn.leaving⟩;refine bK (W4 (E:=fun C dx H' =>E C dx H') I rfl rfl rfl (hx.imp fun C dx H' z=> ?_)) fun _ s'' z=>z;obtain⟨Γ',F',R',_,z1,rfl⟩:=z;exact hE C H' z1 R'.gr.h
 exact⟨_,ht _ _ cx,F0,gA N ds,{nx:=fun _=>False,rt:=fun _=>False,rT:=Pd},Xg sF rs,hq ds Pd Ex hsp,⟨fun _ _ _ _ _ _ q=>q.elim,fun _ _ _ _ _ _ q=>q,fun _ _ _ _ _ _ q=>q,fun _ _ _ _ _ _ q=>q.elim,fun _ _ _ _ _ _ q=>q.elim,fun t v as F' H' gr nd hn r q=>hQ t v as F' H' gr nd hn r q,fun _ _ _ _ _ _ _ _ q=>q.elim⟩⟩
end
def nD(sp:qG)(t:bh):jo:=fun Γ P E=>t Γ (fun ds Γ1=>sp ds (fun tr=>P tr Γ1) fun C=>E Γ1 C) E
section
variable{X:Cx}{F0 H0:Hp}{e:Expr}{es:List Expr}{pos p:Pos}{x:Str}{ps:List Str}{k:Nat}{sp:qG}{t:bh}
theorem RL(G:nC X.prog X.w X.K X.mg X.base x k ps sp)(hr:eG k X.A)(hg:Gl X x)(ha:QA X F0 H0 (e::es) t)(hdb:(x==("__debug__" :Str))=false:=by decide)(he:starEach (e::es) X.env=(false,eval e X.env)::starEach es X.env:=by rfl)(hpl:(backTo pos (starEach es X.env)).any (·.1)=false:=by rfl):
  QN X F0 H0 (.Call (.Name x p) (e::es) [] pos) (nD sp t):=by
 obtain⟨f,fd,Fn,hm,hk,hb⟩:=G.ex;rintro z E cx pins s σ H Q I ⟨F,Γ,P,R,h,kk⟩;refine wpAny_Call_Name_kw (Mg (X:=X.wsh z) I hg hm ?_ hdb);refine W.callWith_K (h₀:=X.base) I.ok.mod.Dc hk (bK (ha z E cx pos pins s σ H (fun vs H1=>∃F1 Γ1 ds,SR X.K F0 H0 F1 H1 σ Γ1/\Same F F1/\ak X.K F1 ds vs/\sp ds (fun d=>P d Γ1) fun C=>E Γ1 C) I ⟨F,Γ,_,R,h,fun ds Γ1 F1 H1 vs R1 s1 r1 h1=>⟨F1,Γ1,ds,R1,s1,r1,h1⟩⟩) fun us s1 ⟨vs,H1,I1,r,F1,Γ1,ds,R1,sF,rs,q⟩=>⟨I1.kIn,?_⟩) he hpl;have hs:oM X.K sp vs H1 Q (fun C dx H' =>E Γ1 C/\dx=none/\Same H1 H'):=⟨F1,ds,_,_,R1.g,rs,q,fun t v as F' H' gr nd hn rt hp=>kk t Γ1 F' H' v as (R1.grow gr) (sF.trans gr.f) nd (fun a ha=>⟨(hn a ha).1,R1.gr.h.free (hn a ha).2,R1.apart (hn a ha).2⟩) rt hp,fun C H' hE hS=>⟨hE,rfl,hS⟩⟩;have hl:(us++ []).length=ps.length:=by rw[List.append_nil,<- r.length];exact Fn.len _ _ _ _ hs
 have hbs:=hb s1 us I1.kIn hl;rw[List.append_nil] at hbs;refine wpAny_call (codeAny_mono (Fn.run X.A X.stack s1 H1 ⟨us,[]⟩ us vs Q _ hr I1.env0 hbs r hs) fun r s' hq=> ?_);cases r with
 | error e=>exact cx.px pins σ Γ1 F1 H1 s1 e s' I1 R1 hq
 | ok fl=>
  cases fl with
  | ret u=>exact I1.after hq
  | next=>exact False.elim hq
  | brk=>exact False.elim hq
  | cont=>exact False.elim hq
end
def aa1(i:Nat)(t:TE):TS:=fun D σ H=>∃a vs,σ[i]?=some (some (.ref a))/\H a=some (.lst vs)/\t σ H fun v H1=>∃l us y,V.ref a= .ref l/\ [v]= [y]/\H1 l=some (.lst us)/\us.length<sizeLine/\D.nx σ (upd H1 l (.lst (us++ [y])))
section
variable{X:Cx}{F0 H0:Hp}{e:Expr}{pos npos apos cpos:Pos}{x:Str}{i:Nat}{t:TE}{te:aH}{tn:jo}
def cTA(i:Nat)(te:aH):au:=fun D Γ E=>(∃as ts,Γ[i]?=some (.tr as (.lst ts)))/\te Γ (fun d Γ1=>match Γ1[i]? with | some (.tr as (.lst ts))=>ts.length<sizeLine/\D.nx (Γ1.set i (.tr as (.lst (ts++ [.leaf d])))) | _=>False) E
def cTN(i:Nat)(tn:jo):au:=fun D Γ E=>(∃as ts,Γ[i]?=some (.tr as (.lst ts)))/\tn Γ (fun t Γ1=>match Γ1[i]? with | some (.tr as (.lst ts))=>ts.length<sizeLine/\∀cs,D.nx (Γ1.set i (.tr (as++cs) (.lst (ts++ [t])))) | _=>False) E
end
end L3
namespace L3
open PySem PySem.Spec PyProof.Rows L2
def je(ks:List Key)(k:Key):Bool:=ks.any fun k' =>decide (k' =k)
theorem kO:je ks k=true↔k∈ks:=by
 unfold je;rw[List.any_eq_true];exact⟨fun⟨x,h,e⟩=>of_decide_eq_true e ▸ h,fun h=>⟨k,h,decide_eq_true rfl⟩⟩
def eV(ks:List Key)(k:Key):List Key:=if je ks k=true then ks else ks++ [k]
def cP{α:Type}(ks:List Key)(xs:List α)(k:Key)(x:α):List α:=if je ks k=true then List.zipWith (fun k' y=>if k' =k then x else y) ks xs else xs++ [x]
theorem Zf:∀{ks:List Key} {vs:List V},ks.length=vs.length ->(ks.zip vs).map (fun kv=>if kv.1=k then(kv.1,v) else kv)=ks.zip (List.zipWith (fun k' y=>if k' =k then v else y) ks vs)
 | [],_,_=>rfl
 | _::_,[],h=>by cases h
 | k' ::ks,w::vs,h=>by
  rw[List.zip_cons_cons,List.map_cons,List.zipWith_cons_cons,List.zip_cons_cons,Zf (by simpa using h)]
  by_cases q:k' =k<;>simp [q]
theorem RM(h:ks.length=vs.length):putK (ks.zip vs) k v=(eV ks k).zip (cP ks vs k v):=by
 unfold putK eV cP;have e:((ks.zip vs).any fun kv=>decide (kv.1=k))=true↔je ks k=true:=by
  rw[kO,List.any_eq_true];constructor
  ·rintro⟨kv,hm,q⟩;have:=List.mem_map_of_mem (f:=(·.1)) hm;rw[RK h] at this;rw[<- of_decide_eq_true q];exact this
  ·intro hm;rw[<- RK h] at hm;obtain⟨kv,h1,h2⟩:=zG.mp hm;exact⟨kv,h1,decide_eq_true h2⟩
 by_cases q:je ks k=true
 ·rw[if_pos (e.mpr q),if_pos q,if_pos q];exact Zf h
 ·rw[if_neg (fun z=>q (e.mp z)),if_neg q,if_neg q,List.zip_append h]
  rfl
theorem Zg(h:ks.length=xs.length):(eV ks k).length=(cP ks xs k x).length:=by
 unfold eV cP;split
 ·rw[List.length_zipWith,<- h,Nat.min_self]
 ·simp [h]
theorem Zh{K:W.Frag}{F:Hp}{k:Key}{d:D}{v:V}(r:Rep K F d v):∀{ks:List Key} {xs:List D} {vs:List V},ak K F xs vs ->ak K F (List.zipWith (fun k' y=>if k' =k then d else y) ks xs) (List.zipWith (fun k' y=>if k' =k then v else y) ks vs)
 | [],xs,vs,h=>by simp [ak]
 | _::_,[],vs,h=>by unfold ak at h;subst h;simp [ak]
 | k' ::ks,x::xs,vs,h=>by
  unfold ak at h;obtain⟨u,us,rfl,h1,h2⟩:=h;rw[List.zipWith_cons_cons,List.zipWith_cons_cons];refine pI ?_ (Zh r h2);by_cases q:k' =k
  ·rw[if_pos q,if_pos q];exact r
  ·rw[if_neg q,if_neg q];exact h1
theorem Zi{K:W.Frag}{F:Hp}{ks:List Key}{xs:List D}{vs:List V}{k:Key}{d:D}{v:V}(h:ak K F xs vs)(r:Rep K F d v):ak K F (cP ks xs k d) (cP ks vs k v):=by
 unfold cP;split
 ·exact Zh r h
 ·exact Az h (Jy r)
theorem RN{K:W.Frag}{F H:Hp}:∀{xs:List D} {vs:List V} {as:List Addr},cW K F H (xs.map .leaf) vs as ->as= []/\ak K F xs vs
 | [],vs,as,h=>by rw[List.map_nil] at h;unfold cW at h;unfold ak;exact⟨h.2,h.1⟩
 | x::xs,vs,as,h=>by
  rw[List.map_cons] at h;unfold cW at h;obtain⟨v,us,bs,cs,rfl,rfl,h1,h2⟩:=h;unfold TR at h1;obtain⟨rfl,r⟩:=h1;obtain⟨rfl,rs⟩:=RN h2;exact⟨rfl,pI r rs⟩
def cDP(i:Nat)(tk tv:aH):au:=fun D Γ E=>tv Γ (fun d Γ1=>(∃as t,Γ1[i]?=some (.tr as t))/\tk Γ1 (fun kd Γ2=>match kd,Γ2[i]? with
 | .int k,some (.tr as (.dic ks ts))=>∃xs,ts=xs.map .leaf/\ks.length<sizeLine/\D.nx (Γ2.set i (.tr as (.dic (eV ks (.inl k)) ((cP ks xs (.inl k) d).map .leaf))))
 | _,_=>False) E) E
section
variable{X:Cx}{F0 H0:Hp}{ke value:Expr}{pos npos pos' :Pos}{x:Str}{i:Nat}{tk tv:aH}
end
section
variable{K:W.Frag}{F0 H0 F H F' H' :Hp}{σ σ' :St}{Γ Γ' :List Slot}
open Classical in
noncomputable def aa2 (Γ:List Slot) (σ:St) (H:Hp):Hp:=fun b=>if nu Γ σ b then none else H b
end
def Gk(i x:Nat)(a b:Addr)(BJ:List T)(j:Nat)(I:Nat ->G2 ->Prop):G2 ->Prop:=fun Γ' =>∃cs' us',Γ'[x]?=some (Slot.tr (b::cs') (.lst us'))/\Γ'[i]?=some (Slot.pu (.ptr a))/\
 ∀q:List Addr,I (j+1) ((Γ'.set x Slot.no).set i (Slot.tr (a::q) (.lst (BJ.set j (.lst us')))))
def Zj(i x:Nat)(tb:au):au:=fun D0 Γ _=>∃as ts,Γ[i]?=some (Slot.tr as (.lst ts))/\∀a bs,as=a::bs ->∃I:Nat ->G2 ->Prop,I 0 Γ/\
 (∀(j:Nat) Γ1,j<ts.length ->I j Γ1 ->∃bs1 BJ us,Γ1[i]?=some (Slot.tr (a::bs1) (.lst BJ))/\BJ.length=ts.length/\BJ[j]?=some (.lst us)/\
  ∀(b:Addr) (cs:List Addr),tb {nx:=Gk i x a b BJ j I,ct:=fun _=>False,bk:=fun _=>False,rt:=D0.rt,rf:=D0.rf,rT:=D0.rT} ((Γ1.set i (Slot.pu (.ptr a))).set x (Slot.tr (b::cs) (.lst us))) j9)/\
 ∀Γ1,I ts.length Γ1 ->D0.nx Γ1
section
variable{X:Cx}{F0 H0:Hp}{pos px pn:Pos}{xv xn:Str}{i x:Nat}{body:List Stmt}{tb:au}
open Classical in
end
def nL1(t:jo):jo:=fun Γ P E=>t Γ (fun tr Γ1=>P (.lst [tr]) Γ1) E
section
variable{X:Cx}{F0 H0:Hp}{e:Expr}{pos:Pos}{tn:jo}
end
end L3
namespace L3
open PySem PySem.Spec PyProof.Rows L2 PySem.W
structure Ord (lt:Nat ->Nat ->Bool) (n:Nat):Prop where
 tri:∀i j,i<n ->j<n ->i≠j ->lt i j=false ->lt j i=true
 RP:∀i j,i<n ->j<n ->lt i j=true ->lt j i=false
 tr:∀i j k,i<n ->j<n ->k<n ->lt i j=true ->lt j k=true ->lt i k=true
def Sat{α:Type}(lt:Nat ->Nat ->Bool)(n:Nat)(t:KasT α)(Q:α ->Prop):Prop:=za lt n t=true/\Q (Bv lt t)
section
variable{lt:Nat ->Nat ->Bool}{n:Nat}{α β:Type}
theorem tV(h:Q a):Sat lt n (.ret a) Q:=⟨rfl,h⟩
theorem BK(hi:i<n)(hj:j<n)(hij:i≠j)(h:Sat lt n (k (lt i j)) Q):Sat lt n (.ask i j k) Q:=by
 refine⟨?_,h.2⟩;unfold za;simp only [Bool.and_eq_true,decide_eq_true_eq];exact⟨hi,hj,hij,h.1⟩
theorem BL:∀{t:KasT α},Sat lt n t (fun a=>Sat lt n (f a) Q) ->Sat lt n (t.bind f) Q
 | .ret a,h=>h.2
 | .ask i j k,h=>by
  have h1:=h.1;unfold za at h1;simp only [Bool.and_eq_true,decide_eq_true_eq] at h1;exact BK h1.1 h1.2.1 h1.2.2.1 (BL ⟨h1.2.2.2,h.2⟩)
theorem Sat.imp(h:Sat lt n t Q)(k:∀a,Q a ->Q' a):Sat lt n t Q' :=⟨h.1,k _ h.2⟩
def Pm(n:Nat)(p:Array Nat):Prop:=p.toList.Perm (List.range n)
theorem Pm.size(h:Pm n p):p.size=n:=by simpa using List.Perm.length_eq h
theorem Gn{p:Array Nat}{k:Nat}(hk:k<p.size):p.getD k 0=p.toList[k]'(by simpa using hk):=by simp [Array.getD,hk]
theorem Pm.below{p:Array Nat}(h:Pm n p){k:Nat}(hk:k<n):p.getD k 0<n:=by
 have hk' :k<p.size:=by rw[h.size];exact hk
 rw[Gn hk'];exact List.mem_range.mp (h.mem_iff.mp (zA _))
theorem Pm.ne{p:Array Nat}(h:Pm n p){k j:Nat}(hk:k<n)(hj:j<n)(hkj:k≠j):p.getD k 0≠p.getD j 0:=by
 have nd:p.toList.Nodup:=h.nodup_iff.mpr List.nodup_range;rw[Gn (by rw[h.size];exact hk),Gn (by rw[h.size];exact hj)]
 have key:=List.pairwise_iff_getElem.mp nd;rcases Nat.lt_or_gt_of_ne hkj with q | q
 ·exact key k j _ _ q
 ·exact fun z=>key j k _ _ q z.symm
def Lp(lt:Nat ->Nat ->Bool)(p:Array Nat)(i j:Nat):Bool:=lt (p.getD i 0) (p.getD j 0)
def Up(lt:Nat ->Nat ->Bool)(p:Array Nat)(r:Nat):Prop:=∀i j,i<j ->j<r ->Lp lt p i j=true
def Dn(lt:Nat ->Nat ->Bool)(p:Array Nat)(r:Nat):Prop:=∀i j,i<j ->j<r ->Lp lt p j i=true
theorem RQ(O:Ord lt n)(P:Pm n p)(hi:i<n)(hj:j<n)(hij:i≠j)(h:Lp lt p i j=false):Lp lt p j i=true:=O.tri _ _ (P.below hi) (P.below hj) (P.ne hi hj hij) h
theorem Kp(O:Ord lt n)(P:Pm n p)(hi:i<n)(hj:j<n)(hk:k<n)(h:Lp lt p i j=true)(h' :Lp lt p j k=true):Lp lt p i k=true:=O.tr _ _ _ (P.below hi) (P.below hj) (P.below hk) h h'
theorem z25(O:Ord lt n)(P:Pm n p)(hr:r<n)(h1:1<=r)(U:Up lt p r)(h:Lp lt p (r - 1) r=true):Up lt p (r+1):=fun i j hij hj=>by
 rcases Nat.lt_or_ge j r with q | q
 ·exact U i j hij q
 ·obtain rfl:j=r:=by omega
  rcases Nat.lt_or_ge i (j - 1) with q' | q'
  ·exact Kp O P (by omega) (by omega) hr (U i (j - 1) q' (by omega)) h
  ·obtain rfl:i=j - 1:=by omega
   exact h
theorem z0u(O:Ord lt n)(P:Pm n p)(hr:r<n)(h1:1<=r)(U:Dn lt p r)(h:Lp lt p r (r - 1)=true):Dn lt p (r+1):=fun i j hij hj=>by
 rcases Nat.lt_or_ge j r with q | q
 ·exact U i j hij q
 ·obtain rfl:j=r:=by omega
  rcases Nat.lt_or_ge i (j - 1) with q' | q'
  ·exact Kp O P hr (by omega) (by omega) h (U i (j - 1) q' (by omega))
  ·obtain rfl:i=j - 1:=by omega
   exact h
theorem RT(O:Ord lt n)(P:Pm n p):∀(f m:Nat),1<=m ->m+f<=n ->Up lt p m ->Sat lt n (kas_asc p f m) fun r=>m<=r/\r<=m+f/\Up lt p r/\ (r<m+f ->Lp lt p r (r - 1)=true)
 | 0,m,h1,_,U=>tV ⟨zO _,zO _,U,fun z=>absurd z (yZ _)⟩
 | f+1,m,h1,hn,U=>by
  unfold kas_asc;refine BK (P.below (by omega)) (P.below (by omega)) (P.ne (by omega) (by omega) (by omega)) ?_
  cases q:lt (p.getD m 0) (p.getD (m - 1) 0) with
  | true=>
   rw[if_pos rfl];exact tV ⟨zO _,by omega,U,fun _=>q⟩
  | false=>
   rw[if_neg (by decide)]
   refine(RT O P f (m+1) (by omega) (by omega) (z25 O P (by omega) h1 U (RQ O P (by omega) (by omega) (by omega) q))).imp fun r ⟨a1,a2,a3,a4⟩=>⟨by omega,by omega,a3,fun z=>a4 (by omega)⟩
theorem Zk(O:Ord lt n)(P:Pm n p):∀(f m:Nat),1<=m ->m+f<=n ->Dn lt p m ->Sat lt n (kas_desc f p m 0) fun r=>r.1=p/\m<=r.2.1/\r.2.1<=m+f/\r.2.2=0/\Dn lt p r.2.1
 | 0,m,h1,_,U=>tV ⟨rfl,zO _,zO _,rfl,U⟩
 | f+1,m,h1,hn,U=>by
  unfold kas_desc;refine BK (P.below (by omega)) (P.below (by omega)) (P.ne (by omega) (by omega) (by omega)) ?_
  cases q:lt (p.getD m 0) (p.getD (m - 1) 0) with
  | true=>
   rw[if_pos rfl,if_neg (by decide)]
   exact(Zk O P f (m+1) (by omega) (by omega) (z0u O P (by omega) h1 U q)).imp fun r hq1=>by obtain⟨a1,a2,a3,a4,a5⟩:=hq1;exact⟨a1,by omega,by omega,a4,a5⟩
  | false=>
   rw[if_neg (by decide)]
   refine BK (P.below (by omega)) (P.below (by omega)) (P.ne (by omega) (by omega) (by omega)) ?_
   have q' :lt (p.getD (m - 1) 0) (p.getD m 0)=true:=RQ O P (i:=m) (j:=m - 1) (by omega) (by omega) (by omega) q
   rw[q',if_pos rfl];exact tV ⟨rfl,zO _,by show m<=_;omega,rfl,U⟩
theorem Zm(P:Pm n p)(i j:Nat):Pm n (kas_rev p i j):=(Array.perm_iff_toList_perm.mp (mirror_perm p i j ((j - i)/2))).trans P
theorem getD_get?{p q:Array Nat}{i j:Nat}(h:p[i]?=q[j]?):p.getD i 0=q.getD j 0:=by
 rw[Array.getD_eq_getD_getElem?,Array.getD_eq_getD_getElem?,h]
theorem Zn{p:Array Nat}{m k:Nat}(hm:m<=p.size)(hk:k<m):(kas_rev p 0 m).getD k 0=p.getD (m - 1 - k) 0:=by
 have e:=getElem?_mirror_all (i:=0) hm k;rw[if_pos ⟨Nat.zero_le _,hk⟩] at e;have:=getD_get? e;rw[show 0+m - 1 - k=m - 1 - k by omega] at this
 exact this
theorem z23(O:Ord lt n)(P:Pm n p)(h1:1<=m)(hm:m<=n)(D:Dn lt p m):Sat lt n (kas_tail3 m n p) fun r=>Pm n r.2/\1<=r.1/\r.1<=n/\Up lt r.2 r.1:=by
 unfold kas_tail3;have U:Up lt (kas_rev p 0 m) m:=fun i j hij hj=>by
  unfold Lp;rw[Zn (by rw[P.size];exact hm) (by omega),Zn (by rw[P.size];exact hm) hj]
  exact D (m - 1 - j) (m - 1 - i) (by omega) (by omega)
 exact BL ((RT O (Zm P 0 m) (n - m) m h1 (by omega) U).imp fun r ⟨a1,a2,a3,_⟩=>tV ⟨Zm P 0 m,by show 1<=r;omega,by show r<=n;omega,a3⟩)
theorem z2x(O:Ord lt n)(P:Pm n p)(h1:1<=n):Sat lt n (kas_count n p) fun r=>Pm n r.2/\1<=r.1/\r.1<=n/\Up lt r.2 r.1:=by
 unfold kas_count;refine BL ((RT O P (n - 1) 1 (zO _) (by omega) (fun i j a b=>by omega)).imp fun r ⟨a1,a2,a3,a4⟩=> ?_)
 by_cases e:r=n
 ·rw[if_pos (by simp [e])]
  exact tV ⟨P,a1,by show r<=n;omega,a3⟩
 ·rw[if_neg (by simp [e])]
  by_cases g:r>1
  ·rw[if_pos g];refine BK (P.below (by omega)) (P.below (by omega)) (P.ne (by omega) (by omega) (by omega)) ?_
   have q:lt (p.getD 0 0) (p.getD (r - 1) 0)=true:=a3 0 (r - 1) (by omega) (by omega)
   rw[q,if_pos rfl];exact tV ⟨P,a1,by show r<=n;omega,a3⟩
  ·rw[if_neg g];obtain rfl:r=1:=by omega
   unfold kas_descPart;have q:=a4 (by omega)
   have D:Dn lt p 2:=fun i j hij hj=>by
    obtain rfl:i=0:=by omega
    obtain rfl:j=1:=by omega
    exact q
   refine BL ((Zk O P (n - (1+1)) (1+1) (by omega) (by omega) D).imp fun r hq2=> ?_)
   obtain⟨b1,b2,b3,b4,b5⟩:=hq2;rw[if_neg (by omega),b1]
   exact z23 O P (by omega) (by omega) b5
theorem RV(O:Ord lt n)(P:Pm n p)(hk:k<n)(U:Up lt p k):∀(f l r:Nat),l<=r ->r<=k ->r - l<=f ->(∀j,j<l ->Lp lt p j k=true) ->(∀j,r<=j ->j<k ->Lp lt p k j=true) ->
  Sat lt n (kas_place p k f l r) fun x=>x<=k/\ (∀j,j<x ->Lp lt p j k=true)/\∀j,x<=j ->j<k ->Lp lt p k j=true
 | 0,l,r,h1,h2,h3,h4,h5=>tV ⟨by omega,h4,fun j a b=>h5 j (by omega) b⟩
 | f+1,l,r,h1,h2,h3,h4,h5=>by
  unfold kas_place;by_cases g:l≥r
  ·rw[if_pos g];exact tV ⟨by omega,h4,fun j a b=>h5 j (by omega) b⟩
  ·rw[if_neg g];have m1:l<=(l+r)/2:=by omega
   have m2:(l+r)/2<r:=by omega
   refine BK (P.below hk) (P.below (by omega)) (P.ne hk (by omega) (by omega)) ?_
   cases q:lt (p.getD k 0) (p.getD ((l+r)/2) 0) with
   | true=>
    rw[if_pos rfl];refine RV O P hk U f l _ m1 (by omega) (by omega) h4 fun j a b=> ?_
    rcases Nat.lt_or_ge ((l+r)/2) j with z | z
    ·exact Kp O P hk (by omega) (by omega) q (U _ j z b)
    ·obtain rfl:j=(l+r)/2:=by omega
     exact q
   | false=>
    rw[if_neg (by decide)]
    have q' :Lp lt p ((l+r)/2) k=true:=RQ O P hk (by omega) (by omega) q
    refine RV O P hk U f _ r (by omega) h2 (by omega) (fun j a=> ?_) h5
    rcases Nat.lt_or_ge j ((l+r)/2) with z | z
    ·exact Kp O P (by omega) (by omega) hk (U j _ z (by omega)) q'
    ·obtain rfl:j=(l+r)/2:=by omega
     exact q'
theorem z4s(P:Pm n p)(k d:Nat):Pm n (bubble p k d):=(Array.perm_iff_toList_perm.mp (bubble_perm p k d)).trans P
theorem Zo(O:Ord lt n):∀(f:Nat) (p:Array Nat) (k:Nat),Pm n p ->k+f=n ->Up lt p k ->Sat lt n (kas_bin f p k) fun q=>Pm n q/\Up lt q n
 | 0,p,k,P,h,U=>by
  obtain rfl:k=n:=by omega
  exact tV ⟨P,U⟩
 | f+1,p,k,P,h,U=>by
  unfold kas_bin;have hk:k<n:=by omega
  refine BL ((RV O P hk U k 0 k (Nat.zero_le _) (zO _) (by omega) (fun j a=>by omega) (fun j a b=>by omega)).imp fun l ⟨a1,a2,a3⟩=> ?_)
  refine Zo O f _ (k+1) (z4s P k (k - l)) (by omega) fun i j hij hj=> ?_
  have at' :∀x,(bubble p k (k - l)).getD x 0=if x=l then p.getD k 0 else if l<x/\x<=k then p.getD (x - 1) 0 else p.getD x 0:=fun x=>by
   have e:=getElem?_bubble (xs:=p) (src:=k) (by rw[P.size];exact hk) (k - l) (by omega) x
   rw[show k - (k - l)=l by omega] at e
   split
   ·rename_i q;rw[if_pos q] at e;exact getD_get? e
   ·rename_i q;rw[if_neg q] at e;split
    ·rename_i q2;rw[if_pos q2] at e;exact getD_get? e
    ·rename_i q2;rw[if_neg q2] at e;exact getD_get? e
  show lt _ _=true;rw[at',at'];by_cases e1:i=l
  ·rw[if_pos e1,if_neg (by omega),if_pos (by omega)]
   exact a3 (j - 1) (by omega) (by omega)
  ·rw[if_neg e1];by_cases e2:j=l
   ·rw[if_pos e2,if_neg (by omega)]
    exact a2 i (by omega)
   ·rw[if_neg e2];by_cases e3:l<i/\i<=k
    ·rw[if_pos e3,if_pos (by omega)]
     exact U (i - 1) (j - 1) (by omega) (by omega)
    ·rw[if_neg e3];by_cases e4:l<j/\j<=k
     ·rw[if_pos e4];exact U i (j - 1) (by omega) (by omega)
     ·rw[if_neg e4];exact U i j hij (by omega)
theorem z40(O:Ord lt n):Sat lt n (kas_sort n) fun q=>Pm n q/\Up lt q n:=by
 unfold kas_sort;have P0:Pm n (List.toArray (List.range n)):=by unfold Pm;exact List.Perm.refl _
 by_cases h0:n=0
 ·subst h0;exact⟨rfl,(by unfold Pm;exact List.Perm.refl _),fun i j _ hj=>absurd hj (Nat.not_lt_zero _)⟩
 ·refine BL ((z2x O P0 (by omega)).imp fun r ⟨a1,a2,a3,a4⟩=> ?_)
  by_cases g:r.1<n
  ·rw[if_pos g,show max r.1 1=r.1 by omega]
   exact Zo O _ _ _ a1 (by omega) a4
  ·rw[if_neg g];obtain e:r.1=n:=by omega
   exact tV ⟨a1,e ▸ a4⟩
end
end L3
namespace L3
open PySem PySem.Spec PyProof.Rows L2
def mK(lt:Nat ->Nat ->Bool)(is:List Nat):Prop:=is.Pairwise fun i j=>lt i j=true
theorem z4g(P:Pm n q)(U:Up lt q n):mK lt q.toList:=by
 unfold mK;rw[List.pairwise_iff_getElem];intro i j hi hj hij;have hj' :j<q.size:=by simpa using hj
 have hi' :i<q.size:=by omega
 have:=U i j hij (by rw[<- P.size];exact hj')
 unfold Lp at this;rw[Gn hi',Gn hj'] at this;exact this
structure vN (prog:Program) (w:World) (A:Around) (E:bJ) (vs:List Value) (lt:Nat ->Nat ->Bool) (T:Heap ->Prop) (κ:SortKind):Prop where
 kind:∀(s:Shared) (Q:SortKind ->Shared ->Prop),T s.heap ->2<=vs.length ->Q κ s ->wpAny (model prog w) A (keyKind' vs.toArray) Q E s
 ask:∀(s:Shared) (i j:Nat) (C:Bool ->Shared ->Prop),T s.heap ->i<vs.length ->j<vs.length ->i≠j ->C (lt i j) s ->W.kas_ask prog w A κ vs i j C s
section
variable{prog:Program}{w:World}{A:Around}{E:bJ}{s:Shared}
theorem zlj{a:Addr}{vs:List Value}{lt:Nat ->Nat ->Bool}{T:Heap ->Prop}{κ:SortKind}{n:Nat}{P:PySem.Fin ->Shared ->Prop}(hob:s.heap.get? a=some (seqObj "list" vs.toArray n))(O:Ord lt vs.length)(hT:T s.heap)
  (hst:∀h',(∀x o,s.heap.get? x=some o ->x≠a ->h'.get? x=some o) ->T h') (K:vN prog w A E vs lt T κ) (h64:vs.length<64)
  (h:∀is:List Nat,is.Perm (List.range vs.length) ->mK lt is ->P (.done (.ret .none)) {s with heap:=sortedHeap s.heap a vs (is.map fun i=>vs.getD i Value.none).toArray}):wpAny (model prog w) A (Builtin.«list.sort» ⟨[.ref a],[]⟩) P E s:=by
 have hal:a<s.heap.objs.size:=zJ hob;have BP:vs.length<=sizeLine:=by rw[sizeLine_eq];omega
 rw[list_sort_plain];refine z6 (listItems_at (n:=n) hob rfl ?_);refine z6 (listUpdate_at (n:=n) hob rfl ?_ (by rw[List.size_toArray];exact BP) (Nat.zero_le _))
 obtain⟨ea,hoa⟩:∃ea,(s.heap.update a (Obj.mapSeq fun _=> #[])).get? a=some (seqObj "list" #[] ea):=⟨_,get?_update_seq hob (fun _=> #[])⟩;refine z6 (seqEpoch_at (n:=ea) hoa rfl ?_);refine z6 (wpAny_newTuple ?_ (by simpa using BP))
 refine z6 (wpAny_newList ?_ (Nat.zero_le _));refine wpAny_holding (m:=_) ?_;have vO:(((s.heap.update a (Obj.mapSeq fun _=> #[])).push (seqObj "tuple" vs.toArray 0)).push (seqObj "list" #[] 0)).get? a=some (seqObj "list" #[] ea):=by
  refine Eq.trans (zE _ _ _ ?_) (Eq.trans (zE _ _ _ ?_) hoa)
  ·rw[size_push',Heap.size_update];exact zL (Nat.lt_succ_of_lt hal)
  ·rw[Heap.size_update];exact zL hal
 have T2:T (((s.heap.update a (Obj.mapSeq fun _=> #[])).push (seqObj "tuple" vs.toArray 0)).push (seqObj "list" #[] 0)):=hst _ fun x o hx hxa=>by
  have hlt:=zJ hx;refine Eq.trans (zE _ _ _ ?_) (Eq.trans (zE _ _ _ ?_) (Eq.trans (Heap.get?_update_ne _ _ _ _ hxa) hx))
  ·rw[size_push',Heap.size_update];exact zL (Nat.lt_succ_of_lt hlt)
  ·rw[Heap.size_update];exact zL hlt
 show wpAny (model prog w) A _ P E ({s with heap:=((s.heap.update a (Obj.mapSeq fun _=> #[])).push (seqObj "tuple" vs.toArray 0)).push (seqObj "list" #[] 0)}:Shared);dsimp only;have hsv:vs.toArray.size=vs.length:=List.size_toArray ..;by_cases hfew:vs.toArray.size<2
 ·rw[if_pos hfew,if_pos hfew];refine z6 (z7 (α:=_) ?_);rw[StateT.run_pure];refine z6 (z7 (α:=_) ?_);dsimp only;refine z6 (seqEpoch_at (n:=ea) vO rfl ?_);have eo:(arrOf (SortSt.mk' general' (vs.toArray.zip vs.toArray) #[] 7 none)).map (·.2)=((List.range vs.length).map fun i=>vs.getD i Value.none).toArray:=by
   show(vs.toArray.zip vs.toArray).map (·.2)=_;apply Array.toList_inj.mp;apply List.ext_getElem
   ·simp
   ·intro i q1 q2;have:i<vs.length:=by simpa using q2
    simp [this]
  rw[eo];refine z6 (listUpdate_at (n:=ea) vO rfl ?_ (Nat.zero_le _) ?_)
  ·simp only [bne_self_eq_false,Bool.false_eq_true,if_false];refine z7 (α:=_) (h _ (.refl _) ?_);unfold mK;rw[List.pairwise_iff_getElem];intro i j hi hj hij;have:j<vs.length:=by simpa using hj
   omega
  ·simp;omega
 ·rw[if_neg hfew,if_neg hfew];refine z6 (K.kind _ _ T2 (by omega) ?_)
  obtain⟨ok,Pq,Uq⟩:=z40 O;show wpAny _ _ (StateT.run sortRuns' (SortSt.mk' κ (vs.toArray.zip vs.toArray) #[] 7 none)>>=_) _ _ _;refine z6 (wpAny_mono (W.kat_run (Q:=fun st' s' =>∃p:Array Nat,p.size=vs.length/\arrOf st' =p.map (W.kas_item (vs.toArray.zip vs.toArray))/\failedOf st' =none/\p=Bv lt (W.kas_sort vs.length)/\s' ={s with heap:=((s.heap.update a (Obj.mapSeq fun _=> #[])).push (seqObj "tuple" vs.toArray 0)).push (seqObj "list" #[] 0)})
   (G:=fun p s' =>p=Bv lt (W.kas_sort vs.length)/\s' ={s with heap:=((s.heap.update a (Obj.mapSeq fun _=> #[])).push (seqObj "tuple" vs.toArray 0)).push (seqObj "list" #[] 0)})
   rfl (by omega) (by omega) (fun p st' s' a1 a2 a3 a4=>⟨p,a1,a2,a3,a4⟩) ?_) ?_ fun _ _ y=>y)
  ·exact Yx (fun i j C hi hj hij hC=>K.ask _ i j C T2 hi hj hij hC) _ _ ok ⟨rfl,rfl⟩
  ·rintro⟨⟨⟩,st'⟩ s' ⟨p,hp,har,hf,rfl,rfl⟩;dsimp only;have eo:=W.kat_snds (vs:=vs) rfl har;rw[eo];refine z6 (seqEpoch_at (n:=ea) vO rfl ?_);refine z6 (listUpdate_at (n:=ea) vO rfl ?_ (Nat.zero_le _) ?_)
   ·rw[hf];simp only [bne_self_eq_false,Bool.false_eq_true,if_false];exact z7 (α:=_) (h _ Pq (z4g Pq Uq))
   ·exact zP (Nat.le_of_eq (ztz hp)) (by omega)
theorem Zq{src:Value}{Q:bJ}
  (hc:wpAny (model prog w) A.in1 (collect src) (fun vs s1=>∃lt T κ,Ord lt vs.length/\vs.length<64/\vN prog w A.in1.in1 E vs lt T κ/\ (∀h2:Heap,(∀x o,s1.heap.get? x=some o ->h2.get? x=some o) ->T h2)/\
   ∀(l:Addr) (h' :Heap) (is:List Nat) e,s1.heap.objs.size<=l ->is.Perm (List.range vs.length) ->mK lt is ->h'.get? l=some (seqObj "list" (is.map fun i=>vs.getD i Value.none).toArray e) ->(∀b ob,s1.heap.get? b=some ob ->h'.get? b=some ob) ->Q (.ref l) {s1 with heap:=h'}) E s):
  wpAny (model prog w) A (call (.builtin "sorted") [src]) Q E s:=by
 refine Calls.call_function_entry kind_sorted plain_sorted entry_sorted (args_sorted1 _) (show wpAny _ _ (Builtin.«sorted» _) _ _ _ from ?_);unfold Builtin.«sorted»;refine z6 (m:=checkCount "sorted" 1 1 _) (z7 (α:=_) ?_);refine z6 (m:=collect _) (wpAny_mono hc (fun vs s1 sZ=> ?_) fun _ _ y=>y);obtain⟨lt,T,κ,O,h64,K,hT2,h⟩:=sZ;have BP:vs.length<=sizeLine:=by rw[sizeLine_eq];omega
 refine z6 (wpAny_newList ?_ BP);have hoL:(s1.heap.push (seqObj "list" vs.toArray 0)).get? s1.heap.objs.size=some (seqObj "list" vs.toArray 0):=z9 _ rfl;refine z6 (m:=holding _ _) (wpAny_holding (vs:= [_]) (wpAny_call_entry slot_list_sort ⟨_,hoL,rfl⟩ entry_list_sort (zlj (T:=T) hoL O (hT2 _ fun x o e=>z8 _ e) (fun h' k=>hT2 _ fun x o e=>k x o (z8 _ e) (zL (zJ e))) K h64 fun is a1 a2=>⟨_,rfl,?_⟩) (args_list_sort _)));refine z7 (α:=_) ⟨_,rfl,?_⟩;obtain⟨e,he⟩:=z55 (vs:=vs) (out:=(is.map fun i=>vs.getD i Value.none).toArray) hoL;refine h s1.heap.objs.size _ is e (zO _) a1 a2 he fun b ob eb=> ?_;exact z5f (z8 _ eb) (zL (zJ eb))
end
def fZ(a b:Str):Bool:=decide (a.cps.toList<b.cps.toList)
theorem Zr(a:Str):fZ a a=false:=by unfold fZ;simpa using List.lt_irrefl a.cps.toList
theorem Zt(h1:fZ a b=true)(h2:fZ b c=true):fZ a c=true:=by
 unfold fZ at*;simp only [decide_eq_true_eq] at*;exact List.lt_trans h1 h2
theorem z2m(h1:fZ a b=false)(h2:a≠b):fZ b a=true:=by
 unfold fZ at*;simp only [decide_eq_false_iff_not,decide_eq_true_eq] at*;cases q:decide (b.cps.toList<a.cps.toList) with
 | true=>exact of_decide_eq_true q
 | false=>
  have:=List.le_antisymm (List.not_lt.mp h1) (List.not_lt.mp (of_decide_eq_false q));exact absurd (by cases a;cases b;simp at this;rw[this]) h2
theorem Zu(h:fZ a b=true):fZ b a=false:=by
 cases q:fZ b a with
 | false=>rfl
 | true=>have:=Zt h q;rw[Zr] at this;cases this
def BR(xs:List Str)(i j:Nat):Bool:=fZ (xs.getD i Str.empty) (xs.getD j Str.empty)
theorem rB{α:Type}{xs:List α}{i:Nat}{d:α}(h:i<xs.length):xs.getD i d=xs[i]:=by
 rw[List.getD_eq_getElem?_getD,List.getElem?_eq_getElem h];rfl
theorem Zv{xs:List Str}(nd:xs.Nodup):Ord (BR xs) xs.length:=by
 have key:=List.pairwise_iff_getElem.mp nd;refine⟨fun i j hi hj hij h=> ?_,fun i j _ _ h=>Zu h,fun i j k _ _ _ h1 h2=>Zt h1 h2⟩;refine z2m h ?_;rw[rB hi,rB hj];rcases Nat.lt_or_gt_of_ne hij with q | q
 ·exact key i j hi hj q
 ·exact fun z=>key j i hj hi q z.symm
def pick{α:Type}(d:α)(xs:List α)(is:List Nat):List α:=is.map fun i=>xs.getD i d
theorem Zw{α:Type}{d:α}{xs:List α}{is:List Nat}(h:is.Perm (List.range xs.length)):(pick d xs is).Perm xs:=by
 have e:(List.range xs.length).map (fun i=>xs.getD i d)=xs:=by
  apply List.ext_getElem
  ·simp
  ·intro i q1 q2;simp only [List.getElem_map,List.getElem_range];exact rB q2
 have:=h.map fun i=>xs.getD i d;rw[e] at this;exact this
theorem Zx(h:mK (BR xs) is):(pick Str.empty xs is).Pairwise fun a b=>fZ a b=true:=by
 unfold pick;rw[List.pairwise_map];exact h
theorem Kq{xs:List Str}{vs:List Value}(r:Vals (xs.map V.str) vs){i:Nat}(hi:i<xs.length):∃t,vs.getD i Value.none= .str (xs.getD i Str.empty) t:=by
 obtain⟨u,e,ru⟩:=r.get (i:=i) (x:= .str (xs.getD i Str.empty)) (by rw[List.getElem?_map,List.getElem?_eq_getElem hi,rB (d:=Str.empty) hi];rfl)
 rw[List.getD_eq_getElem?_getD,e];exact ru
theorem zy8{prog:Program}{w:World}{A:Around}{E:bJ}{xs:List Str}{vs:List Value}(r:Vals (xs.map V.str) vs):vN prog w A E vs (BR xs) (fun _=>True) oneType' :=by
 have hl:vs.length=xs.length:=by have:=r.length;simpa using this.symm
 refine⟨fun s Q _ h2 hQ=>W.kas_kind (T:= .type "str") h2 (fun v hv=> ?_) (by decide) (by decide) hQ,fun s i j C _ hi hj _ hC=> ?_⟩
 ·obtain⟨k,hk,rfl⟩:=List.mem_iff_getElem.mp hv;obtain⟨t,e⟩:=Kq r (i:=k) (by omega)
  rw[rB hk] at e;rw[e];exact W.Looks.of_pure rfl
 ·obtain⟨t,e⟩:=Kq r (i:=i) (by omega)
  obtain⟨u,e'⟩:=Kq r (i:=j) (by omega)
  unfold W.kas_ask;rw[e,e',keyLt'_oneType];exact oneLt_str hC
def vP:Value ->Key | .int i _=> .inl i | .str x _=> .inr x | _=> .inl 0
theorem z0t:∀k v,(jq prog w).is k v=true ->vP v=k:=fun k v h=>by
 rcases rO h with ⟨i,t,rfl,rfl⟩ | ⟨x,t,rfl,rfl⟩<;>rfl
theorem Zy:∀{vs:List Value} {ys:List Str},(∀v∈vs,(∃k,(jq prog w).is k v=true)/\v.scannable=true) ->vs.map vP=ys.map Sum.inr ->Vals (ys.map V.str) vs
 | [],[],_,_=> .nil
 | [],_::_,_,h=>by cases h
 | _::_,[],_,h=>by cases h
 | v::vs,y::ys,h,e=>by
  obtain⟨⟨k,hk⟩,_⟩:=h v zY;rw[List.map_cons,List.map_cons] at e;injection e with e1 e2;refine .cons ?_ (Zy (fun u hu=>h u (zX _ hu)) e2);rcases rO hk with ⟨i,t,rfl,rfl⟩ | ⟨x,t,rfl,rfl⟩
  ·cases e1
  ·have:x=y:=by injection e1
   subst this;exact⟨t,rfl⟩
theorem zx3:∀{ks:List Key} {xs:List Str},ks.Perm (xs.map Sum.inr) ->∃ys:List Str,ks=ys.map Sum.inr/\ys.Perm xs:=fun{ks xs} h=>by
 have e:ks=(ks.map fun k=>match k with | .inr x=>x | .inl _=>Str.empty).map Sum.inr:=by
  rw[List.map_map];refine Eq.trans (List.map_id ks).symm (List.map_congr_left fun k hk=> ?_);obtain⟨x,_,rfl⟩:=zG.mp (h.mem_iff.mp hk)
  rfl
 refine⟨_,e,?_⟩;have:=h.map fun k:Key=>match k with | .inr x=>x | .inl _=>Str.empty
 rw[List.map_map] at this;refine this.trans ?_;rw[show(List.map ((fun k:Key=>match k with | .inr x=>x | .inl _=>Str.empty) ∘ Sum.inr) xs)=xs from List.map_id' xs]
def jz(xs:List Str):List Str:=(fL (fun i=>(Sum.inr (xs.getD i Str.empty):Key)) xs.length).map fun k=>match k with | .inr x=>x | .inl _=>Str.empty
theorem RW(xs:List Str):fL (fun i=>(Sum.inr (xs.getD i Str.empty):Key)) xs.length=(jz xs).map Sum.inr:=by
 unfold jz;rw[List.map_map];refine Eq.trans (List.map_id _).symm (List.map_congr_left fun k hk=> ?_);obtain⟨j,_,rfl⟩:=(Rq _).mp hk
 rfl
theorem oN{xs:List Str}{x:Str}:x∈jz xs↔x∈xs:=by
 have e:x∈jz xs↔ (Sum.inr x:Key)∈fL (fun i=>(Sum.inr (xs.getD i Str.empty):Key)) xs.length:=by
  rw[RW,List.mem_map];constructor
  ·exact fun h=>⟨x,h,rfl⟩
  ·rintro⟨y,h,e⟩;have:y=x:=by injection e
   rw[<- this];exact h
 rw[e,Rq];constructor
 ·rintro⟨j,hj,e⟩;have:xs.getD j Str.empty=x:=by injection e
  rw[<- this,rB hj];exact zA hj
 ·intro h;obtain⟨j,hj,e⟩:=List.mem_iff_getElem.mp h;exact⟨j,hj,by rw[rB hj,e]⟩
theorem Zz(xs:List Str):(jz xs).Nodup:=by
 have:=YL (fun i=>(Sum.inr (xs.getD i Str.empty):Key)) xs.length;rw[RW] at this;exact List.Pairwise.imp (fun{a b} h z=>h (by rw[z])) (List.pairwise_map.mp this)
def tW(P:Program)(w:World)(a:Addr)(xs:List Str):HO:= .ext fun h=>kE (jq P w) vP (fW w) h a ((jz xs).map Sum.inr)
def wR(X:Cx):List V ->Hp ->VK ->Prop:=fun vs H Q=>∃(p:Addr) (xs:List Str),vs= [.ref p]/\fM X.K H p (xs.map .str)/\xs.length+1<scanBound/\∀q,H q=none ->Q (.ref q) (upd H q (tW X.prog X.w q xs))
def Gp(X:Cx):List V ->Hp ->VK ->Prop:=fun vs H Q=>∃(q:Addr) (xs:List Str),vs= [.ref q]/\H q=some (tW X.prog X.w q xs)/\ (jz xs).length<64/\
 ∀(l:Addr) (ms:List Str),H l=none ->ms.Perm (jz xs) ->ms.Pairwise (fun a b=>fZ a b=true) ->Q (.ref l) (upd H l (.lst (ms.map .str)))
theorem ztu(hc:X.calm=true):cH X (.type "set") (wR X):=by
 rintro pins s σ H xs us Q I r ⟨p,ns,e0,hq,hb,k⟩;subst e0;obtain⟨u,rfl,rx⟩:=vals1 r;cases rx;obtain⟨its,rv,pl,hz⟩:=I.list hq;have hl:=rv.length;rw[List.length_map] at hl;have hsz:its.toArray.size=ns.length:=by simpa using hl.symm
 refine zpu (κ:=Key) (knd:=jq X.prog X.w) (kf:=vP) z0t (val:=fun i=> .inr (ns.getD i Str.empty)) (I.ok.hd hc) pl.isList (fun i v hv=> ?_) (by rw[hsz];exact hb) fun h' tk hS hold=> ?_
 ·have hi:i<ns.length:=by rw[hl];exact(zW.mp (by simpa using hv)).1
  obtain⟨t,e⟩:=Kq rv hi;rw[List.getD_eq_getElem?_getD,show its[i]?=some v by simpa using hv] at e
  have e' :v= .str (ns.getD i Str.empty) t:=e;subst e';exact⟨Vt _ _ _ _,rfl⟩
 ·rw[hsz,RW] at hS;have I2:Inv X pins σ (upd H s.heap.objs.size (tW X.prog X.w s.heap.objs.size ns)) {s with heap:=h',toks:=tk}:=
   I.laid (t' :=tk) hold (zO _) (show aU X.prog X.w _ _ _ (tW X.prog X.w s.heap.objs.size ns) from ⟨hS,by obtain⟨o,_,_,_,e,_⟩:=hS;exact⟨o,e⟩,fun h1 h2 q st=>q.stay st⟩)
  exact⟨.ref s.heap.objs.size,_,I2,rfl,k _ (I.hok.fresh (zO _))⟩
theorem ZC(r:Vals xs vs)(h:∀i∈is,i<xs.length):Vals (pick .non xs is) (is.map fun i=>vs.getD i Value.none):=Yz r h
theorem RX{α β:Type}{f:α ->β}{d:α}{xs:List α}{is:List Nat}{e:β}(h:∀i∈is,i<xs.length):pick e (xs.map f) is=(pick d xs is).map f:=by
 unfold pick;rw[List.map_map];refine List.map_congr_left fun i hi=> ?_;show(xs.map f).getD i e=f (xs.getD i d);rw[rB (by rw[List.length_map];exact h i hi),rB (h i hi),List.getElem_map]
theorem zs9{X:Cx}(hc:X.calm=true):cH X (.builtin "sorted") (Gp X):=by
 rintro pins s σ H xs us Q I r ⟨q,ns,e0,hq,h64,k⟩;subst e0;obtain⟨u,rfl,rx⟩:=vals1 r;cases rx;obtain⟨⟨o,es,ep,t,hg,O⟩,_,_⟩:=I.hok q _ hq;have hlk:es.size=(jz ns).length:=by simpa using O.key.length_eq
 have line:(64:Nat)<=sizeLine:=by decide
 refine Zq (zpe (by simp [I.ok.hd hc]) hg O (by omega) fun vals h1 d tk hk hm hlt hold=> ?_)
 obtain⟨ys,e1,hp⟩:=zx3 hk;have rv:=Zy hm e1;have Bx:vals.length=ys.length:=by have:=rv.length;simpa using this.symm
 have hly:ys.length=(jz ns).length:=hp.length_eq;refine⟨BR ys,_,_,by rw[Bx];exact Zv (hp.nodup_iff.mpr (Zz ns)),by omega,zy8 rv,fun _ _=>trivial,fun l h' is e hle a1 a2 hl tY=> ?_⟩
 have hlt2:s.heap.objs.size<=l:=zP (Nat.le_of_lt hlt) hle;have hix:∀i∈is,i< (ys.map V.str).length:=fun i hi=>by
  rw[List.length_map,<- Bx];exact List.mem_range.mp (a1.mem_iff.mp hi)
 have hrv:=ZC rv hix;rw[RX (d:=Str.empty) (fun i hi=>by have:=hix i hi;rwa [List.length_map] at this)] at hrv
 have hms:(pick Str.empty ys is).Perm (jz ns):=(Zw (by rw[<- Bx];exact a1)).trans hp
 have hlen:((pick Str.empty ys is).map V.str).length<=sizeLine:=by rw[List.length_map,hms.length_eq];omega
 have I2:Inv X pins σ (upd H l (.lst ((pick Str.empty ys is).map .str))) {s with heap:=h',toks:=tk}:=
  I.laid (t' :=tk) (fun b ob eb=>tY b ob (hold b ob eb)) hlt2 (show aU X.prog X.w _ _ _ (.lst ((pick Str.empty ys is).map .str)) from ⟨hlen,_,e,hrv,hl⟩)
 exact⟨.ref l,_,z4f I2 d,rfl,k l _ (I.hok.fresh hlt2) hms (Zx a2)⟩
def kY:List D ->Option (List Str)
 | []=>some []
 | .str x::r=>(kY r).map (x:: ·)
 | _::_=>none
theorem ZD{K:W.Frag}{F:Hp}:∀{ds:List D} {vs:List V} {xs:List Str},ak K F ds vs ->kY ds=some xs ->vs=xs.map .str
 | [],vs,xs,r,h=>by unfold ak at r;cases h;subst r;rfl
 | d::ds,vs,xs,r,h=>by
  unfold ak at r;obtain⟨v,us,rfl,r1,r⟩:=r;cases d with
  | str x=>
   unfold kY at h;unfold Rep at r1;subst r1;cases q:kY ds with
   | none=>rw[q] at h;cases h
   | some ms=>rw[q] at h;cases h;rw[ZD r q];rfl
  | _=>cases h
theorem RZ{K:W.Frag}{F:Hp}:∀xs:List Str,ak K F (xs.map .str) (xs.map V.str)
 | []=>by unfold ak;rfl
 | n::ns=>pI (by unfold Rep;rfl) (RZ ns)
def BX:List D ->(List D ->Prop) ->Prop:=fun ds P=>match ds with
 | [.lst xs]=>∃ns,kY xs=some ns/\ns.length<4095/\ (jz ns).length<64/\∀ms:List Str,ms.Pairwise (fun a b=>fZ a b=true) ->(∀i,i∈ms↔i∈ns) ->P (ms.map .str)
 | _=>False
section
variable{X:Cx}{F0 H0:Hp}{a e:Expr}{pos p pos2 p2:Pos}{t:bh}
theorem ZF(hc:X.calm=true)(hg:Gl X "sorted")(hm:X.mg "sorted" =none)(hg2:Gl X "set")(hm2:X.mg "set" =none)(ha:QA X F0 H0 [a] t)(hb:bootBuiltins "sorted" =some (.builtin "sorted"):=by decide+kernel)
  (he:starEach [a] X.env=(false,eval a X.env)::starEach [] X.env:=by rfl) (he2:starEach [.Call (.Name "set" p2) [a] [] pos2] X.env=(false,eval (.Call (.Name "set" p2) [a] [] pos2) X.env)::starEach [] X.env:=by rfl):
  QF X F0 H0 (.Call (.Name "sorted" p) [.Call (.Name "set" p2) [a] [] pos2] [] pos) (qX BX t):=fun z E cx=>by
 have inner:PE (X.wsh z) (.Call (.Name "set" p2) [a] [] pos2) (DP (wR (X.wsh z)) (Es X.K F0 H0 t E)):=Nr (X:=X.wsh z) (ztu hc) hg2 hm2 zzn (ha z E cx) (by decide) (by decide) he rfl
 refine jt (Jt (X:=X.wsh z) (zs9 hc) hg hm hb (Js inner Ng he2) (by decide) (by decide) he2 rfl) fun σ H Q hq1=> ?_
 obtain⟨F,Γ,P,R,h,k⟩:=hq1;refine⟨F,Γ,_,R,h,fun ds Γ1 F1 H1 vs R1 s1 r1 h1=> ?_⟩;unfold BX at h1;split at h1
 ·unfold ak ak Rep at r1;obtain⟨v,_,rfl,⟨l,us,rfl,hq,rs⟩,rfl⟩:=r1;obtain⟨ns,hns,hlt,hme,h1⟩:=h1;obtain rfl:=ZD rs hns;refine⟨l,ns,rfl,R1.g.seq hq,by unfold scanBound;omega,fun q hq0=> ?_⟩
  refine⟨q,ns,rfl,lW,hme,fun l2 ms hl2 hp hs=> ?_⟩;have R2:SR X.K F0 H0 F1 (upd H1 q (tW X.prog X.w q ns)) σ Γ1:=R1.grow ⟨.refl _,fun b u e=>by rw[c7 (lU (R1.g b u e) hq0)];exact R1.g b u e,fun b u e=>by rw[c7 (lU e hq0)];exact e,fun b o e n=>by rw[e] at n;cases n⟩
  obtain⟨R3,q1,q2,q3,ap⟩:=yD R2 hl2 (RZ (K:=X.K) (F:=F1) ms);exact k _ Γ1 F1 _ l2 _ R3 s1 q1 q2 q3 (RZ ms) ap (h1 ms hs fun i=>hp.mem_iff.trans oN)
 ·exact h1.elim
end
open PySem.AutoSeq1 (wpAny_loadPart')
open PySem.MeetsSeq PySem.MeetsSeq3 in
theorem zxe(l b:Addr)(items items2:Array Value)(n n2:Nat)(dd dd2:Option Addr)(sl sl2:Array (Option Value))(x y:Str)(t u:Tok)(h1:items[0]?=some (.str x t))(h2:items2[0]?=some (.str y u))(hxy:x≠y):
  Meets (Builtin.«list.__eq__.loop» ⟨[.ref l,.ref b,rawInt 0,rawInt 0],[]⟩)
   (fun A R s=>s.heap.get? l=some {cls:= .type "list",dict:=dd,data:= .seq items n,slots:=sl}/\s.heap.get? b=some {cls:= .type "list",dict:=dd2,data:= .seq items2 n2,slots:=sl2}/\
    R (.ok (.ret (.bool (fZ x y)))) s):=by
 intro prog w A R s h;obtain⟨hp,g,d,tk,os⟩:=s;obtain⟨hl,hb,h⟩:=h
 wp_walk using wpAny_loadPart' hl,wpAny_loadPart' hb
 have hi1:items[(0:Int).toNat]?=some (.str x t):=h1;have hi2:items2[(0:Int).toNat]?=some (.str y u):=h2;rw[hi1,hi2];have hne:(x.cps.toList==y.cps.toList)=false:=by
  cases q:(x.cps.toList==y.cps.toList) with
  | false=>rfl
  | true=>
   have e:=eq_of_beq q;exact absurd (by cases x;cases y;simp at e;rw[e]) hxy
 refine z6 (SeqRoads2.EqGives.str x y t u prog w _ _ _ _ ?_);rw[hne]
 wp_walk using wpAny_loadPart' hl,wpAny_loadPart' hb
 rw[hi1,hi2];refine z6 (m:=richCompare .Lt _ _) (wpAny_richCompare_same (typeIs_str _ x t) (typeIs_str _ y u) slot_str_lt (call_str_lt ⟨by simp,?_⟩) rfl)
 wp_walk
 exact h
open PySem.MeetsSeq PySem.MeetsSeq3 in
theorem zzf(l b:Addr)(items items2:Array Value)(n n2:Nat)(dd dd2:Option Addr)(sl sl2:Array (Option Value))(x y:Str)(t u:Tok)(h1:items[0]?=some (.str x t))(h2:items2[0]?=some (.str y u))(hxy:x≠y):
  Meets (Builtin.«list.__lt__» ⟨[.ref l,.ref b],[]⟩)
   (fun A R s=>s.heap.get? l=some {cls:= .type "list",dict:=dd,data:= .seq items n,slots:=sl}/\s.heap.get? b=some {cls:= .type "list",dict:=dd2,data:= .seq items2 n2,slots:=sl2}/\
    R (.ok (.ret (.bool (fZ x y)))) s):=by
 intro prog w A R s h;obtain⟨hp,g,d,tk,os⟩:=s;obtain⟨hl,hb,h⟩:=h;have f3:=AutoSeq1.sub_list_list
 wp_walk using wpAny_loadPart' hl,wpAny_loadPart' hb
 exact⟨plainId_quiet plain_eq_loop _,codeAny_builtin entry_eq_loop (by
  rw[Around.under_plainId plain_eq_loop _];exact zxe l b items items2 n n2 dd dd2 sl sl2 x y t u h1 h2 hxy prog w A R _ ⟨hl,hb,h⟩)⟩
def uY(h:Heap)(v:Value)(x:Str):Prop:=∃a its t,v= .ref a/\PlainL h a its/\its[0]?=some (.str x t)
theorem zy7(h1:uY s.heap v x)(h2:uY s.heap v' y)(hxy:x≠y)(hu:A.units<cLine)(h:Q (fZ x y) s):wpAny (model prog w) A (oneLt' true v v') Q E s:=by
 obtain⟨a,its,t,rfl,⟨o,n,e1,c1,d1,s1⟩,z1⟩:=h1;obtain⟨b,its2,u,rfl,⟨o2,n2,e2,c2,d2,s2⟩,z2⟩:=h2;obtain⟨cls,dict,data,slots⟩:=o;obtain⟨cls2,ZG,data2,zm⟩:=o2;cases c1;cases d1;cases s1;cases c2;cases d2;cases s2;rw[oneLt'_eq];simp only [if_true];refine z6 (wpAny_cRoomFor_or (.inr hu) ?_);refine z6 (wpAny_callSpecialIfBound?_slot (T:= "list") ⟨_,e1,rfl⟩ F.slot_list_lt (call_meets F.slot_list_lt ⟨_,e1,rfl⟩ F.entry_list_lt (F.args_list_lt_2 _ _) (zzf a b its its2 n n2 none none slots zm x y t u z1 z2 hxy) ⟨e1,e2,?_⟩));exact wpAny_truthy_bool h
theorem uY.up(q:uY h v x)(k:∀b o,h.get? b=some o ->h'.get? b=some o):uY h' v x:=by
 obtain⟨a,its,t,e,p,z⟩:=q;exact⟨a,its,t,e,p.keeps k,z⟩
theorem uY.looks(q:uY h v x):W.Looks M h (typeOf v) (.type "list"):=by
 obtain⟨a,its,t,rfl,⟨o,n,e,c,_,_⟩,_⟩:=q;intro A Q E s k hQ;exact wpAny_typeOf_ref (k _ _ e) (by rw[c];exact hQ)
theorem z2n(hl:vs.length=xs.length)(nd:xs.Nodup)(hu:A.units<cLine):
  vN prog w A E vs (BR xs) (fun h=>∀i,i<xs.length ->uY h (vs.getD i Value.none) (xs.getD i Str.empty)) oneType' :=by
 refine⟨fun s Q hT h2 hQ=>W.kas_kind (T:= .type "list") h2 (fun v hv=> ?_) (by decide) (by decide) hQ,fun s i j C hT hi hj hij hC=> ?_⟩
 ·obtain⟨k,hk,rfl⟩:=List.mem_iff_getElem.mp hv;have:=hT k (by omega)
  rw[rB hk] at this;exact this.looks
 ·unfold W.kas_ask;rw[keyLt'_oneType];refine zy7 (hT i (by omega)) (hT j (by omega)) ?_ hu hC
  have key:=List.pairwise_iff_getElem.mp nd;rw[rB (by omega),rB (by omega)]
  rcases Nat.lt_or_gt_of_ne hij with q | q
  ·exact key i j (by omega) (by omega) q
  ·exact fun z=>key j i (by omega) (by omega) q z.symm
def gl(g:List Str):D:= .lst (g.map .str)
def hdS(g:List Str):Str:=g.headD Str.empty
theorem z6b(I:Inv X pins σ H s)(sF:Same F H)(r:Rep X.K F (gl g) v)(ru:RelV v u)(hg:g≠ []):uY s.heap u (hdS g):=by
 unfold gl Rep at r;obtain⟨a,vs,rfl,hq,rs⟩:=r;cases ru;obtain⟨its,rv,pl,hz⟩:=I.list (sF.seq hq);cases g with
 | nil=>exact absurd rfl hg
 | cons x g=>
  unfold List.map ak Rep at rs;obtain⟨w,us,rfl,rfl,rs⟩:=rs;cases rv with
  | cons r0 rr=>
   obtain⟨t,rfl⟩:=r0;exact⟨a,_,t,rfl,pl,by simp [hdS]⟩
def Kr:List D ->(List D ->Prop) ->Prop:=fun ds P=>match ds with
 | [.lst xs]=>∃gs:List (List Str),xs=gs.map gl/\ (∀g∈gs,g≠ [])/\ (gs.map hdS).Nodup/\gs.length<64/\
   ∀ms:List (List Str),ms.Perm gs ->ms.Pairwise (fun a b=>fZ (hdS a) (hdS b)=true) ->P (ms.map gl)
 | _=>False
theorem ZJ(hu:X.A.units+21<cLine):cH X (.builtin "sorted") (qW X.K Kr):=by
 rintro pins s σ H xs us Q I r ⟨F,ds,P,sF,rs,h,k⟩;unfold Kr at h;split at h
 ·unfold ak ak Rep at rs;obtain⟨v,_,rfl,⟨p,vs,rfl,hq,rs⟩,rfl⟩:=rs;obtain⟨gs,rfl,hne,nd,h64,h⟩:=h;obtain⟨u,rfl,rx⟩:=vals1 r;cases rx;obtain⟨its,rv,pl,hz⟩:=I.list (sF.seq hq);have hl:=rv.length;have hl2:=gj rs;rw[List.length_map] at hl2;have line:(64:Nat)<=sizeLine:=by decide
  have hT:∀i,i< (gs.map hdS).length ->uY s.heap (its.getD i Value.none) ((gs.map hdS).getD i Str.empty):=fun i hi=>by
   rw[List.length_map] at hi;obtain⟨v,e1,r1⟩:=oA rs (i:=i) (d:=gl gs[i]) (by rw[List.getElem?_map,List.getElem?_eq_getElem hi];rfl)
   obtain⟨u,e2,r2⟩:=rv.get e1;rw[List.getD_eq_getElem?_getD,e2,rB (by rw[List.length_map];exact hi),List.getElem_map]
   exact z6b I sF r1 r2 (hne _ (zA hi))
  have hup:∀x o,s.heap.get? x=some o ->((s.heap.push (seqObj "list" #[] 0)).update s.heap.objs.size (Obj.mapSeq (· ++its.toArray))).get? x=some o:=fun x o e=>by
   have hlt:=zJ e;exact Eq.trans (Heap.get?_update_ne _ _ _ _ (zL hlt)) (z8 _ e)
  refine Zq (collect_list (vs:=its) pl.isList ?_ (by omega))
  refine⟨BR (gs.map hdS),_,_,by rw[show its.length=(gs.map hdS).length by rw[List.length_map];omega];exact Zv nd,by omega,z2n (by rw[List.length_map];omega) nd (by show X.A.units+1+1<cLine;omega),fun h2 k2 i hi=>(hT i hi).up fun b o e=>k2 b o (hup b o e),fun l h' is e hle a1 a2 hl' tY=> ?_⟩
  have hsz:s.heap.objs.size<=l:=zP (Nat.le_succ _) (zP (Nat.le_of_eq (((Heap.size_update ..).trans (size_push' ..)).symm)) hle);have hix:∀i∈is,i<its.length:=fun i hi=>List.mem_range.mp (a1.mem_iff.mp hi);have hrv:=ZC rv (is:=is) fun i hi=>by have:=hix i hi;omega
  have hrs:ak X.K F (pick .non (gs.map gl) is) (pick .non vs is):=YB rs fun i hi=>by rw[List.length_map];have:=hix i hi;omega
  rw[RX (d:= []) (fun i hi=>by have:=hix i hi;omega)] at hrs
  have hpm:(pick [] gs is).Perm gs:=Zw (by rw[show gs.length=its.length by omega];exact a1)
  have hlen:(pick V.non vs is).length<=sizeLine:=by
   unfold pick;rw[List.length_map,a1.length_eq,List.length_range];omega
  have I2:Inv X pins σ (upd H l (.lst (pick .non vs is))) {s with heap:=h',toks:=s.toks}:=
   I.laid (t' :=s.toks) (fun b ob eb=>tY b ob (hup b ob eb)) hsz (show aU X.prog X.w _ _ _ (.lst (pick .non vs is)) from ⟨hlen,_,e,hrv,hl'⟩)
  refine⟨.ref l,_,I2,rfl,k _ _ l hrs (I.hok.fresh hsz) (h _ hpm ?_)⟩;have hp:=Zx a2;rw[RX (d:= []) (fun i hi=>by have:=hix i hi;omega)] at hp
  exact List.pairwise_map.mp hp
 ·exact h.elim
end L3
namespace L3
open PySem PySem.Spec PyProof.Rows L2
open PySem.AutoSeq1 (wpAny_loadPart')
theorem zi1(l:Addr)(items:Array Value)(n:Nat)(b:Addr)(items2:Array Value)(n2:Nat)(sl:Array (Option Value))(hc0:¬(!items.isEmpty&&Builtin.List.listTooLong (items.size+items2.size))=true)(hc1:items.size<=sizeLine)(hs2:items.size+items2.size<=sizeLine+1):
  Meets (Builtin.«list.extend» ⟨[.ref l,.ref b],[]⟩) (fun _ R s=>s.heap.get? l=some {cls:= .type "list",dict:=none,data:= .seq items n,slots:= #[]}/\s.heap.get? b=some {cls:= .type "list",dict:=none,data:= .seq items2 n2,slots:=sl}/\R (.ok (.ret Value.none)) {s with heap:=s.heap.update l (Obj.mapSeq fun x=>x++items2),toks:=s.toks}):=
 .of_wp fun prog w A R s h=>by
  obtain⟨hp,g,d,tk,os⟩:=s;obtain⟨hl,hb,h⟩:=h;have f1:=AutoSeq1.idx_int;have f2:=AutoSeq1.sub_tuple_tuple;have f3:=AutoSeq1.sub_list_list;have f4:=AutoSeq1.sub_tuple_list;have f5:=AutoSeq1.sub_list_tuple;have hz' :(items++items2).size<=sizeLine+1:=by rw[Array.size_append];exact hs2
  wp_walk using (wpAny_updateSeq hl rfl (hz:=hc1) (_hz' :=hz')),wpAny_loadPart' hl,wpAny_loadPart' hb;exact⟨_,rfl,h⟩
theorem zu0:QH X "list.extend" QK:=by
 intro pins s σ F H l vs args xs ds us P Q I hl sF rs ra rv h k;unfold QK at h;split at h
 ·unfold ak ak Rep at ra;obtain⟨v,_,rfl,⟨b,zs,rfl,hq,rz⟩,rfl⟩:=ra;obtain⟨u,rfl,ru⟩:=vals1 rv;cases ru;obtain⟨z,its,n,r,hle,e⟩:=I.lstM hl;obtain⟨its2,r2,⟨o,n2,e2,c2,d2,s2⟩,hz2⟩:=I.list (sF.seq hq);obtain⟨cls,dict,data,slots⟩:=o;cases c2;cases d2;cases s2;have aa3:=r2.length;have l1:=gj rs;have l2:=gj rz;have hsz:its.toArray.size+its2.toArray.size<=sizeLine:=by rw[List.size_toArray,List.size_toArray];omega
  have Gq:¬(!its.toArray.isEmpty&&Builtin.List.listTooLong (its.toArray.size+its2.toArray.size))=true:=by
   rw[zyl hsz,Bool.and_false];exact zK
  refine call_meets PySem.F.slot_list_extend ⟨_,e,rfl⟩ PySem.F.entry_list_extend (PySem.F.args_list_extend_2 _ _)
   (zi1 l its.toArray n b its2.toArray n2 slots Gq (by rw[List.size_toArray];omega) (by omega)) ⟨e,e2,?_⟩
  refine⟨.non,_,I.lset (its' :=its++its2) hl e (by simp) (r.append r2) ?_,rfl,k _ _ (Az rs rz) h.2⟩
  rw[List.length_append];omega
 ·exact h.elim
def R7:List D ->(List D ->Prop) ->Prop:=fun ds P=>match ds with | [.dic ks _]=>P (ks.map cX) | _=>False
theorem R8:∀{xs:List V} {us:List Value},xs.length=us.length ->(∀(i:Nat) (x:V) (u:Value),xs[i]?=some x ->us[i]?=some u ->RelV x u) ->Vals xs us
 | [],[],_,_=> .nil
 | [],_::_,h,_=>by cases h
 | _::_,[],h,_=>by cases h
 | x::xs,u::us,h,k=> .cons (k 0 x u rfl rfl) (R8 (by simpa using h) fun i y w e1 e2=>k (i+1) y w (by simpa using e1) (by simpa using e2))
theorem Gs:∀{kvs:List (κ×V)} {ws:List (κ×Value)} {i:Nat} {p:κ×Value},KV kvs ws ->ws[i]?=some p ->∃v,kvs[i]?=some (p.1,v)/\RelV v p.2
 | _,_,_,_,.nil,e=>by simp at e
 | _,_,0,p,.cons (a:=q) h _,e=>by
  simp at e;subst e;obtain⟨h1,h2⟩:=h;exact⟨q.2,by rw[<- h1];rfl,h2⟩
 | _,_,i+1,p,.cons _ r,e=>by
  obtain⟨v,e1,e2⟩:=Gs (i:=i) r (by simpa using e)
  exact⟨v,by simpa using e1,e2⟩
theorem Ks:∀{ks:List κ} {vs:List V} {i:Nat} {k:κ} {v:V},(ks.zip vs)[i]?=some (k,v) ->ks[i]?=some k/\vs[i]?=some v:=fun{ks vs i k v} e=>by
 rw[List.getElem?_zip_eq_some] at e;exact e
theorem z2w(hc:X.calm=true):cH X (.type "list") (qW X.K R7):=by
 rintro pins s σ H xs us Q I r ⟨F,ds,P,sF,rs,h,k⟩;unfold R7 at h;split at h
 ·rename_i ks ds';unfold ak ak Rep at rs;obtain⟨v,_,rfl,⟨a,vs,rfl,hq,hkl,rs⟩,rfl⟩:=rs;obtain⟨u,rfl,rx⟩:=vals1 r;cases rx;obtain⟨hz,hsm,ws,kv,hd⟩:=Jw I.hok (sF _ _ hq);obtain⟨ob,es,ep,hd⟩:=id hd;have hm:s.heap.DictAt (jq X.prog X.w) a ws ep:=⟨ob,es,hd⟩;have Gu:(ks.zip vs).length=ws.length:=kv.length;have hlk:ks.length=ws.length:=by rw[<- Gu,List.length_zip,<- hkl,Nat.min_self]
  rw[Gu] at hz;refine W.kdl_call (W.kdl_dict (knd:=jq X.prog X.w) (kvs:=ws) (ep:=ep) hsm) (I.ok.hd hc) hm hz fun h' tk acc c hold hg hac=> ?_;have hv:Vals (ks.map kV) acc.toList:=by
   refine R8 (by rw[List.length_map,Array.length_toList];exact hlk.trans hac.1.symm) fun i x u e1 e2=> ?_
   obtain⟨k,w,e3,e4⟩:=hac.2 i u (by rw[<- Array.getElem?_toList];exact e2)
   obtain⟨v5,e5,_⟩:=Gs kv e3;have e5:=(Ks e5).1;rw[List.getElem?_map,e5] at e1;cases e1;rcases rO e4 with ⟨j,t,rfl,rfl⟩ | ⟨x,t,rfl,rfl⟩
   ·exact⟨t,rfl⟩
   ·exact⟨t,rfl⟩
  have I2:Inv X pins σ (upd H s.heap.objs.size (.lst (ks.map kV))) {s with heap:=h',toks:=tk}:=
   I.laid (t' :=tk) hold (zO _) (show aU X.prog X.w _ _ _ (.lst (ks.map kV)) from ⟨by rw[List.length_map];omega,_,c,hv,by rw[Array.toArray_toList];exact hg⟩)
  exact⟨.ref s.heap.objs.size,_,I2,rfl,k _ _ _ (Jz ks) (I.hok.fresh (zO _)) h⟩
 ·exact h.elim
end L3
namespace L3
open PySem PySem.Spec PyProof.Rows L2
theorem ZK(I:Inv X pins σ H s)(e:H a=some (.dK kvs))(ho:s.heap.get? a=some o):Inv X pins σ (upd H a (.frz o (.dK kvs))) s:=by
 have ne:∀b u,H b=some u ->(∀kvs,u≠ .dK kvs) ->b≠a:=fun b u q n z=>by rw[z,e] at q;cases q;exact n _ rfl
 refine I.un (h' :=s.heap) (t' :=s.toks) ⟨fun _ _ q _ _ _=>q,fun _ ob q _ _ _=>⟨ob.slots,q⟩,fun b ob q n _=> ?_,fun b ob q _=>⟨ob,q⟩,fun b xs q=> ?_,fun b ob u q=> ?_,fun b ps q=>⟨#[],?_⟩⟩ fun b u q=> ?_
 ·rw[c7 (fun z=>by rw[z,e] at n;cases n)];exact n
 ·rw[c7 (ne b _ q fun _ z=>by cases z)];exact q
 ·rw[c7 (ne b _ q fun _ z=>by cases z)];exact q
 ·rw[c7 (ne b _ q fun _ z=>by cases z)];simpa using q
 ·by_cases hb:b=a
  ·subst hb;rw[lW] at q;cases q;refine⟨ho,?_⟩;exact(show aU X.prog X.w H s.heap b (.dK kvs) from I.hok b _ e)
  ·rw[c7 hb] at q;exact(I.hok b u q).stay (fun _ _ _ z=>z) (fun c z=>by rw[c7 (ne c _ z fun _ w=>by cases w)];exact z) fun c xs z=>by rw[c7 (ne c _ z fun _ w=>by cases w)];exact z
def R9(a:Addr)(o:Obj)(kvs:List (Key×V)):It:=⟨fun i H=>H a=some (.frz o (.dK kvs))/\i<kvs.length,fun i H x H' =>H' =H/\∃k,kvs[i]?=some (k,x),fun i H=>H a=some (.frz o (.dK kvs))/\kvs.length<=i⟩
theorem ZL(I:Inv X pins σ H s)(e:H a=some (.frz o (.dK kvs)))(Ku:∃es,o.data= .dict es ep):∃ws,KV kvs ws/\s.heap.DictAt (jq X.prog X.w) a ws ep:=by
 obtain⟨ho,_,_,ws,kv,o',es,ep',h1,h2,h3,h4⟩:=(show aU X.prog X.w H s.heap a (.frz o (.dK kvs)) from I.hok a _ e);rw[ho] at h1;cases h1;obtain⟨es',h5⟩:=Ku;rw[h3] at h5;cases h5;exact⟨ws,kv,o,es,ho,h2,h3,h4⟩
theorem zuz{P:Program}{w:World}{K:W.Frag}{tg:Expr}(a it:Addr)(o:Obj)(kvs:List (Key×V))(ep:Nat)(Ku:∃es,o.data= .dict es ep):Turn P w K tg (R9 a o kvs) [it] it (fun i h=>h.IsValIter it a i kvs.length ep) where
 mem:=by simp
 obj:=fun i h st b hb=>by
  obtain rfl:b=it:=by simpa using hb
  obtain⟨o,e,c,d⟩:=st;exact⟨o,e,fun v z=>by rw[d] at z;cases z⟩
 keep:=fun i h h' st k=>st.at fun o e=>k it (by simp) o e
 item:=by
  intro X hP hw hK hc i pins s σ H E I hf st hg;subst hP hw hK;obtain⟨hq,hx⟩:=hg;obtain⟨f0,f1,f2,f3,f4,f5⟩:=hf it (by simp)
  obtain⟨ws,kv,hd⟩:=ZL I hq Ku;have hl:=kv.length;rw[hl] at st hx;obtain⟨⟨k,u⟩,hw⟩:∃p,ws[i]?=some p:=⟨ws[i],by simp [hx]⟩
  obtain⟨v,hv,rv⟩:=Gs kv hw;refine wpAny_pyNext_values_item st hd hw fun h' hit' sb=> ?_;have I1:Inv X pins σ H {s with heap:=h'}:=I.turned (t' :=s.toks) (fun b o hb e=>(sb.2 b hb).trans e) f0 f1 f3 f4 f5;obtain⟨o',e,c,d⟩:=id hit';exact⟨u,rfl,Jl (s:={s with heap:=h'}) e c d (by decide) ⟨v,H,I1,rv,⟨rfl,k,hv⟩,by rw[hl];exact hit',fun b hb=>(hf b hb).1⟩⟩
 done:=by
  intro X hP hw hK hc i pins s σ H E I hf st hg;subst hP hw hK;obtain⟨hq,hx⟩:=hg;obtain⟨f0,f1,f2,f3,f4,f5⟩:=hf it (by simp)
  obtain⟨ws,kv,hd⟩:=ZL I hq Ku;have hl:=kv.length;rw[hl] at st hx;exact wpAny_pyNext_values_end (I.ok.hd hc) st hd (List.getElem?_eq_none hx) fun h' eb=>⟨rfl,I.turned (t' :=s.toks) (fun b o hb e=>eb b o hb e) f0 f1 f3 f4 f5⟩
 self:=fun _ _ _ _ _ st h=>wpAny_pyIter_valiter st h
def Gv(te:TE):TI:=fun σ H R=>te σ H fun v H1=>∃a kvs,v= .ref a/\H1 a=some (.dK kvs)/\ (kvs.length<=sizeLine ->∀o,R (R9 a o kvs) (upd H1 a (.frz o (.dK kvs))))
theorem zt8(he:PE X e te)(hbase:attributeBase e "values" X.env (eval e X.env)=eval e X.env:=by rfl)(hline:(apos.endLine==cpos.line)=true:=by rfl):
  PI X tg (.Call (.Attribute e "values" apos) [] [] cpos) (Gv te):=by
 intro pins s σ H R I h;refine wpAny_Call_method0_late hbase hline (bK (he pins s σ H _ I h) fun v s1 hq1=> ?_);obtain⟨x,H1,I1,r1,a,kvs,ex,ea,q⟩:=hq1;subst ex;obtain rfl:v=Value.ref a:=r1;obtain⟨hT,hN,hsm⟩:=WL I1 (.inl ⟨kvs,.inl ea⟩);refine⟨"dict","dict.values",PySem.F.plainAttrs_dict,PySem.F.slot_dict_values,PySem.F.type_dict_values,hT,hN,Calls.callWith_builtin rfl (PySem.evalArgs_none ?_)⟩;obtain⟨hz,_,ws,kv,dd⟩:=Jw I1.hok ea;refine call_meetsIn PySem.F.slot_dict_values hT PySem.F.entry_dict_values (PySem.F.args_dict_values_1 _) (meets_dict_values (jq X.prog X.w) a hsm) ⟨⟨ws,dd⟩,?_⟩;obtain⟨o,es,ep,h1,h2,h3,h4⟩:=id dd;have hm:s1.heap.DictAt (jq X.prog X.w) a ws ep:=⟨o,es,h1,h2,h3,h4⟩;have I2:=ZK I1 ea h1;have vw:(s1.heap.push {cls:= .type "dict_values",data:= .fields #[.ref a]}).IsValuesView s1.heap.objs.size a:=⟨_,z9 _ rfl,rfl,rfl⟩;have I3:Inv X pins σ (upd H1 a (.frz o (.dK kvs))) {s1 with heap:=s1.heap.push {cls:= .type "dict_values",data:= .fields #[.ref a]},toks:=s1.toks}:=I2.kept fun b o e=>z8 _ e;refine wpAny_pyIter_values vw (hm.push _) ?_;refine⟨_,[(s1.heap.push {cls:= .type "dict_values",data:= .fields #[.ref a]}).objs.size],_,_,_,rfl,I3.kept (t' :=s1.toks) fun b o e=>z8 _ e,zuz a _ o kvs ep ⟨es,h3⟩,?_,fun b hb=> ?_,q hz o⟩
 ·rw[kv.length];exact⟨_,z9 _ rfl,rfl,rfl⟩
 ·obtain rfl:b=(s1.heap.push {cls:= .type "dict_values",data:= .fields #[.ref a]}).objs.size:=by simpa using hb
  exact I3.fpOk (zO _) (I3.hok.fresh (zO _))
section
variable{K:W.Frag}{F0 H0 F H:Hp}{σ:St}{Γ:List Slot}
theorem SR.chg(R:SR K F0 H0 F H σ Γ)(h2:F a=none)(h3:H0 a=none)(ap:Apart σ Γ a):SR K F0 H0 F (L2.upd H a u) σ Γ:=by
 refine⟨⟨R.gr.f,fun b u q=> ?_,fun b u q=> ?_,fun b o q n=>R.gr.n b o q n⟩,R.len,fun j s' q=> ?_,R.ap⟩
 ·rw[c7 (lU q h2)];exact R.g b u q
 ·rw[c7 (lU q h3)];exact R.gr.h b u q
 ·obtain⟨o,p1,p2⟩:=R.sl j s' q;refine⟨o,p1,Ek p2 (.refl _) fun b hb=>⟨(uR p2 hb).1,fun u q' => ?_⟩⟩;have:b≠a:=fun z=>by subst z;exact ap j ⟨s',o,q,p1,hb⟩
  rw[c7 this];exact q'
end
theorem zxi{K:W.Frag}{F:Hp}{a:Addr}{o:Obj}{ks:List Key}{vs:List V}{xs:List D}(e:F a=some (.frz o (.dK (ks.zip vs))))(hkl:ks.length=vs.length)(rs:ak K F xs vs)(hz:(ks.zip vs).length<=sizeLine):yL K F Bj (R9 a o (ks.zip vs)) xs:=by
 have hl:=gj rs;have hlz:(ks.zip vs).length=vs.length:=by rw[List.length_zip,hkl,Nat.min_self]
 refine⟨by omega,fun i H2 F2 s2 s3 _=>⟨fun q=>⟨s3 _ _ (s2 _ _ e),by omega⟩,fun d hd=> ?_⟩⟩
 obtain⟨v,hv,rv⟩:=oA rs hd;have hi:i<vs.length:=(zW.mp hv).1;refine⟨⟨s3 _ _ (s2 _ _ e),by omega⟩,fun y H' z=> ?_⟩
 obtain⟨rfl,k,z⟩:=z;have:=(Ks z).2;rw[hv] at this;cases this;exact⟨F2,Gr.refl s3,rv.up s2⟩
def ZM(tn:jo):bh:=fun Γ P E=>tn Γ (fun t Γ1=>match t with | .dic _ ts=>P (d8 ts) Γ1 | _=>False) E
section
variable{X:Cx}{F0 H0:Hp}{e tg:Expr}{apos cpos:Pos}{tn:jo}
open Classical in
theorem zvh(he:QN X F0 H0 e tn)(hbase:attributeBase e "values" X.env (eval e X.env)=eval e X.env:=by rfl)(hline:(apos.endLine==cpos.line)=true:=by rfl):
  QI X F0 H0 tg (.Call (.Attribute e "values" apos) [] [] cpos) (ZM tn):=fun z E cx=>Fq (zt8 (X:=X.wsh z) (he z E cx) hbase hline) fun σ H R hq2=>by obtain⟨F,Γ,P,S,q,k⟩:=hq2;exact⟨F,Γ,_,S,q,fun t Γ1 F1 H1 v as R1 s1 nd hn r h1=>by
  split at h1
  ·rename_i ks ts;unfold TR at r;obtain⟨a,vs,bs,rfl,rfl,ea,hkl,r⟩:=r;refine⟨a,_,rfl,ea,fun hz o=> ?_⟩;have nab:a∉bs:=(List.nodup_cons.mp nd).1;have sF:Same F1 (fun b=>if b=a then some (.frz o (.dK (ks.zip vs))) else if b∈bs then H1 b else F1 b):=fun b u e=>by
    show(if b=a then some (.frz o (.dK (ks.zip vs))) else if b∈bs then H1 b else F1 b)=some u;rw[if_neg (fun z=>by rw[z,(hn a List.mem_cons_self).1] at e;cases e),if_neg (fun hb=>by rw[(hn b (List.mem_cons_of_mem _ hb)).1] at e;cases e)]
    exact e
   have R2:=(R1.chg (u:= .frz o (.dK (ks.zip vs))) (hn a zY).1 (hn a zY).2.1 (hn a zY).2.2).frzM sF (fun b u e=> ?_) (fun b u e n=> ?_)
   ·refine k _ Γ1 _ _ _ R2 (s1.trans sF) (zxi ?_ hkl (cW.rep sF ts vs bs (fun c hc u hu=> ?_) r) hz) h1
    ·show(if a=a then some (HO.frz o (.dK (ks.zip vs))) else if a∈bs then H1 a else F1 a)=some (HO.frz o (.dK (ks.zip vs)));rw[if_pos rfl]
    ·show(if c=a then some (.frz o (.dK (ks.zip vs))) else if c∈bs then H1 c else F1 c)=some u;rw[if_neg (show¬c=a from fun z=>nab (z ▸ hc)),if_pos hc];exact hu
   ·have e' :(if b=a then some (.frz o (.dK (ks.zip vs))) else if b∈bs then H1 b else F1 b)=some u:=e;by_cases hb:b=a
    ·subst hb;rw[if_pos rfl] at e';rw[lW];exact e'
    ·rw[if_neg hb] at e';rw[c7 hb];split at e'
     ·exact e'
     ·exact R1.g b u e'
   ·have e' :(if b=a then some (.frz o (.dK (ks.zip vs))) else if b∈bs then H1 b else F1 b)=some u:=e;by_cases hb:b=a
    ·subst hb;exact(hn b zY).2
    ·rw[if_neg hb] at e';split at e'
     ·rename_i hm;exact(hn b (zX _ hm)).2
     ·rw[n] at e';cases e'
  ·exact h1.elim⟩
end
theorem zp{K:W.Frag}{F:Hp}{k:Key}{v:V}(h:Rep K F (cX k) v):v=kV k:=by
 cases k with
 | inl i=>unfold cX Rep at h;exact h
 | inr x=>unfold cX Rep at h;exact h
theorem ZP(h:ks.length=vs.length)(k:Key):(dH (ks.zip vs) k).isSome=je ks k:=by
 unfold dH je;rw[Option.isSome_map];induction ks generalizing vs with
 | nil=>rfl
 | cons k' ks ih=>
  cases vs with
  | nil=>cases h
  | cons v vs=>
   rw[List.zip_cons_cons,List.find?_cons,List.any_cons];by_cases q:k' =k
   ·simp [q]
   ·simp only [q,decide_false,Bool.false_or];exact ih (by simpa using h)
theorem z3u{ks:List Key}{vs:List V}{k:Key}{v:V}{q:Nat}(nd:ks.Nodup)(h1:ks[q]?=some k)(h2:vs[q]?=some v):dH (ks.zip vs) k=some v:=by
 unfold dH;induction ks generalizing vs q with
 | nil=>simp at h1
 | cons k' ks ih=>
  cases vs with
  | nil=>simp at h2
  | cons u vs=>
   rw[List.zip_cons_cons,List.find?_cons];cases q with
   | zero=>
    have e1:k' =k:=by simpa using h1
    have e2:u=v:=by simpa using h2
    simp [e1,e2]
   | succ q=>
    have hm:k∈ks:=zB (by simpa using h1)
    have ne:k' ≠k:=fun z=>(List.nodup_cons.mp nd).1 (z ▸ hm);simp only [ne,decide_false];exact ih (List.nodup_cons.mp nd).2 (by simpa using h1) (by simpa using h2)
def Gw(i:Nat)(tk:aH):TT2:=fun Γ P E=>tk Γ (fun kd Γ1=>∃k as ks ts,kd=cX k/\Γ1[i]?=some (.tr as (.dic ks ts))/\P (!je ks k) Γ1) E
def Gx(i j:Nat)(tn:jo):au:=fun D Γ E=>tn Γ (fun t Γ1=>∃k as ks ts,Γ1[j]?=some (.pu (cX k))/\Γ1[i]?=some (.tr as (.dic ks ts))/\je ks k=false/\ks.length<sizeLine/\∀cs,D.nx (Γ1.set i (.tr (as++cs) (.dic (ks++ [k]) (ts++ [t]))))) E
def Gy(i j l:Nat)(tv:aH):au:=fun D Γ E=>tv Γ (fun d Γ1=>∃k k2 as ks ts q zq xs,Γ1[j]?=some (.pu (cX k))/\Γ1[l]?=some (.pu (cX k2))/\Γ1[i]?=some (.tr as (.dic ks ts))/\ks.Nodup/\ks[q]?=some k/\
 ts[q]?=some (.dic zq (xs.map .leaf))/\zq.length<sizeLine/\D.nx (Γ1.set i (.tr as (.dic ks (ts.set q (.dic (eV zq k2) ((cP zq xs k2 d).map .leaf))))))) E
section
variable{X:Cx}{F0 H0:Hp}{ke value:Expr}{pos npos oO wU pos' pos2:Pos}{x y w:Str}{i j l:Nat}{tk tv:aH}{tn:jo}
theorem z3z(hu:X.A.units+1<cLine)(hk:QE X F0 H0 ke tk)(hN:X.N[i]?=some x)(hv:pF X.env.scope x)(hd:(x==("__debug__" :Str))=false:=by decide)(hcd:(x==("__classdict__" :Str))=false:=by decide)
  (hb:behindInMarks .NotIn (.Name x npos)=false:=by with_unfolding_all rfl):
  QT X F0 H0 (.Compare ke [.NotIn] [.Name x npos] pos) (Gw i tk):=fun z E cx=>
 Et (VB (X:=X.wsh z) (zw5 (X:=X.wsh z) hu (hk z E cx) (rZ (X:=X.wsh z) (i:=i) hN hv hd hcd)) hb) fun σ H Q hq1=>by obtain⟨F,Γ,P,R,h,k⟩:=hq1;exact⟨F,Γ,_,R,h,fun kd Γ1 F1 H1 v R1 s1 rk hq2=>by
  obtain⟨kk,as,ks,ts,e1,e2,h1⟩:=hq2;subst e1;have ev:=zp rk;subst ev;obtain⟨o,e3,w,rfl,nd,hn,r⟩:=R1.sl i _ e2;unfold TR at r;obtain⟨a,vs,bs,rfl,rfl,ea,hkl,r⟩:=r;refine⟨.ref a,e3,a,_,rfl,iJ.k (k:=kk) ea,_,rfl,?_⟩;rw[ZP hkl];exact k _ _ _ _ R1 s1 h1⟩
theorem z5c(hu:X.A.units+1<cLine)(hN:X.N[i]?=some x)(hv:pF X.env.scope x)(Sd:X.N[j]?=some y)(hv2:pF X.env.scope y)(hval:QN X F0 H0 value tn)(hs:swapsWith value (some (.Subscript (.Name x npos) (.Name y oO) pos')) pos.line X.env=pure false:=by rfl)
  (hd:(x==("__debug__" :Str))=false:=by decide) (hcd:(x==("__classdict__" :Str))=false:=by decide) (hd2:(y==("__debug__" :Str))=false:=by decide) (zu:(y==("__classdict__" :Str))=false:=by decide):
  QS X F0 H0 (.Assign [.Subscript (.Name x npos) (.Name y oO) pos'] value pos) (Gx i j tn):=fun z E cx=>
 nW (Oc (X:=X.wsh z) hu (rZ (X:=X.wsh z) (i:=i) hN hv hd hcd) (rZ (X:=X.wsh z) (i:=j) Sd hv2 hd2 zu) (hval z E cx) hs) fun Dn σ H sX=>by obtain⟨F,Γ,D2,R,h,k⟩:=sX;exact⟨F,Γ,_,R,h,fun t Γ1 F1 H1 v cs R1 s1 ndc hnc rt pJ=>by
  obtain⟨kk,as,ks,ts,e1,e2,hh,hl,q⟩:=pJ;obtain⟨o,e3,w,rfl,nd,hn,r⟩:=R1.sl i _ e2;obtain⟨o2,e4,w2,rfl,rk⟩:=R1.sl j _ e1;have ev:=zp rk;subst ev;unfold TR at r;obtain⟨a,vs,bs,rfl,rfl,ea,hkl,r⟩:=r;refine⟨.ref a,e3,kV kk,e4,a,_,rfl,oh.k (k:=kk) ea (by rw[List.length_zip,<- hkl,Nat.min_self];exact hl),?_⟩
  have own:∀b∈a::bs,jc Γ1 σ i b:=fun b hb=>⟨_,_,e2,e3,hb⟩;have dis:∀b∈a::bs,b∉cs:=fun b hb hc=>(hnc b hc).2.2 i (own b hb);have nab:a∉bs:=(List.nodup_cons.mp nd).1;rw[RM hkl];unfold eV cP;rw[if_neg (by rw[hh];decide),if_neg (by rw[hh];decide)]
  refine k.nx _ _ _ _ (R1.wrT e2 e3 (show eN (Slot.tr (a::bs) (.dic ks ts)) (some (.ref a)) a from zY) (t:= .tr (a::bs++cs) (.dic (ks++ [kk]) (ts++ [t]))) ⟨_,rfl,?_,fun b hb=> ?_,?_⟩ fun b hb=> ?_) s1 (q cs)
  ·exact List.nodup_append.mpr ⟨nd,ndc,fun x hx y hy e=>dis x hx (e ▸ hy)⟩
  ·rcases zU.mp hb with hb | hb
   ·exact hn b hb
   ·exact⟨(hnc b hb).1,(hnc b hb).2.1⟩
  ·unfold TR;refine⟨a,vs++ [v],bs++cs,rfl,rfl,lW,by simp [hkl],?_⟩
   have m:=cW.move (H' :=upd H1 a (.dK ((ks++ [kk]).zip (vs++ [v])))) (.refl _) ts vs bs (fun b hb u q=>by rw[c7 (show b≠a from fun z=>nab (z ▸ hb))];exact q) r
   have l:=TR.move (H' :=upd H1 a (.dK ((ks++ [kk]).zip (vs++ [v])))) (.refl _) t v cs (fun b hb u q=>by rw[c7 (show b≠a from fun z=>dis a List.mem_cons_self (z ▸ hb))];exact q) rt
   exact Y7 m (z02 l)
  ·rcases zU.mp hb with hb | hb
   ·exact .inl hb
   ·exact .inr (hnc b hb).2.2⟩
theorem z5l(hu:X.A.units+1<cLine)(hN:X.N[i]?=some x)(hv:pF X.env.scope x)(Sd:X.N[j]?=some y)(hv2:pF X.env.scope y)(hN3:X.N[l]?=some w)(hv3:pF X.env.scope w)(hval:QE X F0 H0 value tv)
  (hs:swapsWith value (some (.Subscript (.Subscript (.Name x npos) (.Name y oO) pos2) (.Name w wU) pos')) pos.line X.env=pure false:=by rfl)
  (hd:(x==("__debug__" :Str))=false:=by decide) (hcd:(x==("__classdict__" :Str))=false:=by decide) (hd2:(y==("__debug__" :Str))=false:=by decide) (zu:(y==("__classdict__" :Str))=false:=by decide)
  (hd3:(w==("__debug__" :Str))=false:=by decide) (Sg:(w==("__classdict__" :Str))=false:=by decide) (hns:vB (.Name y oO):=by exact fun _ _=>rfl):
  QS X F0 H0 (.Assign [.Subscript (.Subscript (.Name x npos) (.Name y oO) pos2) (.Name w wU) pos'] value pos) (Gy i j l tv):=fun z E cx=>
 nW (Oc (X:=X.wsh z) hu (WD (X:=X.wsh z) hu (rZ (X:=X.wsh z) (i:=i) hN hv hd hcd) (rZ (X:=X.wsh z) (i:=j) Sd hv2 hd2 zu) hns) (rZ (X:=X.wsh z) (i:=l) hN3 hv3 hd3 Sg) (hval z E cx) hs) fun Dn σ H wB=>by obtain⟨F,Γ,D2,R,h,k⟩:=wB;exact⟨F,Γ,_,R,h,fun d Γ1 F1 H1 v R1 s1 rd yx=>by
  obtain⟨kk,k2,as,ks,ts,q,zq,xs,e1,e1',e2,ndk,hq,ht,hl,hnx⟩:=yx;obtain⟨o,e3,w,rfl,nd,hn,r⟩:=R1.sl i _ e2;obtain⟨o2,e4,w2,rfl,rk⟩:=R1.sl j _ e1;obtain⟨o3,e5,w3,rfl,rk2⟩:=R1.sl l _ e1';have ev:=zp rk;subst ev;have ev:=zp rk2;subst ev;unfold TR at r;obtain⟨a,vs,bs,rfl,rfl,ea,hkl,r⟩:=r;obtain⟨u,b1,bs',b2,hu',hbs,rc,back⟩:=Y8 r ht;subst hbs;unfold TR at rc;obtain⟨c,us,ds,rfl,rfl,ec,zx,rc⟩:=rc;obtain⟨rfl,rs⟩:=RN rc;have nab:a∉b1++ ([c]++b2):=(List.nodup_cons.mp nd).1;have nd2:=(List.nodup_cons.mp nd).2;have hac:a≠c:=fun z=>nab (by simp [z])
  have hc1:∀b∈b1++b2,b≠c:=fun b hb z=>by
   subst z;have p:=List.nodup_append.mp nd2;rcases zU.mp hb with hb | hb
   ·exact p.2.2 b hb b (by simp) rfl
   ·have:=(List.nodup_cons.mp p.2.1).1;exact this hb
  have gd:iJ H1 a (kV kk) (some (.ref c)):=by
   have:=iJ.k (k:=kk) ea
   rwa [z3u ndk hq hu'] at this
  refine⟨.ref a,e3,kV kk,e4,a,.ref c,rfl,gd,kV k2,e5,c,_,rfl,oh.k (k:=k2) ec (by rw[List.length_zip,<- zx,Nat.min_self];exact hl),?_⟩
  rw[RM zx];refine k.nx _ _ _ _ (R1.wrT e2 e3 (show eN (Slot.tr (a::(b1++ ([c]++b2))) (.dic ks ts)) (some (.ref a)) c from by show c∈_;simp) (t:= .tr (a::(b1++ ([c]++b2))) (.dic ks (ts.set q (.dic (eV zq k2) ((cP zq xs k2 d).map .leaf))))) ⟨_,rfl,nd,hn,?_⟩ fun b hb=> .inl hb) s1 hnx
  unfold TR;refine⟨a,vs,b1++ ([c]++b2),rfl,rfl,by rw[c7 hac];exact ea,hkl,?_⟩
  refine back (.refl _) (fun b hb u q=>by rw[c7 (hc1 b hb)];exact q) ?_
  unfold TR;exact⟨c,_,[],rfl,rfl,lW,Zg zx,Km (Zi rs rd)⟩⟩
end
def ZQ(i:Nat):au:=fun D Γ _=>∃as ts,Γ[i]?=some (.tr as (.lst ts))/\D.nx (Γ.set i .no)
section
variable{X:Cx}{F0 H0:Hp}{pos npos apos cpos:Pos}{x:Str}{i:Nat}
end
abbrev uZ:=T ->List D ->(T ->D ->Prop) ->(T ->Value ->Prop) ->Prop
def qH(as:List Addr)(H:Hp):Hp:=fun b=>if b∈as then none else H b
def tZ(K:W.Frag)(sp:uZ):Sp:=fun vs H Q E=>∃F a bs t ds rest P Ex,vs=V.ref a::rest/\Same F H/\ (a::bs).Nodup/\ (∀b∈a::bs,F b=none)/\TR K F H t (.ref a) (a::bs)/\ak K F ds rest/\sp t ds P Ex/\
 (∀t' d v cs F' H',Gr F (qH (a::bs) H) F' H' ->(a::cs).Nodup ->(∀b∈a::cs,F' b=none/\qH (a::bs) H b=none) ->TR K F' H' t' (.ref a) (a::cs) ->Rep K F' d v ->P t' d ->Q v H')/\
 ∀C t' cs F' H',Gr F (qH (a::bs) H) F' H' ->(a::cs).Nodup ->(∀b∈a::cs,F' b=none/\qH (a::bs) H b=none) ->TR K F' H' t' (.ref a) (a::cs) ->Ex t' C ->E C none H'
def startM(n:Nat)(s:Slot)(ds:List D):G2:=s::(ds.map .pu++List.replicate (n - 1 - ds.length) .no)
section
variable{K:W.Frag}{F0 H0 F H F' H' :Hp}{σ:St}{Γ:List Slot}
end
structure aa4 (P:Program) (w:World) (K:W.Frag) (mg:Str ->Option Value) (base:Heap) (x:Str) (k:Nat) (ps:List Str) (sp:uZ):Prop where
 ex:∃f fd,d7 P w K mg base (gP P w) k f fd ps (tZ K sp)/\mg x=some (.ref f)/\W.keepIn K (.ref f)=true/\Binds K fd ps []
structure aa5 (P:Program) (w:World) (K:W.Frag) (mg:Str ->Option Value) (base:Heap) (C:Addr) (m:Str) (k:Nat) (ps:List Str) (sp:uZ):Prop where
 ex:∃f fd,d7 P w K mg base (gP P w) k f fd ps (tZ K sp)/\Meth K C m f/\Binds K fd ps []
abbrev aa6(a:Addr)(Q:T ->D ->Prop):j6:={nx:=fun Γ=>∃cs t',Γ[0]?=some (.tr (a::cs) t')/\Q t' .non,rt:=fun _=>False,rm:=fun d Γ=>∃cs t',Γ[0]?=some (.tr (a::cs) t')/\Q t' d}
abbrev aa7(a:Addr)(Ex:T ->Value ->Prop):XW:=fun Γ C=>∃cs t',Γ[0]?=some (.tr (a::cs) t')/\Ex t' C
section
variable{P:Program}{w:World}{K:W.Frag}{mg:Str ->Option Value}{base:Heap}
end
def ZR(te:aH):au:=fun D Γ E=>te Γ (fun d Γ1=>D.rm d Γ1) E
def Sh(C:Addr)(m:Str)(i:Nat)(sp:uZ)(t:bh):aH:=fun Γ P E=>(∃as fs ts,Γ[i]?=some (.tr as (.ob C fs ts))/\m∉fs)/\t Γ (fun ds Γ1=>∃a bs tt,Γ1[i]?=some (.tr (a::bs) tt)/\sp tt ds (fun t' d=>∀cs,P d (Γ1.set i (.tr (a::cs) t'))) fun t' Cx=>∀cs,E (Γ1.set i (.tr (a::cs) t')) Cx) E
def Sv(i:Nat)(sp:uZ)(t:bh):aH:=fun Γ P E=>(∃a bs tt,Γ[i]?=some (.tr (a::bs) tt))/\t Γ (fun ds Γ1=>∃a bs tt,Γ1[i]?=some (.tr (a::bs) tt)/\sp tt ds (fun t' d=>∀cs,P d (Γ1.set i (.tr (a::cs) t'))) fun t' Cx=>∀cs,E (Γ1.set i (.tr (a::cs) t')) Cx) E
section
variable{X:Cx}{F0 H0:Hp}{e:Expr}{es:List Expr}{pos p apos:Pos}{x m:Str}{C f:Addr}{fd:FuncData}{ps:List Str}{k i:Nat}{sp:uZ}{te:aH}{t:bh}
end
def aa8(h:Heap)(d:Addr)(es:Array DictEntry)(ep:Nat):Prop:=∃o,h.get? d=some o/\o.ExactDict/\o.data= .dict es ep
section
variable{prog:Program}{w:World}{A:Around}{E:bJ}{s:Shared}{d it:Addr}{es:Array DictEntry}{ep i:Nat}
end
section
variable{κ:Type}[DecidableEq κ]
variable{prog:Program}{w:World}{knd:HeapKind prog w κ}{A:Around}{E:bJ}{s:Shared}{d a:Addr}{xs:List (κ×Addr×Value)}{k:κ}{p:Addr×Value}
end
def uc(K:W.Frag)(H:Hp)(y:V)(k:List Key):Prop:=∃b,y= .ref b/\iY K H b (k.map kV)
section
variable{X:Cx}{pins:bC}{σ:St}{H:Hp}{s:Shared}{a:Addr}{y v:V}{u r:Value}{A:Around}{E:bJ}{kvs:List (List Key×V)}{k:List Key}
end
def Sw(K:W.Frag)(td ty:TE):TE:=fun σ H Q=>td σ H fun x H1=>ty σ H1 fun y H2=>∃a kvs k v,x= .ref a/\Rd H2 a (.dT kvs)/\uc K H2 y k/\dH kvs k=some v/\Q v H2
def ZS(K:W.Frag)(neg:Bool)(ty td:TE):TE:=fun σ H Q=>ty σ H fun y H1=>td σ H1 fun x H2=>∃a kvs k,x= .ref a/\Rd H2 a (.dT kvs)/\uc K H2 y k/\Q (.bl (if neg then !(dH kvs k).isSome else(dH kvs k).isSome)) H2
def Sx(K:W.Frag)(td ty:TE):TE:=fun σ H Q=>td σ H fun x H1=>∃a,x= .ref a/\Ay H1 a/\ty σ H1 fun y H2=>∃kvs k v,H2 a=some (.dT kvs)/\uc K H2 y k/\dH kvs k=some v/\Q v (upd H2 a (.dT (qj kvs k)))
section
variable{X:Cx}{o i e:Expr}{pos apos cpos:Pos}{td ty:TE}
end
def rC(ks:List (List Key))(k:List Key):Bool:=ks.any fun k' =>decide (k' =k)
def oR{α:Type}:List (List Key) ->List α ->List Key ->Option α
 | k' ::ks,x::xs,k=>if k' =k then some x else oR ks xs k
 | _,_,_=>none
def putL(ks:List (List Key))(k:List Key):List (List Key):=if rC ks k=true then ks else ks++ [k]
def wV{α:Type}(ks:List (List Key))(xs:List α)(k:List Key)(x:α):List α:=if rC ks k=true then List.zipWith (fun k' y=>if k' =k then x else y) ks xs else xs++ [x]
def nF{α:Type}:List (List Key) ->List α ->List Key ->List α
 | k' ::ks,x::xs,k=>if k' =k then nF ks xs k else x::nF ks xs k
 | _,_,_=> []
def wW(ks:List (List Key))(k:List Key):List (List Key):=ks.filter fun k' =>decide (k' ≠k)
def aa9:D ->D ->(D ->Prop) ->Prop:=fun x y P=>match x,y with | .gh ks xs,.tup ds=>∃k d,ds=k.map cX/\oR ks xs k=some d/\P d | _,_=>False
section
variable{X:Cx}{F0 H0:Hp}{a b:Expr}{pos:Pos}{ta tb:aH}
end
def oU:List Str ->List T ->Str ->Option T
 | f::fs,t::ts,g=>if g=f then some t else oU fs ts g
 | _,_,_=>none
def ud :List Str ->List T ->Str ->T ->List T
 | f::fs,t::ts,g,t' =>if g=f then t' ::ts else t::ud fs ts g t'
 | _,ts,_,_=>ts
def ZV(C:Addr)(i:Nat)(f:Str):aH:=fun Γ P _=>∃as fs ts d,Γ[i]?=some (.tr as (.ob C fs ts))/\oU fs ts f=some (.leaf d)/\P d Γ
def abb(C:Addr)(neg:Bool)(i:Nat)(f:Str)(tk:aH):TT2:=fun Γ P E=>tk Γ (fun kd Γ1=>∃k as fs ts ks us,kd= .tup (k.map cX)/\Γ1[i]?=some (.tr as (.ob C fs ts))/\oU fs ts f=some (.gh ks us)/\P (if neg then !rC ks k else rC ks k) Γ1) E
def ZW(C:Addr)(i:Nat)(f:Str)(j l:Nat)(tv:aH):au:=fun D Γ E=>tv Γ (fun d Γ1=>∃k1 k2 as fs ts ks xs,Γ1[j]?=some (.pu (cX k1))/\Γ1[l]?=some (.pu (cX k2))/\Γ1[i]?=some (.tr as (.ob C fs ts))/\oU fs ts f=some (.gh ks (xs.map .leaf))/\ks.length<sizeLine/\
 D.nx (Γ1.set i (.tr as (.ob C fs (ud fs ts f (.gh (putL ks [k1,k2]) ((wV ks xs [k1,k2] d).map .leaf))))))) E
def ZX(C:Addr)(i:Nat)(f:Str)(j l:Nat):au:=fun D Γ _=>∃k1 k2 as fs ts ks xs d,Γ[j]?=some (.pu (cX k1))/\Γ[l]?=some (.pu (cX k2))/\Γ[i]?=some (.tr as (.ob C fs ts))/\oU fs ts f=some (.gh ks (xs.map .leaf))/\oR ks xs [k1,k2]=some d/\
 D.nx (Γ.set i (.tr as (.ob C fs (ud fs ts f (.gh (wW ks [k1,k2]) ((nF ks xs [k1,k2]).map .leaf))))))
section
variable{X:Cx}{F0 H0:Hp}{ke value e:Expr}{es:List Expr}{pos npos abd apos cpos pos' x1:Pos}{x f:Str}{C:Addr}{i:Nat}{tk tv:aH}{tf:bh}
end
def nDT:jo:=fun Γ P _=>P (.gh [] []) Γ
def Z0(C:Addr)(i:Nat)(f:Str)(te:aH):au:=fun D Γ E=>te Γ (fun d Γ1=>∃as fs ts,Γ1[i]?=some (.tr as (.ob C fs ts))/\f∉fs/\fs.length<1000/\sI (fs++ [f])=true/\D.nx (Γ1.set i (.tr as (.ob C (fs++ [f]) (ts++ [.leaf d]))))) E
def Sy(C:Addr)(i:Nat)(f:Str)(tn:jo):au:=fun D Γ E=>tn Γ (fun t Γ1=>∃as fs ts,Γ1[i]?=some (.tr as (.ob C fs ts))/\f∉fs/\fs.length<1000/\sI (fs++ [f])=true/\∀cs,D.nx (Γ1.set i (.tr (as++cs) (.ob C (fs++ [f]) (ts++ [t]))))) E
section
variable{X:Cx}{F0 H0:Hp}{value e:Expr}{es:List Expr}{pos npos pos' p:Pos}{x f:Str}{C fa:Addr}{fd:FuncData}{ps:List Str}{i k:Nat}{te:aH}{tn:jo}{sp:uZ}{t:bh}
def SJ(C:Addr)(sp:uZ)(t:bh):jo:=fun Γ P E=>t Γ (fun ds Γ1=>sp (.ob C [] []) ds (fun t' _=>P t' Γ1) fun _ Cx=>E Γ1 Cx) E
structure abe (P:Program) (w:World) (K:W.Frag) (mg:Str ->Option Value) (base:Heap) (x:Str) (C:Addr) (k:Nat) (ps:List Str) (sp:uZ):Prop where
 ex:∃f fd,d7 P w K mg base (gP P w) k f fd ps (tZ K sp)/\Mk K C f/\mg x=some (.ref C)/\Binds K fd ps []
 non:∀ds Q Ex,sp (.ob C [] []) ds Q Ex ->sp (.ob C [] []) ds (fun t d=>d= .non/\Q t d) Ex
end
def SM(C:Addr)(m:Str)(sp:cG)(te:aH):aH:=fun Γ P E=>te Γ (fun d Γ1=>match d with
 | .obj C' fs ds=>C' =C/\m∉fs/\sp [.obj C' fs ds] (fun r=>P r Γ1) fun Cx=>E Γ1 Cx
 | _=>False) E
section
variable{X:Cx}{F0 H0:Hp}{o:Expr}{pos apos:Pos}{m:Str}{C:Addr}{ps:List Str}{k:Nat}{sp:cG}{te:aH}
end
abbrev P2:=Str×Str
def SN(a b:P2):Bool:=fZ a.1 b.1 || (decide (a.1=b.1)&&fZ a.2 b.2)
def Z1:P2:=(Str.empty,Str.empty)
def abf(xs:List P2)(i j:Nat):Bool:=SN (xs.getD i Z1) (xs.getD j Z1)
def abg(h:Heap)(v:Value)(p:P2):Prop:=∃(a:Addr) (o:Obj) (m:Nat) (t u:Tok),v= .ref a/\h.get? a=some o/\o.cls= .type "tuple" /\o.data= .seq #[.str p.1 t,.str p.2 u] m
def Z2(p:P2):List Key:= [.inr p.1,.inr p.2]
def pairD(p:P2):D:= .tup [.str p.1,.str p.2]
def zy(H:Hp)(w:V)(p:P2):Prop:=∃b,w= .ref b/\H b=some (.tup [.str p.1,.str p.2])
def SQ(X:Cx):List V ->Hp ->VK ->Prop:=fun vs H Q=>∃(q:Addr) (kvs:List (List Key×V)) (ps:List P2),vs= [.ref q]/\Rd H q (.dT kvs)/\kvs.map (·.1)=ps.map Z2/\ps.length<64/\
 ∀(l:Addr) (ms:List P2) (ws:List V),H l=none ->ms.Perm ps ->ms.Pairwise (fun a b=>SN a b=true) ->ws.length=ms.length ->(∀(i:Nat) w p,ws[i]?=some w ->ms[i]?=some p ->zy H w p) ->Q (.ref l) (upd H l (.lst ws))
def z6m:List D ->(List D ->Prop) ->Prop:=fun ds P=>match ds with
 | [.gh ks _]=>∃ps:List P2,ks=ps.map Z2/\ps.length<64/\∀ms:List P2,ms.Perm ps ->ms.Pairwise (fun a b=>SN a b=true) ->P (ms.map pairD)
 | _=>False
section
variable{X:Cx}{F0 H0:Hp}{a:Expr}{pos p:Pos}{t:bh}
end
def signs(x:Str):List Str:=x.cps.toList.map fun c=>⟨#[c]⟩
def Itx(x:Str):It:=⟨fun i _=>i<x.cps.size,fun i H v H' =>H' =H/\∃c,x.cps[i]?=some c/\v= .str ⟨#[c]⟩,fun i _=>x.cps.size<=i⟩
def abh(te:TE):TI:=fun σ H R=>te σ H fun v H1=>∃x,v= .str x/\R (Itx x) H1
def z60(te:aH):bh:=fun Γ P E=>te Γ (fun d Γ1=>match d with | .str x=>x.length<=sizeLine/\P ((signs x).map .str) Γ1 | _=>False) E
section
variable{X:Cx}{F0 H0:Hp}{e tg:Expr}{te:aH}
end
def abj:D ->D ->(D ->Prop) ->Prop:=fun x y P=>match x,y with | .str a,.str b=>P (.bl (!fZ b a)) | _,_=>False
def Gz(x:Str)(b:Nat):Str:=⟨(x.cps.toList.take b).toArray⟩
def GC(x:Str)(a:Nat):Str:=⟨(x.cps.toList.drop a).toArray⟩
def abk:V ->Option Int ->Option Int ->Hp ->VK ->Prop:=fun x lo hi H Q=>∃z:Str,x= .str z/\z.length<=sizeLine/\ ((∃b:Nat,lo=none/\hi=some (b:Int)/\Q (.str (Gz z b)) H)\/∃a:Nat,lo=some (a:Int)/\hi=none/\Q (.str (GC z a)) H)
def abl(te:aH)(tl th:uV):aH:=fun Γ P E=>te Γ (fun d Γ1=>tl Γ1 (fun l Γ2=>th Γ2 (fun u Γ3=>match d with
 | .str z=>z.length<=sizeLine/\ ((∃b:Nat,l=none/\u=some (b:Int)/\P (.str (Gz z b)) Γ3)\/∃a:Nat,l=some (a:Int)/\u=none/\P (.str (GC z a)) Γ3)
 | _=>False) E) E) E
section
variable{X:Cx}{F0 H0:Hp}{e:Expr}{lo hi:Option Expr}{pos p2:Pos}{te:aH}{tl th:uV}
end
def cUp(te:aH):aH:=fun Γ P E=>te Γ (fun d Γ1=>match d with | .str z=>∃c:Nat,z=⟨#[c]⟩/\97<=c/\c<=122/\P (.str ⟨#[c - 32]⟩) Γ1 | _=>False) E
section
variable{X:Cx}{F0 H0:Hp}{o:Expr}{apos cpos:Pos}{te:aH}
end
def z09:List D ->D ->(D ->Prop) ->Prop:=fun xs y P=>match y with
 | .bl true=>∃(bs:List Bool) (j:Nat),xs=bs.map .bl/\bs[j]?=some true/\ (∀m,m<j ->bs[m]?=some false)/\bs.length<1000/\P (.int j)
 | _=>False
def abm(ta tb:aH):aH:=fun Γ P E=>ta Γ (fun d Γ1=>match d with | .lst xs=>tb Γ1 (fun y Γ2=>z09 xs y fun r=>P r Γ2) E | _=>False) E
section
variable{X:Cx}{F0 H0:Hp}{o e:Expr}{apos cpos:Pos}{ta tb:aH}
end
section
variable{X:Cx}{F0 H0:Hp}{e:Expr}{es:List Expr}{pos p np:Pos}{x y:Str}{ps:List Str}{k i:Nat}{sp:uZ}{t:bh}
end
section
variable{prog:Program}{w:World}{A:Around}{E:bJ}{s:Shared}
end
def Z4(K:W.Frag)(n:Nat)(t:vm):TG:=fun v σ H Q=>∃a xs,v= .ref a/\fM K H a xs/\xs.length=n/\t xs σ H Q
def abn(n:Nat)(gs:mq):jH:=fun d Γ Q E=>match d with | .lst ds=>ds.length=n/\gs ds Γ Q E | _=>False
section
variable{X:Cx}{F0 H0:Hp}{es:List Expr}{gs:mq}{pos:Pos}
end
def GD:List Str ->Str
 | []=>Str.empty
 | x::xs=>x++GD xs
def GF:List Str ->Nat
 | []=>0
 | x::xs=>x.length+GF xs
def Z5(te:aH):aH:=fun Γ P E=>te Γ (fun d Γ1=>match d with | .lst ds=>∃xs:List Str,ds=xs.map .str/\GF xs<1000/\P (.str (GD xs)) Γ1 | _=>False) E
section
variable{X:Cx}{F0 H0:Hp}{e:Expr}{apos cpos spos:Pos}{j}{te:aH}
end
section
variable{prog:Program}{w:World}{A:Around}{E:bJ}{s:Shared}
end
def cmH(X:Cx):Prop:=∃a o u vs,X.A.handled=some (.ref a)/\X.H₀ a=some (.frz o u)/\o.data= .fields vs/\vs[2]?=some Value.none
def iLh(te:aH):bh:=fun Γ P E=>te Γ (fun d Γ1=>match d with | .lst ds=>P ds Γ1 | _=>False) E
section
variable{X:Cx}{F0 H0:Hp}{e tg:Expr}{te:aH}{a:Addr}
end
def Z6(i:Nat)(t:jo):au:=fun D Γ E=>t Γ (fun tr Γ1=>((∀d,tr≠ .leaf d)/\∀k,tr≠ .kt k)/\∀a bs,D.nx (Γ1.set i (.tr (a::bs) tr))) E
def Z7(j:Nat)(t:bh):au:=fun D Γ E=>t Γ (fun ds Γ1=>ds.length<=sizeLine/\∃k:List Key,ds=k.map cX/\D.nx (Γ1.set j (.tr [] (.kt k)))) E
def abo(neg:Bool)(i j:Nat):TT2:=fun Γ P _=>∃k as ks us,Γ[j]?=some (.tr [] (.kt k))/\Γ[i]?=some (.tr as (.gh ks us))/\P (if neg then !rC ks k else rC ks k) Γ
def abp(i j:Nat):aH:=fun Γ P _=>∃k as ks xs d,Γ[j]?=some (.tr [] (.kt k))/\Γ[i]?=some (.tr as (.gh ks (xs.map .leaf)))/\oR ks xs k=some d/\P d Γ
def Z8(i j:Nat)(tv:aH):au:=fun D Γ E=>tv Γ (fun d Γ1=>∃k as ks xs,Γ1[j]?=some (.tr [] (.kt k))/\Γ1[i]?=some (.tr as (.gh ks (xs.map .leaf)))/\ks.length<sizeLine/\D.nx (Γ1.set i (.tr as (.gh (putL ks k) ((wV ks xs k d).map .leaf))))) E
def Z9(i j:Nat):au:=fun D Γ _=>∃k as ks xs d,Γ[j]?=some (.tr [] (.kt k))/\Γ[i]?=some (.tr as (.gh ks (xs.map .leaf)))/\oR ks xs k=some d/\D.nx (Γ.set i (.tr as (.gh (wW ks k) ((nF ks xs k).map .leaf))))
section
variable{X:Cx}{F0 H0:Hp}{value:Expr}{es:List Expr}{pos npos kpos apos cpos pos' x1:Pos}{x y:Str}{i j:Nat}{tv:aH}{t:bh}
end
section
variable{K:W.Frag}{F0 H0 F H:Hp}{σ:St}{Γ:List Slot}
open Classical in
end
def cVF(i:Nat):aH:=fun Γ P _=>∃as t,Γ[i]?=some (.tr as t)/\P (toD t) (Γ.set i (.pu (toD t)))
structure abq (P:Program) (w:World) (K:W.Frag) (mg:Str ->Option Value) (base:Heap) (C:Addr) (m:Str) (k:Nat) (ps:List Str) (sp:qG):Prop where
 ex:∃f fd,d7 P w K mg base (gP P w) k f fd ps (oM K sp)/\Meth K C m f/\Binds K fd ps []
def SX(C:Addr)(m:Str)(sp:qG)(te:aH):jo:=fun Γ P E=>te Γ (fun d Γ1=>match d with
 | .obj C' fs ds=>C' =C/\m∉fs/\sp [.obj C' fs ds] (fun t=>P t Γ1) fun Cx=>E Γ1 Cx
 | _=>False) E
section
variable{X:Cx}{F0 H0:Hp}{o:Expr}{pos apos:Pos}{m:Str}{C:Addr}{ps:List Str}{k:Nat}{sp:qG}{te:aH}
end
def Itk(a:Addr)(o:Obj)(kvs:List (List Key×V))(bs:List Addr):It:=⟨fun i H=>H a=some (.frz o (.dT kvs))/\i<bs.length,fun i H x H' =>H' =H/\∃b,bs[i]?=some b/\x= .ref b,fun i H=>H a=some (.frz o (.dT kvs))/\bs.length<=i⟩
def aac(Hz:Hp)(te:TE):TI:=fun σ H R=>te σ H fun v H1=>∃a kvs,v= .ref a/\H1 a=some (.dT kvs)/\ (kvs.length<=sizeLine ->(∀o u,Hz a≠some (.frz o u)) ->∀o (bs:List Addr),bs.length=kvs.length ->(∀(i:Nat) b kv,bs[i]?=some b ->kvs[i]?=some kv ->H1 b=some (.tup (kv.1.map kV))) ->R (Itk a o kvs bs) (upd H1 a (.frz o (.dT kvs))))
def aad(n:Nat)(g:jH)(te:aH)(ti:aH):bh:=fun Γ P E=>ti Γ (fun d Γ1=>match d with
 | .gh ks _=>aQ (pP g gC te (List.replicate n .no)) (ks.map fun k=> .tup (k.map cX)) fun ys=>∃zs:List Str,ys=zs.map .str/\P ys Γ1
 | _=>False) E
section
variable{X:Cx}{F0 H0:Hp}{sc:Scope}{own:List Str}{N' :List Str}{elt tg iter:Expr}{pos:Pos}{ti te:aH}{g:jH}
end
def vQ:D ->Option (List Key×List D)
 | .dic ks xs=>some (ks,xs)
 | .dik ks xs=>some (ks,xs)
 | _=>none
def eY:List Key ->List D ->Key ->Option D
 | k' ::ks,x::xs,k=>if k' =k then some x else eY ks xs k
 | _,_,_=>none
theorem GJ{K:W.Frag}{F:Hp}{d:D}{v:V}{ks:List Key}{xs:List D}(h:vQ d=some (ks,xs))(r:Rep K F d v):∃a vs,v= .ref a/\Rd F a (.dK (ks.zip vs))/\ks.length=vs.length/\ak K F xs vs:=by
 cases d with
 | dic ks' xs' =>
  cases h;unfold Rep at r;obtain⟨a,vs,rfl,e,l,rs⟩:=r;exact⟨a,vs,rfl,.inl e,l,rs⟩
 | dik ks' xs' =>
  cases h;unfold Rep at r;obtain⟨a,o,vs,rfl,e,l,rs⟩:=r;exact⟨a,vs,rfl,.inr ⟨o,e⟩,l,rs⟩
 | _=>cases h
theorem GK(s:Same F H)(r:Rd F a u):Rd H a u:=by
 rcases r with r | ⟨o,r⟩
 ·exact .inl (s _ _ r)
 ·exact .inr ⟨o,s _ _ r⟩
theorem zm6{K:W.Frag}{F:Hp}{k:Key}:∀{ks:List Key} {xs:List D} {vs:List V},ak K F xs vs ->(∀d,eY ks xs k=some d ->∃v,dH (ks.zip vs) k=some v/\Rep K F d v)/\ (eY ks xs k=none ->dH (ks.zip vs) k=none)
 | [],xs,vs,_=>by
  refine⟨fun d h=> ?_,fun _=>rfl⟩;unfold eY at h;cases h
 | _::_,[],vs,r=>by
  unfold ak at r;subst r;refine⟨fun d h=> ?_,fun _=>rfl⟩;unfold eY at h;cases h
 | k' ::ks,x::xs,vs,r=>by
  unfold ak at r;obtain⟨v,us,rfl,r1,r2⟩:=r;have ih:=zm6 (k:=k) (ks:=ks) r2;unfold dH at ih⊢;rw[List.zip_cons_cons,List.find?_cons];unfold eY;by_cases q:k' =k
  ·refine⟨fun d h=> ?_,fun h=> ?_⟩
   ·rw[if_pos q] at h;cases h;exact⟨v,by simp [q],r1⟩
   ·rw[if_pos q] at h;cases h
  ·rw[if_neg q];simp only [q,decide_false];exact ih
def pQ:D ->D ->(D ->Prop) ->Prop:=fun x y P=>∃ks xs k d,vQ x=some (ks,xs)/\y=cX k/\eY ks xs k=some d/\P d
def GP(neg:Bool):D ->D ->(D ->Prop) ->Prop:=fun x y P=>∃ks xs k,vQ y=some (ks,xs)/\x=cX k/\P (.bl (if neg then !je ks k else je ks k))
def aae(td ty tx:aH):aH:=fun Γ P E=>td Γ (fun d Γ1=>∃ks xs,vQ d=some (ks,xs)/\ty Γ1 (fun kd Γ2=>tx Γ2 (fun df Γ3=>∃k,kd=cX k/\P ((eY ks xs k).getD df) Γ3) E) E) E
def Kv:List D ->(D ->Prop) ->Prop:=fun ds P=>match ds with | [d]=>∃ks xs,vQ d=some (ks,xs)/\P (.int ks.length) | _=>False
section
variable{X:Cx}{F0 H0:Hp}{a b o e f:Expr}{pos apos cpos:Pos}{ta tb td ty tx:aH}
theorem S5(hu:X.A.units+1<cLine)(ha:QE X F0 H0 a ta)(hb:QE X F0 H0 b tb)(hs:vB b:=by exact fun _ _=>rfl):QE X F0 H0 (.Subscript a b pos) (cB pQ ta tb):=fun z E cx=>
 jt (WD (X:=X.wsh z) hu (ha z E cx) (hb z E cx) hs) fun σ H Q su=>by obtain⟨F,Γ,P,R,h,k⟩:=su;exact⟨F,Γ,_,R,h,fun d1 Γ1 F1 H1 v1 R1 s1 r1 h1=>⟨F1,Γ1,_,R1,h1,fun d2 Γ2 F2 H2 v2 R2 s2 r2 h2=>by
  obtain⟨ks,xs,kk,d,e1,rfl,hl,hp⟩:=h2;obtain⟨c,vs,rfl,ec,hkl,rs⟩:=GJ e1 (r1.up s2);have ev:=zp r2;subst ev;obtain⟨v,hv,rv⟩:=(zm6 rs).1 d hl;exact⟨c,v,rfl,.inl ⟨_,kk,GK R2.g ec,rfl,hv.symm⟩,k d Γ2 F2 H2 v R2 (s1.trans s2) rv hp⟩⟩⟩
theorem z4z(hu:X.A.units+1<cLine)(ha:QE X F0 H0 a ta)(hb:QE X F0 H0 b tb)(hm:behindInMarks .In b=false):QT X F0 H0 (.Compare a [.In] [b] pos) (cT (cB (GP false) ta tb)):=fun z E cx=>
 Et (VB (X:=X.wsh z) (z49 (X:=X.wsh z) hu (ha z E cx) (hb z E cx)) hm) fun σ H Q su=>by obtain⟨F,Γ,P,R,h,k⟩:=su;exact⟨F,Γ,_,R,h,fun d1 Γ1 F1 H1 v1 R1 s1 r1 h1=>⟨F1,Γ1,_,R1,h1,fun d2 Γ2 F2 H2 v2 R2 s2 r2 h2=>by
  obtain⟨ks,xs,kk,e1,rfl,hp⟩:=h2;obtain⟨c,vs,rfl,ec,hkl,rs⟩:=GJ e1 r2;have ev:=zp r1;subst ev;refine⟨c,_,rfl,.inl ⟨_,kk,GK R2.g ec,rfl,rfl⟩,_,rfl,?_⟩;rw[ZP hkl];exact k _ Γ2 F2 H2 R2 (s1.trans s2) hp⟩⟩
theorem z0k:cH X (.builtin "len") (m9 X.K Kv):=by
 rintro pins s σ H xs us Q I r ⟨F,ds,P,sF,rs,h,k⟩;unfold Kv at h;split at h
 ·unfold ak ak at rs;obtain⟨v,_,rfl,rd,rfl⟩:=rs;obtain⟨ks,xs,e1,h⟩:=h;obtain⟨c,vs,rfl,ec,hkl,rs⟩:=GJ e1 rd;obtain⟨u,rfl,rx⟩:=vals1 r;cases rx;refine z6h I (GK sF ec) fun t s' I' =>⟨.int ks.length,H,I',⟨t,?_⟩,k _ _ F H (Gr.refl sF) (by unfold Rep;rfl) h⟩
  rw[List.length_zip,<- hkl,Nat.min_self]
 ·exact h.elim
end
section
variable{X:Cx}
theorem zl7(he:PE X e te)(I:Inv X pins σ H s)
  (h0:te σ H Q0) (h:∀v H1,Q0 v H1 ->∃a kvs,v= .ref a/\Rd H1 a (.dK kvs)/\∀(s1:Shared) (ws:List (Key×Value)) (ep:Nat) (r:Addr),Inv X pins σ H1 s1 ->(a==sysModules)=false ->kvs.length<=sizeLine ->KV kvs ws ->s1.heap.DictAt (jq X.prog X.w) a ws ep ->s1.heap.IsValuesView r a ->Q (.ref r) s1)
  (hbase:attributeBase e "values" X.env (eval e X.env)=eval e X.env) (hline:(apos.endLine==cpos.line)=true):
  wpAny (model X.prog X.w) X.A (eval (.Call (.Attribute e "values" apos) [] [] cpos) X.env) Q X.xe s:=by
 refine wpAny_Call_method0_late hbase hline (bK (he pins s σ H _ I h0) fun v s1 hq1=> ?_);obtain⟨x,H1,I1,r1,q0⟩:=hq1;obtain⟨a,kvs,ex,ea,q⟩:=h x H1 q0;subst ex;obtain rfl:v=Value.ref a:=r1;obtain⟨hT,hN,hsm⟩:=WL I1 (.inl ⟨kvs,ea⟩);refine⟨"dict","dict.values",PySem.F.plainAttrs_dict,PySem.F.slot_dict_values,PySem.F.type_dict_values,hT,hN,Calls.callWith_builtin rfl (PySem.evalArgs_none ?_)⟩;obtain⟨hz,_,ws,kv,dd⟩:=wu I1.hok ea;refine call_meetsIn PySem.F.slot_dict_values hT PySem.F.entry_dict_values (PySem.F.args_dict_values_1 _) (meets_dict_values (jq X.prog X.w) a hsm) ⟨⟨ws,dd⟩,?_⟩;obtain⟨o,es,ep,h1,h2,h3,h4⟩:=id dd;have hm:s1.heap.DictAt (jq X.prog X.w) a ws ep:=⟨o,es,h1,h2,h3,h4⟩;have vw:(s1.heap.push {cls:= .type "dict_values",data:= .fields #[.ref a]}).IsValuesView s1.heap.objs.size a:=⟨_,z9 _ rfl,rfl,rfl⟩;exact q _ ws ep _ (I1.kept fun b o e=>z8 _ e) hsm hz kv (hm.push _) vw
theorem zso{ks:List Key}{vs:List V}{ws:List (Key×Value)}{acc:Array Value}(hkl:ks.length=vs.length)(kv:KV (ks.zip vs) ws)(h1:acc.size=ws.length)(h2:∀(i:Nat) (u:Value),acc[i]?=some u ->∃k,ws[i]?=some (k,u)):Vals vs acc.toList:=by
 have hl:=kv.length;rw[List.length_zip,<- hkl,Nat.min_self] at hl;refine R8 (by rw[show acc.toList.length=acc.size from Array.length_toList];omega) fun i x u e1 e2=> ?_
 obtain⟨k,e3⟩:=h2 i u (by rw[<- Array.getElem?_toList];exact e2)
 obtain⟨v,e4,r⟩:=Gs kv e3;have:=(Ks e4).2;rw[e1] at this;cases this;exact r
theorem zxn{e:Expr}{te:TE}{apos cpos pos p:Pos}(hc:X.calm=true)(hg:Gl X "list")(hm:X.mg "list" =none)(he:PE X e te)(hb:bootBuiltins "list" =some (.type "list"):=by decide+kernel)
  (hbase:attributeBase e "values" X.env (eval e X.env)=eval e X.env:=by rfl) (hline:(apos.endLine==cpos.line)=true:=by rfl)
  (he2:starEach [.Call (.Attribute e "values" apos) [] [] cpos] X.env=(false,eval (.Call (.Attribute e "values" apos) [] [] cpos) X.env)::starEach [] X.env:=by rfl):
  PE X (.Call (.Name "list" p) [.Call (.Attribute e "values" apos) [] [] cpos] [] pos) (fun σ H Q=>te σ H fun v H1=>∃(a:Addr) (ks:List Key) (vs:List V),v= .ref a/\Rd H1 a (.dK (ks.zip vs))/\ks.length=vs.length/\∀q,H1 q=none ->Q (.ref q) (upd H1 q (.lst vs))):=by
 intro pins s σ H Q I h;refine wpAny_Call_Name_kw (vh I hg hm hb ?_ (by decide) (by decide))
 refine PyProof.Rows.callWith_type1 ?_ he2 rfl;rw[he2];show wpAny _ _ (spliced ((false,eval (.Call (.Attribute e "values" apos) [] [] cpos) X.env)::backTo pos (starEach [] X.env))) _ _ _;refine Calls.spliced_cons ?_;refine zl7 he I h (fun v H1 hq=> ?_) hbase hline;obtain⟨a,ks,vs,ev,ea,hkl,q⟩:=hq;refine⟨a,ks.zip vs,ev,ea,fun s1 ws ep r I1 hsm hz kv hd vw=> ?_⟩;refine Calls.spliced_nil ?_;have Gu:=kv.length;refine W.kdl_call (W.kdl_values (knd:=jq X.prog X.w) (kvs:=ws) (ep:=ep)) (I1.ok.hd hc) ⟨vw,hd⟩ (by omega) fun h' tk acc c hold hg hac=> ?_
 have hv:=zso hkl kv hac.1 hac.2;have Bx:=hv.length;rw[List.length_zip,<- hkl,Nat.min_self] at hz;have I2:Inv X pins σ (upd H1 s1.heap.objs.size (.lst vs)) {s1 with heap:=h',toks:=tk}:=
  I1.laid (t' :=tk) hold (zO _) (show aU X.prog X.w _ _ _ (.lst vs) from ⟨by omega,_,c,hv,by rw[Array.toArray_toList];exact hg⟩)
 exact⟨.ref s1.heap.objs.size,_,I2,rfl,q _ (I1.hok.fresh (zO _))⟩
theorem z0s(hc:X.calm=true)(hg:Gl X "sum")(hm:X.mg "sum" =none)(he:PE X e te)(hb:bootBuiltins "sum" =some (.builtin "sum"):=by decide+kernel)
  (hbase:attributeBase e "values" X.env (eval e X.env)=eval e X.env:=by rfl) (hline:(apos.endLine==cpos.line)=true:=by rfl)
  (he2:starEach [.Call (.Attribute e "values" apos) [] [] cpos] X.env=(false,eval (.Call (.Attribute e "values" apos) [] [] cpos) X.env)::starEach [] X.env:=by rfl):
  PE X (.Call (.Name "sum" p) [.Call (.Attribute e "values" apos) [] [] cpos] [] pos) (fun σ H Q=>te σ H fun v H1=>∃(a:Addr) (ks:List Key) (ns:List Int),v= .ref a/\Rd H1 a (.dK (ks.zip (ns.map .int)))/\ks.length=ns.length/\Q (.int ns.sum) H1):=by
 intro pins s σ H Q I h;refine wpAny_Call_Name_kw (vh I hg hm hb ?_ (by decide) (by decide))
 refine PyProof.Rows.callWith_builtin1 ?_ he2 rfl;rw[he2];show wpAny _ _ (spliced ((false,eval (.Call (.Attribute e "values" apos) [] [] cpos) X.env)::backTo pos (starEach [] X.env))) _ _ _;refine Calls.spliced_cons ?_;refine zl7 he I h (fun v H1 hq=> ?_) hbase hline;obtain⟨a,ks,ns,ev,ea,hkl,q⟩:=hq;refine⟨a,ks.zip (ns.map .int),ev,ea,fun s1 ws ep r I1 hsm hz kv hd vw=> ?_⟩;refine Calls.spliced_nil ?_;have Gu:=kv.length;have hlk:ws.length=ns.length:=by rw[<- Gu,List.length_zip,List.length_map,<- hkl,Nat.min_self]
 have K:=W.kdl_values (prog:=X.prog) (w:=X.w) (r:=r) (d:=a) (knd:=jq X.prog X.w) (kvs:=ws) (ep:=ep);refine call_sum_walkAnyS ?_;obtain⟨oI,St,hit,W,st⟩:=K.iter X.A.in1 s1 (I1.ok.hd hc) ⟨vw,hd⟩;refine hit _ _ ⟨s1.heap.objs.size,_,_,_,_,_,_,fun i=>ns.getD i 0,rfl,W.toS,st,fun b hb=> ?_,fun i u hu=> ?_,fun s' t' hm' => ?_⟩
 ·show b< (s1.heap.push oI).objs.size;rw[Heap.size_push];rcases zV.mp hb with e | hb
  ·rw[e];exact Nat.lt_succ_self _
  ·rw[List.mem_singleton.mp hb];exact Nat.lt_succ_of_lt (K.there _ ⟨vw,hd⟩).2
 ·obtain⟨k,e3⟩:=hu;obtain⟨v,e4,rv⟩:=Gs kv e3;have e5:=(Ks e4).2;rw[List.getElem?_map] at e5;cases en:ns[i]? with
  | none=>rw[en] at e5;cases e5
  | some n=>
   rw[en] at e5;cases e5;show∃t,u=Value.int (ns.getD i 0) t;rw[List.getD_eq_getElem?_getD,en];exact rv
 ·have hk:∀b o,s1.heap.get? b=some o ->s'.heap.get? b=some o:=fun b o e=>
   hm'.heap b o (fun hI=>absurd (zJ e) (by rw[List.mem_singleton.mp hI];exact yZ _)) (z8 _ e)
  rw[hlk,Yb ns _ (fun i _=>rfl),Moved.eq_with hm'];exact Qz (s:=s1) (v:= .int ns.sum) I1 hk ⟨_,rfl⟩ q
end
def uf(te:aH):bh:=fun Γ P E=>te Γ (fun d Γ1=>∃ks xs,vQ d=some (ks,xs)/\P xs Γ1) E
def wX(te:aH):aH:=fun Γ P E=>te Γ (fun d Γ1=>∃ks xs ns,vQ d=some (ks,xs)/\fV xs=some ns/\P (.int ns.sum) Γ1) E
section
variable{X:Cx}{F0 H0:Hp}{e:Expr}{apos cpos pos p:Pos}{te:aH}
theorem zyp(hc:X.calm=true)(hg:Gl X "list")(hm:X.mg "list" =none)(he:QE X F0 H0 e te)
  (hbase:attributeBase e "values" X.env (eval e X.env)=eval e X.env:=by rfl) (hline:(apos.endLine==cpos.line)=true:=by rfl)
  (he2:starEach [.Call (.Attribute e "values" apos) [] [] cpos] X.env=(false,eval (.Call (.Attribute e "values" apos) [] [] cpos) X.env)::starEach [] X.env:=by rfl):
  QF X F0 H0 (.Call (.Name "list" p) [.Call (.Attribute e "values" apos) [] [] cpos] [] pos) (uf te):=fun z E cx=>
 jt (zxn (X:=X.wsh z) hc hg hm (he z E cx) (by decide+kernel) hbase hline he2) fun σ H Q pJ=>by
 obtain⟨F,Γ,P,R,h,k⟩:=pJ;refine⟨F,Γ,_,R,h,fun d Γ1 F1 H1 v R1 s1 r1 h1=> ?_⟩;obtain⟨ks,xs,e1,h1⟩:=h1;obtain⟨c,vs,rfl,ec,hkl,rs⟩:=GJ e1 r1;refine⟨c,ks,vs,rfl,GK R1.g ec,hkl,fun q hq0=> ?_⟩;obtain⟨R2,q1,q2,q3,ap⟩:=yD R1 hq0 rs;exact k _ Γ1 F1 _ q _ R2 s1 q1 q2 q3 rs ap h1
theorem z2l(hc:X.calm=true)(hg:Gl X "sum")(hm:X.mg "sum" =none)(he:QE X F0 H0 e te)
  (hbase:attributeBase e "values" X.env (eval e X.env)=eval e X.env:=by rfl) (hline:(apos.endLine==cpos.line)=true:=by rfl)
  (he2:starEach [.Call (.Attribute e "values" apos) [] [] cpos] X.env=(false,eval (.Call (.Attribute e "values" apos) [] [] cpos) X.env)::starEach [] X.env:=by rfl):
  QE X F0 H0 (.Call (.Name "sum" p) [.Call (.Attribute e "values" apos) [] [] cpos] [] pos) (wX te):=fun z E cx=>
 jt (z0s (X:=X.wsh z) hc hg hm (he z E cx) (by decide+kernel) hbase hline he2) fun σ H Q pJ=>by
 obtain⟨F,Γ,P,R,h,k⟩:=pJ;refine⟨F,Γ,_,R,h,fun d Γ1 F1 H1 v R1 s1 r1 h1=> ?_⟩;obtain⟨ks,xs,ns,e1,hns,h1⟩:=h1;obtain⟨c,vs,rfl,ec,hkl,rs⟩:=GJ e1 r1;obtain rfl:=QB rs hns;exact⟨c,ks,ns,rfl,GK R1.g ec,by rw[hkl,List.length_map],k _ Γ1 F1 H1 _ R1 s1 (by unfold Rep;rfl) h1⟩
end
def Itf(a:Addr)(o:Obj)(kvs:List (Key×V)):It:=⟨fun i H=>H a=some (.frz o (.dK kvs))/\i<kvs.length,fun i H x H' =>H' =H/\∃k v,kvs[i]?=some (k,v)/\x=kV k,fun i H=>H a=some (.frz o (.dK kvs))/\kvs.length<=i⟩
def S6(te:TE):TI:=fun σ H R=>te σ H fun v H1=>∃a o kvs,v= .ref a/\H1 a=some (.frz o (.dK kvs))/\ (kvs.length<=sizeLine ->R (Itf a o kvs) H1)
def z6y(te:aH):bh:=fun Γ P E=>te Γ (fun d Γ1=>match d with | .dik ks _=>P (ks.map cX) Γ1 | _=>False) E
section
variable{X:Cx}{F0 H0:Hp}{e tg:Expr}{te:aH}
end
def ug(tn:jo):aH:=fun Γ P E=>tn Γ (fun t Γ1=>match t with | .dic ks ts=>P (.dik ks (d8 ts)) Γ1 | _=>False) E
def S7(i:Nat)(t:au):au:=fun D Γ E=>∃as ks ts,Γ[i]?=some (.tr as (.dic ks ts))/\t D (Γ.set i (.pu (.dik ks (d8 ts)))) E
section
variable{K:W.Frag}{F0 H0 F H:Hp}{σ:St}{Γ:List Slot}
open Classical in
theorem SR.nail(R:SR K F0 H0 F H σ Γ)(nd:(a::bs).Nodup)(hn:∀b∈a::bs,F b=none/\H0 b=none/\Apart σ Γ b)(ea:H a=some (.dK (ks.zip vs)))(hkl:ks.length=vs.length)(r:cW K F H ts vs bs):
  ∃F',Same F F' /\SR K F0 H0 F' (L2.upd H a (.frz o (.dK (ks.zip vs)))) σ Γ/\Rep K F' (.dik ks (d8 ts)) (.ref a):=by
 have nab:a∉bs:=(List.nodup_cons.mp nd).1;have sF:Same F (fun b=>if b=a then some (.frz o (.dK (ks.zip vs))) else if b∈bs then H b else F b):=fun b u e=>by
  show(if b=a then some (.frz o (.dK (ks.zip vs))) else if b∈bs then H b else F b)=some u;rw[if_neg (fun z=>by rw[z,(hn a List.mem_cons_self).1] at e;cases e),if_neg (fun hb=>by rw[(hn b (List.mem_cons_of_mem _ hb)).1] at e;cases e)]
  exact e
 refine⟨_,sF,(R.chg (u:= .frz o (.dK (ks.zip vs))) (hn a zY).1 (hn a zY).2.1 (hn a zY).2.2).frzM sF (fun b u e=> ?_) (fun b u e n=> ?_),?_⟩
 ·have e' :(if b=a then some (.frz o (.dK (ks.zip vs))) else if b∈bs then H b else F b)=some u:=e;by_cases hb:b=a
  ·subst hb;rw[if_pos rfl] at e';rw[lW];exact e'
  ·rw[if_neg hb] at e';rw[c7 hb];split at e'
   ·exact e'
   ·exact R.g b u e'
 ·have e' :(if b=a then some (.frz o (.dK (ks.zip vs))) else if b∈bs then H b else F b)=some u:=e;by_cases hb:b=a
  ·subst hb;exact(hn b zY).2
  ·rw[if_neg hb] at e';split at e'
   ·rename_i hm;exact(hn b (zX _ hm)).2
   ·rw[n] at e';cases e'
 ·unfold Rep;refine⟨a,o,vs,rfl,if_pos rfl,hkl,cW.rep sF ts vs bs (fun c hc u hu=> ?_) r⟩;show(if c=a then some (.frz o (.dK (ks.zip vs))) else if c∈bs then H c else F c)=some u;rw[if_neg (show¬c=a from fun z=>nab (z ▸ hc)),if_pos hc];exact hu
end
section
variable{X:Cx}{F0 H0:Hp}{e:Expr}{st:Stmt}{tn:jo}{ts:au}
theorem zuk(he:QN X F0 H0 e tn):QE X F0 H0 e (ug tn):=fun z E cx pins s σ H Q I hq=>by
 obtain⟨F,Γ,P,R,h,k⟩:=hq;refine bK (he z E cx pins s σ H (fun v H1=>∃a kvs,v= .ref a/\H1 a=some (.dK kvs)/\∀o,Q (.ref a) (upd H1 a (.frz o (.dK kvs)))) I ⟨F,Γ,_,R,h,fun t Γ1 F1 H1 v as R1 s1 nd hn r h1=> ?_⟩) fun u s1 hq1=> ?_
 ·split at h1
  ·rename_i ks ts;unfold TR at r;obtain⟨a,vs,bs,rfl,rfl,ea,hkl,r⟩:=r;refine⟨a,_,rfl,ea,fun o=> ?_⟩;obtain⟨F',sF,R2,rp⟩:=R1.nail (o:=o) nd hn ea hkl r;exact k _ Γ1 F' _ _ R2 (s1.trans sF) rp h1
  ·exact h1.elim
 ·obtain⟨x,H1,I1,r1,a,kvs,ex,ea,q⟩:=hq1;subst ex;obtain rfl:u=Value.ref a:=r1;obtain⟨_,_,ws,kv,o,es,ep,h1,_⟩:=Jw I1.hok ea;exact⟨.ref a,_,ZK I1 ea h1,rfl,q o⟩
end
def GQ(i:Nat)(tk tv:aH):au:=fun D Γ E=>tv Γ (fun d Γ1=>(∃as t,Γ1[i]?=some (.tr as t))/\tk Γ1 (fun kd Γ2=>∃k as ks xs,kd=cX k/\Γ2[i]?=some (.tr as (.dic ks (xs.map .leaf)))/\ks.length<sizeLine/\D.nx (Γ2.set i (.tr as (.dic (eV ks k) ((cP ks xs k d).map .leaf))))) E) E
section
variable{X:Cx}{F0 H0:Hp}{ke value:Expr}{pos npos pos' :Pos}{x:Str}{i:Nat}{tk tv:aH}
theorem zyv(hu:X.A.units+1<cLine)(hN:X.N[i]?=some x)(hv:pF X.env.scope x)(hk:QE X F0 H0 ke tk)(hval:QE X F0 H0 value tv)(hs:swapsWith value (some (.Subscript (.Name x npos) ke pos')) pos.line X.env=pure false:=by rfl)
  (hd:(x==("__debug__" :Str))=false:=by decide) (hcd:(x==("__classdict__" :Str))=false:=by decide):QS X F0 H0 (.Assign [.Subscript (.Name x npos) ke pos'] value pos) (GQ i tk tv):=fun z E cx=>
 nW (Oc (X:=X.wsh z) hu (rZ (X:=X.wsh z) (i:=i) hN hv hd hcd) (hk z E cx) (hval z E cx) hs) fun Dn σ H hq1=>by obtain⟨F,Γ,D2,R,h,k⟩:=hq1;exact⟨F,Γ,_,R,h,fun d Γ1 F1 H1 v R1 s1 rd hq2=>by
  obtain⟨⟨as,t,e0⟩,q⟩:=hq2;obtain⟨o,e1,w,rfl,_⟩:=R1.sl i _ e0;refine⟨w,e1,F1,Γ1,_,R1,q,fun kd Γ2 F2 H2 y R2 s2 rk q2=> ?_⟩;obtain⟨kk,as',ks,xs,rfl,e2,hl,q2⟩:=q2;obtain⟨o,e3,w',rfl,nd,hn,r⟩:=R2.sl i _ e2;rw[e1] at e3;cases e3;unfold TR at r;obtain⟨a,vs,bs,rfl,rfl,ea,hkl,r⟩:=r;obtain⟨rfl,rs⟩:=RN r;have ev:=zp rk;subst ev;refine⟨a,_,rfl,oh.k (k:=kk) ea (by rw[List.length_zip,<- hkl,Nat.min_self];exact hl),?_⟩
  rw[RM hkl];refine k.nx _ _ _ _ (R2.wrT e2 e1 (show eN (Slot.tr [a] (.dic ks (xs.map .leaf))) (some (.ref a)) a from zY) (t:= .tr [a] (.dic (eV ks kk) ((cP ks xs kk d).map .leaf))) ⟨_,rfl,nd,hn,?_⟩ fun b hb=> .inl hb) (s1.trans s2) q2;unfold TR;exact⟨a,_,[],rfl,rfl,lW,Zg hkl,Km (Zi rs (rd.up s2))⟩⟩
end
def z58:List D ->(List D ->Prop) ->Prop:=fun ds P=>match ds with
 | [d]=>∃xs:List Str,∃ys,vQ d=some (xs.map .inr,ys)/\xs.Nodup/\xs.length<64/\∀ms:List Str,ms.Perm xs ->ms.Pairwise (fun a b=>fZ a b=true) ->P (ms.map .str)
 | _=>False
def S8(X:Cx):List V ->Hp ->VK ->Prop:=fun vs H Q=>∃(q:Addr) (kvs:List (Key×V)) (xs:List Str),vs= [.ref q]/\Rd H q (.dK kvs)/\kvs.map (·.1)=xs.map .inr/\xs.Nodup/\xs.length<64/\
 ∀(l:Addr) (ms:List Str),H l=none ->ms.Perm xs ->ms.Pairwise (fun a b=>fZ a b=true) ->Q (.ref l) (upd H l (.lst (ms.map .str)))
section
variable{X:Cx}{F0 H0:Hp}{a:Expr}{pos p:Pos}{t:bh}
end
theorem hu1(h:n+21<cLine):n+1<cLine:=zM (Nat.add_le_add_left (show 1<=21 by decide) _) h
theorem qv(i:Nat)(hN:X.N[i]?=some x:=by exact rfl)(hv:pF X.env.scope x:=by first | exact Or.inl rfl | exact Or.inr (Or.inl rfl) | exact Or.inr (Or.inr rfl))(hd:(x==("__debug__" :Str))=false:=by decide)(hcd:(x==("__classdict__" :Str))=false:=by decide):QE X F0 H0 (.Name x pos) (cV i):=z33 hN hv hd hcd
end L3
namespace Hd
open PySem PySem.W PySem.Calls PyProof.Rows
def cut(h:Heap)(n:Nat):Frag:=(List.range n).filterMap fun a=>(h.get? a).map fun o=>(a,o)
theorem zzb{h:Heap}:∀{l:List Nat} {a:Addr} {o:Obj},(l.filterMap fun a=>(h.get? a).map fun o=>(a,o)).lookup a=some o ->h.get? a=some o:=by
 intro l;induction l with
 | nil=>intro a o e;cases e
 | cons b r ih=>
  intro a o e;rw[List.filterMap_cons] at e;cases hb:h.get? b with
  | none=>rw[hb] at e;exact ih e
  | some x=>
   rw[hb] at e;simp only [Option.map_some,List.lookup_cons] at e;split at e
   ·rename_i q;cases e;rw[beq_iff_eq.mp q];exact hb
   ·exact ih e
theorem z5g(h:Heap)(n:Nat):(cut h n).In h:=fun _ _ e=>zzb e
def treeOf:List Obj ->Nat ->BT ->BT
 | [],_,t=>t
 | o::r,i,t=>treeOf r (i+1) (t.ins i o)
abbrev ann:Option Value:=some (.ref 6)
abbrev z:Pos:=⟨0,0,0,0⟩
def env(p:Program):Env:={scope:=p.main.scope,locals:=mainNs,globals:=mainNs,cells:= [],code:= .ref 13,frame:=some 14}
def cB(p:Program):Code:= .body (behindTheImports p) (env p)
noncomputable section
def S0(w:World)(os:OsState):Shared:=⟨boot_heap w.params,Array.mk [],boot_drawn,boot_toks,os⟩
def Sa(x:Option (Shared×Thread))(w:World)(os:OsState):Shared:=match x with | some y=>y.1 | none=>S0 w os
def Ta(s:Shared):SharedT:=⟨treeOf s.heap.objs.toList 0 .nil,15,s.heap.life,s.gens,s.drawn,s.toks,s.os⟩
abbrev TB:=String ->Option Builtin
abbrev GoT:=TB ->Program ->World ->Nat ->Option Value ->Nat ->Shared ->Thread ->Option (Shared×Thread)
abbrev S9:=TB ->Program ->World ->Nat ->Option Value ->Nat ->Nat ->SharedT ->Thread ->Option (Flow×SharedT×Code×Pos)
abbrev Tc:=TB ->Program ->World ->Nat ->Option Value ->Nat ->Shared ->Thread ->Option Shared
def fore(tb:TB)(GO:GoT)(p:Program)(w:World)(os:OsState):Shared:=Sa (GO tb p w 11 ann 12 (S0 w os) (topStub p)) w os
def shot{α:Type}(tb:TB)(GO:GoT)(RUN:S9)(TOP:Tc)(EXS:List Stmt ->Env ->Sem Flow)(p:Program)(obs:Shared ->α)(w:World)(os:OsState):Option ((Flow×Code)×α):=
 (RUN tb p w 11 ann 1 30000 (Ta (fore tb GO p w os)) ⟨(EXS (behindTheImports p) (env p)).wrap doneF deadEnd id id,cB p,z,[topFrame z]⟩).bind fun x=>
  (TOP tb p w 11 ann 2 x.2.1.abs ⟨doneF .next,x.2.2.1,x.2.2.2,[topFrame z]⟩).map fun s=>((x.1,x.2.2.1),obs s)
def rest{α:Type}(SEEN:Program ->List Str ->List Str ->(Shared ->Bool) ->Bool ->Shared ->α)(p q:Program)(loose:List Str)(Xt:Shared ->Bool){β:Type}(obs:Frag ->β)(n:Nat)(w:World)(s:Shared):Bool×α×β:=
 (staticsOk (importedModules p.main.body) (boot_heap w.params) s.heap&&namesBound p s.heap&&gensDone s&&laidKept (boot_heap w.params) s.heap,SEEN q loose (importedModules p.main.body) Xt true s,obs (cut s.heap n))
theorem size(w:World):((boot_heap w.params).isNs mainGlobals&&(Array.mk []:Array GenState).size==0,(boot_heap w.params).objs.size,(boot_heap w.params).nsMap mainGlobals "__annotations__")=(true,11,ann):=by kernel_rfl
theorem left
  (e:opening p=plainProg p.main.scope.names) (f:∀s,fenceModules? p s=some s)
  (hA:∀w os,topGo treeTable p w 11 ann 12 (S0 w os) (topStub p)=some (fore treeTable topGo p w os,⟨denote treeTable (cB p),cB p,z,[topFrame z]⟩))
  (hB:∀w os,segRun treeTable p w 11 ann 1 1 (fore treeTable topGo p w os) (blockOf (behindTheImports p) (env p) (cB p) z [topFrame z])=some (.next,fore treeTable topGo p w os,cB p,z))
  (hC:∀w os,(Ta (fore treeTable topGo p w os)).abs=fore treeTable topGo p w os)
  (hD:∀w os,shot treeTable topGo segRunT topRun execs p (rest openSeen p q loose Xt obs n w) w os=some ((.next,cB p),(true,openGood q loose,good))):
  LeftO p q loose Xt (fun s=>obs (cut s.heap n)) (fun _=>good) 40000:=fun w=>by
 obtain⟨⟨h,gs,d,k,os⟩,e1,e2⟩:=Option.map_eq_some_iff.mp (boot_open (N:=40000) e (by decide) f w)
 obtain⟨rfl,rfl,rfl,rfl⟩:h=boot_heap w.params/\gs=Array.mk []/\d=boot_drawn/\k=boot_toks:=by simpa using e2
 obtain⟨z1,z2,z3⟩:_/\_/\_:=by simpa only [Prod.mk.injEq] using size w
 obtain⟨⟨fl,S,c,ps⟩,r1,r2⟩:=Option.bind_eq_some_iff.mp (hD w os);obtain⟨s,t1,t2⟩:=Option.map_eq_some_iff.mp r2;obtain⟨u1,u2⟩:=Prod.mk.inj t2;obtain⟨v1,v2⟩:=Prod.mk.inj u1;obtain⟨y1,y2⟩:=Prod.mk.inj u2;obtain⟨y3,y4⟩:=Prod.mk.inj y2;dsimp only at v1 v2 t1;subst v1 v2;have g1:topRun treeTable p w 11 ann (30000+2) (fore treeTable topGo p w os) (restOf (behindTheImports p++ []) (env p) (cB p) z [topFrame z])=some s:=
  piece_app (by have:=segRun_of r1;rw[hC w os] at this;exact this) (piece_nil t1)
 rw[List.append_nil] at g1;have g2:=go_top (hA w os) (piece_block (hB w os) g1);have g3:=topRun_mono (40000 - (12+ (1+ (30000+2)))) _ _ _ _ g2;unfold openEnds;rw[e1];show(topFrom treeTable p w 40000 (S0 w os)).map _=_;unfold topFrom S0;dsimp only;rw[z1,z2,z3];have g4:topRun treeTable p w 11 ann 40000 ⟨boot_heap w.params,Array.mk [],boot_drawn,boot_toks,os⟩ (topStub p)=some s:=g3;rw[g4];show(match staticsOk (importedModules p.main.body) (boot_heap w.params) s.heap&&namesBound p s.heap&&gensDone s&&laidKept (boot_heap w.params) s.heap with | true=>some s | false=>none).map _=_
 rw[y1];show some (openSeen q loose (importedModules p.main.body) Xt true s,obs (cut s.heap n))=_;rw[y3,y4]
end
open L2 L3
def adr(x:Option (Option Value)):Addr:=match x with | some (some (.ref f))=>f | _=>0
def isRef(x:Option (Option Value)):Bool:=match x with | some (some (.ref _))=>true | _=>false
theorem adr_of(h:isRef x=true):x=some (some (.ref (adr x))):=by
 unfold isRef at h;split at h
 ·rfl
 ·cases h
theorem aT [Decidable p](h:(decide p&&b)=true):p/\b=true:=⟨of_decide_eq_true (Bool.and_eq_true_iff.mp h).1,(Bool.and_eq_true_iff.mp h).2⟩
def bare(fd:FuncData):FuncData:={fd with kwdefaults:= .none,doc:= .none,pyModule:= .none,annotations:=none,code:= .none,closureTuple:= .none}
def BZ(K:Frag)(f:Addr)(qual:Str):Option FuncData:=match K.lookup f with
 | some ⟨_,_,.func fd,_⟩=>(match codeIn K fd.code qual&&keepIn K (.ref f) with | true=>some (bare fd) | false=>none)
 | _=>none
def Td(K:Frag)(v:Value):Bool:=match v with
 | .ref T=>(match K.lookup T with | some ⟨.type t,_,.seq xs _,_⟩=>t== "tuple" &&(match xs.toList with | [.none]=>true | _=>false) | _=>false)
 | _=>false
def fnD(K:Frag)(f:Addr)(qual:Str):Option FuncData:=(BZ K f qual).bind fun fd=>match Td K fd.defaults with | true=>some {fd with defaults:= .none} | false=>none
theorem zv8{K:Frag}{f:Addr}{qual:Str}{g:FuncData}(h:BZ K f qual=some g):∃oc od fd sl,K.lookup f=some ⟨oc,od,.func fd,sl⟩/\codeIn K fd.code qual=true/\keepIn K (.ref f)=true/\bare fd=g:=by
 unfold BZ at h;split at h
 ·rename_i oc od fd sl e;split at h
  ·rename_i q;obtain⟨q1,q2⟩:=Bool.and_eq_true_iff.mp q;exact⟨oc,od,fd,sl,e,q1,q2,zH h⟩
  ·cases h
 ·cases h
theorem z1r{fd:FuncData}{x qual:Str}{st:Stmt}{dV:Value}(h:bare fd=fnOf x qual (vC st) (sG st) (bL st) dV .none .none .none none .none .none):
  fd=fnOf x qual (vC st) (sG st) (bL st) dV fd.kwdefaults fd.doc fd.pyModule fd.annotations fd.code fd.closureTuple:=by
 obtain⟨⟩:=fd;unfold bare at h;dsimp only at h⊢;injection h with h1 h2 h3 h4 h5 h6 h7 h8 h9 _ _ _ _ _ h10;subst h1 h2 h3 h4 h5 h6 h7 h8 h10
 rfl
theorem z44{K:Frag}{f:Addr}{x qual:Str}{st:Stmt}(h:BZ K f qual=some (fnOf x qual (vC st) (sG st) (bL st) .none .none .none .none none .none .none)):∃fd,fu K x qual st f fd:=by
 obtain⟨oc,od,fd,sl,e,c,k,b⟩:=zv8 h;exact⟨fd,⟨⟨oc,od,_,_,_,_,_,_,sl,z1r b,e,c⟩,k⟩⟩
def GR(K:Frag)(x:Str):Option FuncData:=match nsIn K mainGlobals x with | some (some (.ref f))=>BZ K f x | _=>none
def fnM(K:Frag)(x:Str):Option FuncData:=match nsIn K mainGlobals x with | some (some (.ref f))=>fnD K f x | _=>none
theorem zw2{K:Frag}{x:Str}{g:FuncData}(h:GR K x=some g):∃f,nsIn K mainGlobals x=some (some (.ref f))/\BZ K f x=some g:=by
 unfold GR at h;split at h
 ·rename_i e;exact⟨_,e,h⟩
 ·cases h
abbrev ex(x qual:Str)(st:Stmt):Option FuncData:=some (fnOf x qual (vC st) (sG st) (bL st) .none .none .none .none none .none .none)
theorem fun_at{K:Frag}{x:Str}{st:Stmt}(h:GR K x=ex x x st):∃f fd,nsIn K mainGlobals x=some (some (.ref f))/\fu K x x st f fd:=
 let ⟨f,e,h⟩:=zw2 h;let ⟨fd,F⟩:=z44 h;⟨f,fd,e,F⟩
abbrev d(x:Str)(s:Stmt):Str×Stmt:=(x,s)
def seen(K:Frag)(ds:List (Str×Stmt)):List (Option FuncData):=ds.map fun d=>GR K d.1
def due(ds:List (Str×Stmt)):List (Option FuncData):=ds.map fun d=>ex d.1 d.1 d.2
theorem seen_cons{K:Frag}{d:Str×Stmt}{ds:List (Str×Stmt)}(h:seen K (d::ds)=due (d::ds)):GR K d.1=ex d.1 d.1 d.2/\seen K ds=due ds:=List.cons.inj h
def recOf(s:Stmt):DefRec:=match s with
 | .FunctionDef n a b _ _ _ sc _ _ ps=>⟨n,a,b,sc,ps⟩
 | _=>⟨Str.empty,vC s,[],bL s,z⟩
def abr(x:Option (Option Value)):Option Int:=match x with | some (some (.int i _))=>some i | _=>none
def pR:List Value ->Option (List (Sum Int Str))
 | []=>some []
 | .int i _::r=>(pR r).map (.inl i:: ·)
 | .str x _::r=>(pR r).map (.inr x:: ·)
 | _=>none
def abt(K:Frag)(a:Addr):Option (List (Sum Int Str)):=match K.lookup a with
 | some ⟨.type t,_,.seq xs _,_⟩=>if t= "tuple" then pR xs.toList else none
 | _=>none
def aaf:Sum Int Str ->D
 | .inl i=> .int i
 | .inr x=> .str x
theorem walk_ex{l:OpenLaw}{n k:Nat}{q:Program}{loose:List Str}{XP:(Str ->Option Value) ->Heap ->Prop}{YP:World ->Heap ->Prop}{d:DefRec}{Fx:Frag ->Prop}{CX:World ->qN}{sp:Frag ->Sp}{x:Str}
  (hn:l.most=some n) (hn2:n<=sizeLine) (hdf:d.params.defaults= []) (hr:eG k callerA)
  (hY:∀(w:World) (h:Heap),YP w h ->∃K:Frag,K.In h/\Fx K)
  (F:∀(w:World) (K:Frag) (mg:Str ->Option Value) (fa:Addr) (h:Heap),Fx K ->K.In h ->h.Ns mainGlobals mg ->mg d.name=some (.ref fa) ->
   ∃fd:FuncData,(∀(s:Shared) (u:Value),BindsTo s fd ⟨[u],[]⟩ [(x,u)])/\∀b:Heap,K.In b ->b.Ns mainGlobals mg ->d7 l.prog w K mg b (CX w) k fa fd [x] (sp K))
  (hsp:∀(K:Frag) (H:Hp) (a:Addr) (ns:List Int),ns.length<=n ->Only H ->fM K H a (ns.map V.int) ->sp K [.ref a] H (fun v _=>v= .bl true) fun _ _ _=>False)
  (Om:∀(w:World) (H:Hp) (s:Shared) (e:Value) (s' :Shared),CX w [] H s (fun _ _ _=>False) e s' ->False):
  WalkO q loose XP YP l.row.toRowW d [] (fun f vs=>PySem.call f vs):=by
 refine WM.ou hn hdf fun w s₀ s₁ mg mb fa o pm cd doc a vs ns G Y ho hd hcd hmg hobj hints hlen hg=> ?_;obtain⟨K,KX,fx⟩:=hY w _ Y;obtain⟨fd,hb,hF⟩:=F w K mg fa _ fx KX G.T.g hmg;exact zy0 KX G.T.g G.T.b G.T.builtins G.T.nolimit hg hobj hints (zP hlen hn2) hr hF hb (fun H hO hS=>hsp K H a ns hlen hO hS) fun H e s' =>Om w H s₁ e s'
theorem start_binds{K:Frag}{fd:FuncData}{x:Str}{st:Stmt}{f:Addr}(F:fu K "law" "law" st f fd)
  (h:∀(kV doc pm:Value) (an:Option Addr) (cdv ct:Value) (u:Value),bindArgs (fnOf "law" "law" (vC st) (sG st) (bL st) .none kV doc pm an cdv ct) ⟨[u],[]⟩=pure [(x,u)]) (s:Shared) (u:Value):BindsTo s fd ⟨[u],[]⟩ [(x,u)]:=by
 obtain⟨oc,od,kV,doc,pm,an,cdv,ct,osl,rfl,lk,hcd⟩:=F.ex;exact .of_eq (h kV doc pm an cdv ct u)
theorem holds{l:OpenLaw}{q:Program}{loose:List Str}{β:Type}{obs:Frag ->β}{good:β}{n:Nat}{d:DefRec}(said:l.wellSaid=true)
  (L:LeftO l.row.prog q loose (fun _=>true) (fun s=>obs (cut s.heap n)) (fun _=>good) 40000)
  (hd:defOf q l.row.name=some (d,[])) (hp:l.row.prog.theDef l.row.name=some (d.params,d.body,d.scope)) (hk:kwWritten? d.params.kwonlyargs d.params.kw_defaults=some [])
  (ok:(chainsOk q&&opensWell l.row.prog&&(frees l.row.toRowW&&l.row.within.isEmpty))=true) (hb:l.row.prog.bare) (hw:l.row.toRowW.promised) (wr:l.row.writes=false)
  (walk:WalkO q loose (fun _ _=>True) (fun _ h=>∃K:Frag,K.In h/\obs K=good) l.row.toRowW d [] (fun f vs=>PySem.call f vs)):l.Holds:=
 holds_law said fun k1=>holds_open (XP:=fun _ _=>True) (YP:=fun _ h=>∃K:Frag,K.In h/\obs K=good) L (fun _ s e=>⟨_,z5g s.heap n,e⟩) (fun _ _ _ ⟨K,x,e⟩ k=>⟨K,x.keeps k,e⟩)
  (fun _ _=>trivial) (fun _ _ _ _ _=>trivial) hd hp hk (fun s _=>recFacts_of rfl) (by rw[wr];rfl) k1 ok hb hw walk
end Hd
namespace L3
open PySem PySem.Spec PyProof.Rows L2
section
variable{X:Cx}{F0 H0:Hp}
def aag(j:Nat)(t1 t2:bh)(tb:au):au:=fun Dn Γ E=>t1 Γ (fun ds1 Γ1=>ds1.length<=sizeLine/\∃k1:List Key,ds1=k1.map cX/\t2 Γ1 (fun ds2 Γ2=>ds2.length<=sizeLine/\∃k2:List Key,ds2=k2.map cX/\
 ∃M:G2 ->Prop,tb {Dn with nx:=M,ct:=M,bk:=Dn.nx} (Γ2.set j (.tr [] (.kt k1))) E/\∀Γ3,M Γ3 ->tb {Dn with nx:=Dn.nx,ct:=Dn.nx,bk:=Dn.nx} (Γ3.set j (.tr [] (.kt k2))) E) E) E
end
end L3
namespace HM
theorem zqo(a b:Int):Int.gcd b (a.fmod b)=Int.gcd a b:=by
 rw[Int.fmod_def,Int.gcd_sub_mul_left_right,Int.gcd_comm]
theorem Te{a b:Int}(h:b≠0):(a.fmod b).natAbs<b.natAbs:=by
 rw[Int.fmod_eq_emod];have h1:=Int.emod_nonneg a h;have h2:=Int.emod_lt a h;split
 ·omega
 ·rename_i q;have q1:b<0:=by omega
  have q2:a % b≠0:=fun z=>q (.inr (Int.dvd_of_emod_eq_zero z));omega
def dv(t b:Int):Int:=if b<0 then -(Int.gcd t b:Int) else Int.gcd t b
def fr(t b:Int):Int×Int:=(t.fdiv (dv t b),b.fdiv (dv t b))
theorem GX{t b:Int}(h:b≠0):dv t b≠0:=by
 unfold dv;have:Int.gcd t b≠0:=by
  intro e;exact h (Int.gcd_eq_zero_iff.mp e).2
 split<;>omega
theorem z3a(t b:Int):dv t b∣t:=by
 unfold dv;split
 ·exact Int.neg_dvd.mpr (Int.gcd_dvd_left ..)
 ·exact Int.gcd_dvd_left ..
theorem zv3(t b:Int):dv t b∣b:=by
 unfold dv;split
 ·exact Int.neg_dvd.mpr (Int.gcd_dvd_right ..)
 ·exact Int.gcd_dvd_right ..
theorem Aa{a b:Int}(h:b∣a):b*a.fdiv b=a:=by
 rw[Int.fdiv_eq_ediv_of_dvd h];exact Int.mul_ediv_cancel' h
theorem Kw(t b:Int):dv t b* (fr t b).1=t:=Aa (z3a t b)
theorem G3(t b:Int):dv t b* (fr t b).2=b:=Aa (zv3 t b)
theorem Tf{t b:Int}(h:b≠0):0< (fr t b).2:=by
 have e:=G3 t b;have n:=GX (t:=t) h;generalize (fr t b).2=y at*;unfold dv at e n;split at e
 ·rename_i hb;have g0:(0:Int)<Int.gcd t b:=by
   rw[if_pos hb] at n;have:(0:Int)<=Int.gcd t b:=Int.natCast_nonneg _;omega
  rcases Int.lt_or_le 0 y with h | h
  ·exact h
  ·have:0<= -(Int.gcd t b:Int)*y:=by
    rw[Int.neg_mul,<- Int.mul_neg];exact Int.mul_nonneg (by omega) (by omega)
   omega
 ·rename_i hb;have g0:(0:Int)<Int.gcd t b:=by
   rw[if_neg hb] at n;have:(0:Int)<=Int.gcd t b:=Int.natCast_nonneg _;omega
  rcases Int.lt_or_le 0 y with h | h
  ·exact h
  ·have:(Int.gcd t b:Int)*y<=0:=Int.mul_nonpos_of_nonneg_of_nonpos (by omega) h
   omega
theorem Tg{t b:Int}(h:b≠0):Int.gcd (fr t b).1 (fr t b).2=1:=by
 have e1:=Kw t b;have e2:=G3 t b;have n:=GX (t:=t) h;have e3:Int.gcd (dv t b* (fr t b).1) (dv t b* (fr t b).2)=(dv t b).natAbs*Int.gcd (fr t b).1 (fr t b).2:=Int.gcd_mul_left ..;rw[e1,e2] at e3;have e4:(dv t b).natAbs=Int.gcd t b:=by
  unfold dv;split<;>simp
 rw[e4] at e3;have g0:Int.gcd t b≠0:=fun z=>h (Int.gcd_eq_zero_iff.mp z).2;exact(Nat.eq_of_mul_eq_mul_left (Nat.pos_of_ne_zero g0) (by rw[Nat.mul_one];exact e3)).symm
theorem Ti{t b:Int}:(fr t b).1*b=t* (fr t b).2:=by
 have e1:=Kw t b;have e2:=G3 t b
 calc (fr t b).1*b=(fr t b).1* (dv t b* (fr t b).2):=by rw[e2]
  _=(dv t b* (fr t b).1)* (fr t b).2:=by rw[<- Int.mul_assoc,Int.mul_comm (fr t b).1]
  _=t* (fr t b).2:=by rw[e1]
theorem zjk{a b c d:Int}(hb:0<b)(hd:0<d)(h1:Int.gcd a b=1)(h2:Int.gcd c d=1)(h:a*d=c*b):a=c/\b=d:=by
 have bd:b∣d:=by
  have:b∣a*d:=⟨c,by rw[h,Int.mul_comm]⟩
  have z:=Int.dvd_gcd_mul_iff_dvd_mul.mpr this;rw[Int.gcd_comm,h1] at z
  simpa using z
 have db:d∣b:=by
  have:d∣c*b:=⟨a,by rw[<- h,Int.mul_comm]⟩
  have z:=Int.dvd_gcd_mul_iff_dvd_mul.mpr this;rw[Int.gcd_comm,h2] at z
  simpa using z
 have e:b=d:=Int.dvd_antisymm (Int.le_of_lt hb) (Int.le_of_lt hd) bd db;subst e;exact⟨Int.eq_of_mul_eq_mul_right (Int.ne_of_gt hb) h,rfl⟩
theorem z52{t b t' b' :Int}(h:b≠0)(h' :b' ≠0)(e:t*b' =t' *b):fr t b=fr t' b' :=by
 have c1:=Ti (t:=t) (b:=b);have c2:=Ti (t:=t') (b:=b');have p1:=Tf (t:=t) h;have p2:=Tf (t:=t') h';have k:(fr t b).1* (fr t' b').2=(fr t' b').1* (fr t b).2:=by
  generalize (fr t b).1=x at*;generalize (fr t b).2=y at*;generalize (fr t' b').1=x' at*;generalize (fr t' b').2=y' at*
  
  have:(x*y')* (b*b')=(x' *y)* (b*b'):=by
   calc (x*y')* (b*b')=(x*b)* (b' *y'):=by ac_rfl
    _=(t*y)* (b' *y'):=by rw[c1]
    _=(t*b')* (y*y'):=by ac_rfl
    _=(t' *b)* (y*y'):=by rw[e]
    _=(t' *y')* (b*y):=by ac_rfl
    _=(x' *b')* (b*y):=by rw[c2]
    _=(x' *y)* (b*b'):=by ac_rfl
  exact Int.eq_of_mul_eq_mul_right (Int.mul_ne_zero h h') this
 obtain⟨e1,e2⟩:=zjk p1 p2 (Tg h) (Tg h') k;exact Prod.ext e1 e2
theorem z5h{a b:Int}(hb:0<b)(h:Int.gcd a b=1):fr a b=(a,b):=by
 have c1:=Ti (t:=a) (b:=b);obtain⟨e1,e2⟩:=zjk (Tf (t:=a) (Int.ne_of_gt hb)) hb (Tg (Int.ne_of_gt hb)) h (by rw[c1])
 exact Prod.ext e1 e2
theorem Tj{t b:Int}(h:b≠0):(fr t b).1.natAbs<=t.natAbs:=by
 have e:=congrArg Int.natAbs (Kw t b);rw[Int.natAbs_mul] at e;have n:=GX (t:=t) h;have:1<=(dv t b).natAbs:=by omega
 calc (fr t b).1.natAbs=1* (fr t b).1.natAbs:=by rw[Nat.one_mul]
  _<=(dv t b).natAbs* (fr t b).1.natAbs:=Nat.mul_le_mul_right _ this
  _=t.natAbs:=e
theorem Tn{t b:Int}(h:b≠0):(fr t b).2.natAbs<=b.natAbs:=by
 have e:=congrArg Int.natAbs (G3 t b);rw[Int.natAbs_mul] at e;have n:=GX (t:=t) h;have:1<=(dv t b).natAbs:=by omega
 calc (fr t b).2.natAbs=1* (fr t b).2.natAbs:=by rw[Nat.one_mul]
  _<=(dv t b).natAbs* (fr t b).2.natAbs:=Nat.mul_le_mul_right _ this
  _=b.natAbs:=e
end HM
namespace L3
open PySem L2 HM
def qD(q:Rat):D:= .tup [.int q.num,.int q.den]
theorem z28{t b:Int}(h:b≠0):fr t b=((Rat.divInt t b).num,((Rat.divInt t b).den:Int)):=by
 have hb:(0:Int)< (Rat.divInt t b).den:=by have:=(Rat.divInt t b).den_pos;omega
 have hg:Int.gcd (Rat.divInt t b).num (Rat.divInt t b).den=1:=by
  have:=(Rat.divInt t b).reduced;unfold Nat.Coprime at this
  simpa [Int.gcd] using this
 have e:(Rat.divInt t b).num*b=t* (Rat.divInt t b).den:=by
  have q:=Rat.num_divInt_den (Rat.divInt t b);rw[Rat.divInt_eq_divInt_iff (by omega) h] at q
  exact q
 have:=z52 (t:=t) (b:=b) (t' :=(Rat.divInt t b).num) (b' :=(Rat.divInt t b).den) h (by omega) e.symm
 rw[this,z5h hb hg]
theorem G4{t b:Int}(h:b≠0):fr t b=(((t:Rat)/ (b:Rat)).num,(((t:Rat)/ (b:Rat)).den:Int)):=by
 rw[z28 h,Rat.divInt_eq_div]
theorem Ky(q:Rat):((q.den:Int):Rat)≠0:=by
 have:=q.den_pos;intro e;have:(q.den:Int)=0:=by exact_mod_cast e
 omega
theorem Kz(q:Rat):(q.num:Rat)/ ((q.den:Int):Rat)=q:=by
 have:=Rat.num_divInt_den q;rw[Rat.divInt_eq_div] at this;exact this
def Sz(n:Nat)(q:Rat):Prop:=bA q.num<=n/\bA (q.den:Int)<=n
theorem z35{t b:Int}{n:Nat}(h:b≠0)(h1:bA t<=n)(h2:bA b<=n):Sz n ((t:Rat)/ (b:Rat)):=by
 have e:=G4 (t:=t) h;have e1:(fr t b).1=_:=congrArg Prod.fst e;have e2:(fr t b).2=_:=congrArg Prod.snd e;dsimp only at e1 e2;refine⟨zP (qU ?_) h1,zP (qU ?_) h2⟩
 ·rw[<- e1];exact Tj h
 ·rw[<- e2];exact Tn h
theorem z3v(a b:Rat):a+b=((a.num*b.den+b.num*a.den:Int):Rat)/ ((a.den*b.den:Int):Rat):=by
 have ha:=Ky a;have hb:=Ky b;have h1:=Kz a;have h2:=Kz b;rw[Rat.intCast_add,Rat.intCast_mul,Rat.intCast_mul,Rat.intCast_mul];generalize (a.num:Rat)=x at*;generalize (b.num:Rat)=y at*;generalize ((a.den:Int):Rat)=u at*;generalize ((b.den:Int):Rat)=v at*;subst h1 h2
 grind
theorem z0f(a b:Rat):a - b=((a.num*b.den - b.num*a.den:Int):Rat)/ ((a.den*b.den:Int):Rat):=by
 have ha:=Ky a;have hb:=Ky b;have h1:=Kz a;have h2:=Kz b;rw[Rat.intCast_sub,Rat.intCast_mul,Rat.intCast_mul,Rat.intCast_mul];generalize (a.num:Rat)=x at*;generalize (b.num:Rat)=y at*;generalize ((a.den:Int):Rat)=u at*;generalize ((b.den:Int):Rat)=v at*;subst h1 h2
 grind
theorem zj7(a b:Rat):(a.den*b.den:Int)≠0:=Int.mul_ne_zero (by have:=a.den_pos;omega) (by have:=b.den_pos;omega)
theorem z3e{t b:Int}(h:b≠0):D.tup [.int (fr t b).1,.int (fr t b).2]=qD ((t:Rat)/ (b:Rat)):=by rw[G4 h];rfl
theorem G5(i:Int):qD (i:Rat)= .tup [.int i,.int 1]:=rfl
theorem Tq{i:Int}{n:Nat}(h:bA i<=n)(hn:1<=n):Sz n (i:Rat):=⟨h,zP (iM (k:=1) (show(1:Nat)<2^1 by decide)) hn⟩
end L3
namespace HM
section
variable{α:Type}[DecidableEq α]
def aF(g hs:List α):Bool:=hs.any fun h=>decide (h∈g)
theorem cj{g hs:List α}:aF g hs=true↔∃x,x∈g/\x∈hs:=by
 unfold aF;rw[List.any_eq_true];exact⟨fun⟨x,h1,h2⟩=>⟨x,of_decide_eq_true h2,h1⟩,fun⟨x,h1,h2⟩=>⟨x,h2,decide_eq_true h1⟩⟩
theorem zwj{g hs:List α}(h:(!aF g hs)=true){x:α}(h1:x∈g):x∉hs:=fun h2=>by
 rw[cj.mpr ⟨x,h1,h2⟩] at h;cases h
structure dU (Ss fs:List (List α)):Prop where
 ne:∀f∈fs,f≠ []
 dj:fs.Pairwise fun a b=>∀x∈a,x∉b
 co:∀x,(∃f∈fs,x∈f)↔∃S∈Ss,x∈S
 sub:∀S∈Ss,∃f∈fs,∀x∈S,x∈f
 min:∀C:α ->Prop,(∀S∈Ss,(∃x∈S,C x) ->∀x∈S,C x) ->∀f∈fs,(∃x∈f,C x) ->∀x∈f,C x
theorem dU.nil:dU ([]:List (List α)) []:=by
 refine⟨?_,List.Pairwise.nil,?_,?_,?_⟩
 ·intro _ h;cases h
 ·intro x;constructor
  ·rintro⟨_,h,_⟩;cases h
  ·rintro⟨_,h,_⟩;cases h
 ·intro _ h;cases h
 ·intro _ _ _ h;cases h
theorem Ca:∀{fs:List (List α)},fs.Pairwise (fun a b=>∀x∈a,x∉b) ->∀{a b:List α} {x:α},a∈fs ->b∈fs ->x∈a ->x∈b ->a=b
 | [],_,_,_,_,ha,_,_,_=>by cases ha
 | f::fs,h,a,b,x,ha,hb,xa,xb=>by
  rw[List.pairwise_cons] at h;rcases zV.mp ha with e1 | ha1
  ·subst e1;rcases zV.mp hb with e | hb
   ·exact e.symm
   ·exact absurd xb (h.1 b hb x xa)
  ·rcases zV.mp hb with e | hb
   ·subst e;exact absurd xa (h.1 a (by assumption) x xb)
   ·exact Ca h.2 (by assumption) hb xa xb
theorem dU.step{Ss fs:List (List α)}{S g:List α}(h:dU Ss fs)(hS:S≠ [])(hg:∀x,x∈g↔x∈S\/∃f∈fs,aF f S=true/\x∈f):
  dU (Ss++ [S]) (fs.filter (fun f=> !aF f S)++ [g]):=by
 have mf:∀f,f∈fs.filter (fun f=> !aF f S)++ [g] ->(f∈fs/\ (!aF f S)=true)\/f=g:=fun f hf=>by
  rcases zU.mp hf with hf | hf
  ·exact .inl (zF.mp hf)
  ·exact .inr (zT.mp hf)
 have mg:g∈fs.filter (fun f=> !aF f S)++ [g]:=zR _ (zT.mpr rfl);have ml:∀f∈fs,(!aF f S)=true ->f∈fs.filter (fun f=> !aF f S)++ [g]:=fun f h1 h2=>zQ _ (zF.mpr ⟨h1,h2⟩);refine⟨fun f hf=> ?_,?_,fun x=>⟨?_,?_⟩,fun T hT=> ?_,fun C hC f hf hx=> ?_⟩
 ·rcases mf f hf with hf | rfl
  ·exact h.ne f hf.1
  ·intro z;cases S with
   | nil=>exact hS rfl
   | cons x S=>
    have:=(hg x).mpr (.inl zY);rw[z] at this;cases this
 ·rw[List.pairwise_append];refine⟨h.dj.filter _,List.pairwise_singleton _ _,fun a ha b hb x xa=> ?_⟩;rw[List.mem_singleton.mp hb];obtain⟨ha,hn⟩:=zF.mp ha;intro xg;rcases(hg x).mp xg with xs | ⟨f,hf,hm,xf⟩
  ·exact zwj hn xa xs
  ·have:=Ca h.dj ha hf xa xf;subst this;rw[hm] at hn;cases hn
 ·rintro⟨f,hf,xf⟩;rcases mf f hf with hf | rfl
  ·obtain⟨T,hT,xT⟩:=(h.co x).mp ⟨f,hf.1,xf⟩;exact⟨T,zQ _ hT,xT⟩
  ·rcases(hg x).mp xf with xs | ⟨f,hf,_,xf⟩
   ·exact⟨S,zR _ (zT.mpr rfl),xs⟩
   ·obtain⟨T,hT,xT⟩:=(h.co x).mp ⟨f,hf,xf⟩;exact⟨T,zQ _ hT,xT⟩
 ·rintro⟨T,hT,xT⟩;rcases zU.mp hT with hT | hT
  ·obtain⟨f,hf,xf⟩:=(h.co x).mpr ⟨T,hT,xT⟩;cases q:aF f S with
   | true=>exact⟨g,mg,(hg x).mpr (.inr ⟨f,hf,q,xf⟩)⟩
   | false=>exact⟨f,ml f hf (by rw[q];rfl),xf⟩
  ·rw[List.mem_singleton.mp hT] at xT;exact⟨g,mg,(hg x).mpr (.inl xT)⟩
 ·rcases zU.mp hT with hT | hT
  ·obtain⟨f,hf,k⟩:=h.sub T hT;cases q:aF f S with
   | true=>exact⟨g,mg,fun x hx=>(hg x).mpr (.inr ⟨f,hf,q,k x hx⟩)⟩
   | false=>exact⟨f,ml f hf (by rw[q];rfl),k⟩
  ·rw[List.mem_singleton.mp hT];exact⟨g,mg,fun x hx=>(hg x).mpr (.inl hx)⟩
 ·have Tr:∀T∈Ss,(∃x∈T,C x) ->∀x∈T,C x:=fun T hT=>hC T (zQ _ hT);have hCS:=hC S (zR _ (zT.mpr rfl));rcases mf f hf with hf | rfl
  ·exact h.min C Tr f hf.1 hx
  ·have all:∀x∈S,C x:=by
    obtain⟨x,xf,cx⟩:=hx;rcases(hg x).mp xf with xs | ⟨f,hf,hm,xf⟩
    ·exact hCS ⟨x,xs,cx⟩
    ·have:=h.min C Tr f hf ⟨x,xf,cx⟩;obtain⟨y,y1,y2⟩:=cj.mp hm;exact hCS ⟨y,y2,this y y1⟩
   intro y hy;rcases(hg y).mp hy with ys | ⟨f,hf,hm,yf⟩
   ·exact all y ys
   ·obtain⟨z,z1,z2⟩:=cj.mp hm;exact h.min C Tr f hf ⟨z,z1,all z z2⟩ y yf
theorem dU.incl{Ss u5 fs fs' :List (List α)}(h:dU Ss fs)(h' :dU u5 fs')(e:∀S∈Ss,∃S' ∈u5,∀x,x∈S↔x∈S'){f f' :List α}{x:α}(hf:f∈fs)(hf' :f' ∈fs')(h1:x∈f)(h2:x∈f'):∀y∈f,y∈f' :=by
 refine h.min (· ∈f') (fun S hS ⟨z,z1,z2⟩ y hy=> ?_) f hf ⟨x,h1,h2⟩;obtain⟨S',hS',k⟩:=e S hS;obtain⟨f2,hf2,k2⟩:=h'.sub S' hS';have:=Ca h'.dj hf' hf2 z2 (k2 z ((k z).mp z1));subst this;exact k2 y ((k y).mp hy)
theorem dU.same{Ss u5 fs fs' :List (List α)}(h:dU Ss fs)(h' :dU u5 fs')(e:∀S∈Ss,∃S' ∈u5,∀x,x∈S↔x∈S')(e' :∀S∈u5,∃S' ∈Ss,∀x,x∈S↔x∈S'){f:List α}(hf:f∈fs):∃f' ∈fs',∀x,x∈f↔x∈f' :=by
 cases q:f with
 | nil=>exact absurd q (h.ne f hf)
 | cons x r=>
  rw[<- q];have hx:x∈f:=by rw[q];exact zY
  obtain⟨S,hS,xS⟩:=(h.co x).mp ⟨f,hf,hx⟩;obtain⟨S',hS',k⟩:=e S hS;obtain⟨f',hf',xf'⟩:=(h'.co x).mpr ⟨S',hS',(k x).mp xS⟩;exact⟨f',hf',fun y=>⟨fun hy=>h.incl h' e hf hf' hx xf' y hy,fun hy=>h'.incl h e' hf' hf xf' hx y hy⟩⟩
theorem dU.perm{Ss fs gs:List (List α)}(h:dU Ss fs)(p:gs.Perm fs):dU Ss gs:=by
 refine⟨fun f hf=>h.ne f (p.mem_iff.mp hf),?_,fun x=> ?_,fun S hS=> ?_,fun C hC f hf=>h.min C hC f (p.mem_iff.mp hf)⟩
 ·exact(p.pairwise_iff (fun{a b} k x xb xa=>k x xa xb)).mpr h.dj
 ·rw[<- h.co x];exact⟨fun⟨f,hf,k⟩=>⟨f,p.mem_iff.mp hf,k⟩,fun⟨f,hf,k⟩=>⟨f,p.mem_iff.mpr hf,k⟩⟩
 ·obtain⟨f,hf,k⟩:=h.sub S hS;exact⟨f,p.mem_iff.mpr hf,k⟩
inductive Alike:List (List α) ->List (List α) ->Prop
 | nil:Alike [] []
 | cons {f g:List α} {fs gs:List (List α)} (h:∀x,x∈f↔x∈g) (r:Alike fs gs):Alike (f::fs) (g::gs)
theorem Alike.sym{fs gs:List (List α)}(h:Alike fs gs):Alike gs fs:=by
 induction h with
 | nil=>exact .nil
 | cons h _ ih=>exact .cons (fun x=>(h x).symm) ih
theorem Alike.mem{fs gs:List (List α)}(h:Alike fs gs){f:List α}(hf:f∈fs):∃g∈gs,∀x,x∈f↔x∈g:=by
 induction h with
 | nil=>cases hf
 | @cons f0 g0 fs gs k _ ih=>
  rcases zV.mp hf with rfl | hf
  ·exact⟨g0,zY,k⟩
  ·obtain⟨g,hg,k⟩:=ih hf;exact⟨g,zX _ hg,k⟩
theorem Alike.dj{fs gs:List (List α)}(h:Alike fs gs)(d:fs.Pairwise fun a b=>∀x∈a,x∉b):gs.Pairwise fun a b=>∀x∈a,x∉b:=by
 induction h with
 | nil=>exact .nil
 | @cons f0 g0 fs gs k r ih=>
  rw[List.pairwise_cons] at d⊢;refine⟨fun b hb x xg xb=> ?_,ih d.2⟩;obtain⟨f,hf,kk⟩:=r.sym.mem hb;exact d.1 f hf x ((k x).mpr xg) ((kk x).mp xb)
theorem dU.alike{Ss fs gs:List (List α)}(h:dU Ss fs)(p:Alike fs gs):dU Ss gs:=by
 refine⟨fun g hg z=> ?_,p.dj h.dj,fun x=> ?_,fun S hS=> ?_,fun C hC g hg hx y hy=> ?_⟩
 ·obtain⟨f,hf,k⟩:=p.sym.mem hg;refine h.ne f hf (List.eq_nil_iff_forall_not_mem.mpr fun x hx=> ?_);have:=(k x).mpr hx;rw[z] at this;cases this
 ·rw[<- h.co x];constructor
  ·rintro⟨g,hg,xg⟩;obtain⟨f,hf,k⟩:=p.sym.mem hg;exact⟨f,hf,(k x).mp xg⟩
  ·rintro⟨f,hf,xf⟩;obtain⟨g,hg,k⟩:=p.mem hf;exact⟨g,hg,(k x).mp xf⟩
 ·obtain⟨f,hf,k⟩:=h.sub S hS;obtain⟨g,hg,kk⟩:=p.mem hf;exact⟨g,hg,fun x hx=>(kk x).mp (k x hx)⟩
 ·obtain⟨f,hf,k⟩:=p.sym.mem hg;obtain⟨x,xg,cx⟩:=hx;exact h.min C hC f hf ⟨x,(k x).mp xg,cx⟩ y ((k y).mp hy)
theorem Tt{β:Type}{R:β ->β ->Prop}(as:∀a b,R a b ->¬R b a):∀{l m:List β},l.Pairwise R ->m.Pairwise R ->(∀x,x∈l↔x∈m) ->l=m
 | [],[],_,_,_=>rfl
 | [],b::m,_,_,h=>by have:=(h b).mpr zY;cases this
 | a::l,[],_,_,h=>by have:=(h a).mp zY;cases this
 | a::l,b::m,h1,h2,h=>by
  rw[List.pairwise_cons] at h1 h2;have e:a=b:=by
   rcases zV.mp ((h a).mp zY) with e | q
   ·exact e
   ·rcases zV.mp ((h b).mpr zY) with e | q'
    ·exact e.symm
    ·exact absurd (h1.1 b q') (as _ _ (h2.1 a q))
  subst e;have RP:¬R a a:=fun z=>as a a z z;rw[Tt as h1.2 h2.2 fun x=>⟨fun hx=> ?_,fun hx=> ?_⟩]
  ·rcases zV.mp ((h x).mp (zX _ hx)) with e | q
   ·subst e;exact absurd (h1.1 _ hx) RP
   ·exact q
  ·rcases zV.mp ((h x).mpr (zX _ hx)) with e | q
   ·subst e;exact absurd (h2.1 _ hx) RP
   ·exact q
theorem Ab:∀{l U:List α},l.Nodup ->(∀x∈l,x∈U) ->l.length<=U.length
 | [],U,_,_=>Nat.zero_le _
 | a::l,U,nd,h=>by
  have nd' :=List.nodup_cons.mp nd;have ha:=h a zY;have:=Ab (l:=l) (U:=U.erase a) nd'.2 fun x hx=>by
   have ne:x≠a:=fun z=>nd'.1 (z ▸ hx);exact(List.mem_erase_of_ne ne).mpr (h x (zX _ hx))
  rw[List.length_erase_of_mem ha] at this;have:0<U.length:=List.length_pos_of_mem ha;rw[List.length_cons];omega
theorem Tv:∀{fs:List (List α)},fs.Pairwise (fun a b=>∀x∈a,x∉b) ->(∀f∈fs,f.Nodup) ->fs.flatten.Nodup
 | [],_,_=>by simp
 | f::fs,h,k=>by
  rw[List.pairwise_cons] at h;rw[List.flatten_cons,List.nodup_append];refine⟨k f zY,Tv h.2 fun g hg=>k g (zX _ hg),fun a ha b hb e=> ?_⟩;subst e;obtain⟨g,hg,ag⟩:=List.mem_flatten.mp hb;exact h.1 g hg a ha ag
end
def aV(g:Nat ->List Nat ->Rat):List Nat ->Rat
 | []=>0
 | c::cs=>g c cs - aV (fun d ds=>g d (c::ds)) cs
abbrev Row:=Nat ->Rat
def dt:List Row ->List Nat ->Rat
 | [],[]=>1
 | [],_::_=>0
 | r::rs,cs=>aV (fun c ds=>r c*dt rs ds) cs
theorem Tw{g h:Nat ->List Nat ->Rat}:∀{cs:List Nat},(∀c ds,g c ds=h c ds) ->aV g cs=aV h cs
 | [],_=>rfl
 | c::cs,e=>by
  unfold aV;rw[e,Tw (cs:=cs) fun d ds=>e d (c::ds)]
theorem Tz{g h:Nat ->List Nat ->Rat}:∀{cs:List Nat},aV (fun c ds=>g c ds+h c ds) cs=aV g cs+aV h cs
 | []=>by unfold aV;grind
 | c::cs=>by
  unfold aV;rw[Tz (cs:=cs)]
  grind
theorem G6{g:Nat ->List Nat ->Rat}(k:Rat):∀{cs:List Nat},aV (fun c ds=>k*g c ds) cs=k*aV g cs
 | []=>by unfold aV;grind
 | c::cs=>by
  unfold aV;rw[G6 k (cs:=cs)]
  grind
theorem KC{g:Nat ->List Nat ->Rat}:∀{cs:List Nat},(∀c∈cs,∀ds,g c ds=0) ->aV g cs=0
 | [],_=>rfl
 | c::cs,h=>by
  unfold aV;rw[h c List.mem_cons_self,KC (cs:=cs) fun d hd ds=>h d (List.mem_cons_of_mem _ hd) _]
  grind
def two(r s:Row)(h:List Nat ->Rat)(cs:List Nat):Rat:=aV (fun c ds=>r c*aV (fun d es=>s d*h es) ds) cs
theorem zq3(r s:Row):∀(cs:List Nat) (h:List Nat ->Rat),two r s h cs= - two s r h cs
 | [],h=>by unfold two aV;grind
 | c::cs,h=>by
  have key:∀r s:Row,two r s h (c::cs)=r c*aV (fun d es=>s d*h es) cs - s c*aV (fun d es=>r d*h es) cs+two r s (fun es=>h (c::es)) cs:=by
   intro r s;show r c*aV (fun d es=>s d*h es) cs - aV (fun x ds=>r x*aV (fun d es=>s d*h es) (c::ds)) cs=_;have e:(fun(x:Nat) (ds:List Nat)=>r x*aV (fun d es=>s d*h es) (c::ds))=fun x ds=>(s c* (r x*h ds))+ (-1)* (r x*aV (fun d es=>s d*h (c::es)) ds):=by
    funext x ds
    show r x* (s c*h ds - aV (fun d es=>s d*h (c::es)) ds)=_
    grind
   rw[e,Tz,G6,G6];unfold two
   grind
  rw[key r s,key s r,zq3 r s cs]
  grind
theorem zu4(r s:Row)(rs:List Row)(cs:List Nat):dt (r::s::rs) cs= - dt (s::r::rs) cs:=zq3 r s cs (dt rs)
theorem half{x:Rat}(h:x= -x):x=0:=by grind
theorem zz0{r:Row}:∀{rs:List Row} {cs:List Nat},r∈rs ->dt (r::rs) cs=0
 | [],_,h=>by cases h
 | s::rs,cs,h=>by
  rcases zV.mp h with e | h
  ·subst e;exact half (zu4 r r rs cs)
  ·rw[zu4];have:dt (s::r::rs) cs=0:=KC fun c _ ds=>by
    show s c*dt (r::rs) ds=0;rw[zz0 h];grind
   rw[this];grind
def comb:List Rat ->List Row ->Row
 | k::ks,r::rs=>fun j=>k*r j+comb ks rs j
 | _,_=>fun _=>0
theorem z3f(r s:Row)(k:Rat)(rs:List Row)(cs:List Nat):dt ((fun j=>r j+k*s j)::rs) cs=dt (r::rs) cs+k*dt (s::rs) cs:=by
 show aV (fun c ds=>(r c+k*s c)*dt rs ds) cs=aV (fun c ds=>r c*dt rs ds) cs+k*aV (fun c ds=>s c*dt rs ds) cs;rw[<- G6,<- Tz];exact Tw fun c ds=>by grind
theorem G7{rs:List Row}{cs:List Nat}:∀{ks:List Rat} {ss:List Row} {r:Row},(∀s∈ss,s∈rs) ->dt ((fun j=>r j+comb ks ss j)::rs) cs=dt (r::rs) cs
 | [],ss,r,_=>by
  have:(fun j=>r j+comb [] ss j)=r:=by funext j;unfold comb;grind
  rw[this]
 | k::ks,[],r,_=>by
  have:(fun j=>r j+comb (k::ks) [] j)=r:=by funext j;unfold comb;grind
  rw[this]
 | k::ks,s::ss,r,h=>by
  have e:(fun j=>r j+comb (k::ks) (s::ss) j)=fun j=>(fun j=>r j+comb ks ss j) j+k*s j:=by
   funext j
   show r j+ (k*s j+comb ks ss j)=_
   grind
  rw[e,z3f,G7 (ks:=ks) fun t ht=>h t (List.mem_cons_of_mem _ ht),zz0 (h s List.mem_cons_self)]
  grind
theorem KD{r:Row}{rs:List Row}{j:Nat}{cs:List Nat}(h:∀c∈cs,r c=0):dt (r::rs) (j::cs)=r j*dt rs cs:=by
 show r j*dt rs cs - aV (fun d ds=>r d*dt rs (j::ds)) cs=_;rw[KC fun c hc ds=>by rw[h c hc];grind]
 grind
def G8(f:List Nat ->Rat):Prop:=∀pre c d post,f (pre++c::d::post)= - f (pre++d::c::post)
theorem zng:∀(pre:List Nat) (g:Nat ->List Nat ->Rat) (c d:Nat) (post:List Nat),(∀x,G8 (g x)) ->aV g (pre++c::d::post)= - aV g (pre++d::c::post)
 | [],g,c,d,post,h=>by
  have key:∀c d,aV g (c::d::post)=g c (d::post) - g d (c::post)+aV (fun x es=>g x (c::d::es)) post:=by
   intro c d;show g c (d::post) - (g d (c::post) - aV (fun x es=>g x (c::d::es)) post)=_
   grind
  have e:aV (fun x es=>g x (d::c::es)) post=(-1)*aV (fun x es=>g x (c::d::es)) post:=by
   rw[<- G6];exact Tw fun x es=>by
    have:=h x [] d c es;simp only [List.nil_append] at this;rw[this];grind
  show aV g (c::d::post)= - aV g (d::c::post);rw[key c d,key d c,e]
  grind
 | a::pre,g,c,d,post,h=>by
  show g a (pre++c::d::post) - aV (fun x ds=>g x (a::ds)) (pre++c::d::post)= - (g a (pre++d::c::post) - aV (fun x ds=>g x (a::ds)) (pre++d::c::post));rw[h a pre c d post,zng pre (fun x ds=>g x (a::ds)) c d post fun x p c d q=>h x (a::p) c d q]
  grind
theorem KH:∀rs:List Row,G8 (dt rs)
 | []=>fun pre c d post=>by cases pre<;>(unfold dt;grind)
 | r::rs=>fun pre c d post=>zng pre _ c d post fun x p a b q=>by
   show r x*dt rs (p++a::b::q)= - (r x*dt rs (p++b::a::q));rw[KH rs p a b q]
   grind
theorem G9(rs:List Row):∀{post pre:List Nat} {c:Nat},c∈post ->dt rs (pre++c::post)=0
 | [],_,_,h=>by cases h
 | d::post,pre,c,h=>by
  rcases zV.mp h with e | h
  ·subst e;exact half (KH rs pre c c post)
  ·rw[KH rs pre c d post];have:=G9 rs (pre:=pre++ [d]) h;rw[List.append_assoc] at this;rw[show pre++d::c::post=pre++ ([d]++c::post) from rfl,this];grind
def fD(rs:List Row)(f:Row):Prop:=∃ks:List Rat,ks.length=rs.length/\∀j,f j=comb ks rs j
theorem zp5:∀{ks ls:List Rat} {rs:List Row},ks.length=rs.length ->ls.length=rs.length ->∃ms:List Rat,ms.length=rs.length/\∀j,comb ms rs j=comb ks rs j+comb ls rs j
 | [],[],[],_,_=>⟨[],rfl,fun j=>by unfold comb;grind⟩
 | k::ks,l::ls,r::rs,h1,h2=>by
  obtain⟨ms,h3,h4⟩:=zp5 (ks:=ks) (ls:=ls) (rs:=rs) (by simpa using h1) (by simpa using h2)
  refine⟨(k+l)::ms,by simp [h3],fun j=> ?_⟩
  show(k+l)*r j+comb ms rs j=(k*r j+comb ks rs j)+ (l*r j+comb ls rs j);rw[h4];grind
 | [],_,_::_,h,_=>by cases h
 | _::_,_,[],h,_=>by cases h
 | _,[],_::_,_,h=>by cases h
 | _,_::_,[],_,h=>by cases h
theorem zre(x:Rat):∀{ks:List Rat} {rs:List Row},ks.length=rs.length ->∃ms:List Rat,ms.length=rs.length/\∀j,comb ms rs j=x*comb ks rs j
 | [],[],_=>⟨[],rfl,fun j=>by unfold comb;grind⟩
 | k::ks,r::rs,h1=>by
  obtain⟨ms,h3,h4⟩:=zre x (ks:=ks) (rs:=rs) (by simpa using h1)
  refine⟨(x*k)::ms,by simp [h3],fun j=> ?_⟩
  show(x*k)*r j+comb ms rs j=x* (k*r j+comb ks rs j);rw[h4];grind
 | [],_::_,h=>by cases h
 | _::_,[],h=>by cases h
theorem fD.add{rs:List Row}{f g:Row}(h1:fD rs f)(h2:fD rs g):fD rs fun j=>f j+g j:=by
 obtain⟨ks,a,b⟩:=h1;obtain⟨ls,c,d⟩:=h2;obtain⟨ms,e,q⟩:=zp5 a c;exact⟨ms,e,fun j=>by show f j+g j=_;rw[q,b,d]⟩
theorem fD.mul{rs:List Row}{f:Row}(x:Rat)(h:fD rs f):fD rs fun j=>x*f j:=by
 obtain⟨ks,a,b⟩:=h;obtain⟨ms,e,q⟩:=zre x a;exact⟨ms,e,fun j=>by show x*f j=_;rw[q,b]⟩
theorem TF:∀(rs:List Row),∀j,comb (rs.map fun _=>0) rs j=0
 | [],j=>by unfold List.map comb;rfl
 | r::rs,j=>by
  show 0*r j+comb (rs.map fun _=>0) rs j=0;rw[TF rs j];grind
theorem fD.zero(rs:List Row):fD rs fun _=>0:=⟨rs.map fun _=>0,by simp,fun j=>(TF rs j).symm⟩
theorem fD.cons{rs:List Row}{f:Row}(r:Row)(h:fD rs f):fD (r::rs) f:=by
 obtain⟨ks,a,b⟩:=h;refine⟨0::ks,by simp [a],fun j=> ?_⟩
 show f j=0*r j+comb ks rs j;rw[b];grind
theorem fD.head(r:Row)(rs:List Row):fD (r::rs) r:=by
 refine⟨1::rs.map fun _=>0,by simp,fun j=> ?_⟩
 show r j=1*r j+comb (rs.map fun _=>0) rs j;rw[TF];grind
theorem fD.mem{r:Row}:∀{rs:List Row},r∈rs ->fD rs r
 | s::rs,h=>by
  rcases zV.mp h with e | h
  ·subst e;exact fD.head r rs
  ·exact(fD.mem h).cons s
theorem fD.congr{rs:List Row}{f g:Row}(h:fD rs f)(e:∀j,g j=f j):fD rs g:=by
 obtain⟨ks,a,b⟩:=h;exact⟨ks,a,fun j=>by rw[e,b]⟩
theorem zva{rs:List Row}:∀{cs:List Nat} {g:Nat ->Nat ->List Nat ->Rat},(∀x ds,fD rs fun j=>g j x ds) ->fD rs fun j=>aV (g j) cs
 | [],g,_=>fD.zero rs
 | c::cs,g,h=>by
  have h1:=h c cs;have h2:=(zva (cs:=cs) (g:=fun j x ds=>g j x (c::ds)) fun x ds=>h x (c::ds)).mul (-1);exact(h1.add h2).congr fun j=>by
   show g j c cs - aV (fun d ds=>g j d (c::ds)) cs=_
   grind
theorem zp0:∀(rs:List Row) (cs:List Nat),fD rs fun j=>dt rs (j::cs)
 | [],cs=>⟨[],rfl,fun j=>by unfold dt comb;rfl⟩
 | r::rs,cs=>by
  have h1:=(fD.head r rs).mul (dt rs cs);have h2:fD (r::rs) fun j=>aV (fun x ds=>r x*dt rs (j::ds)) cs:=zva fun x ds=>(((zp0 rs ds).cons r).mul (r x));exact(h1.add (h2.mul (-1))).congr fun j=>by
   show r j*dt rs cs - aV (fun d ds=>r d*dt rs (j::ds)) cs=_
   grind
theorem TJ(rs:List Row):∀(n:Nat) (pre post:List Nat),pre.length=n ->fD rs fun j=>dt rs (pre++j::post)
 | 0,pre,post,h=>by
  have:=List.length_eq_zero_iff.mp h;subst this;exact zp0 rs post
 | n+1,pre,post,h=>by
  have hne:pre≠ []:=fun z=>by subst z;cases h
  have e:=List.dropLast_concat_getLast hne;have ih:=(TJ rs n pre.dropLast (pre.getLast hne::post) (by simp [h])).mul (-1)
  refine ih.congr fun j=> ?_;have e2:pre.dropLast++pre.getLast hne::j::post=pre++j::post:=by
   have:=congrArg (· ++j::post) e
   simpa only [List.append_assoc,List.singleton_append] using this
  rw[<- e2,KH rs pre.dropLast (pre.getLast hne) j post]
  grind
def kZ(x:Rat):Prop:=∃z:Int,x=(z:Rat)
theorem kZ.sub{x y:Rat}(h1:kZ x)(h2:kZ y):kZ (x - y):=by
 obtain⟨a,rfl⟩:=h1;obtain⟨b,rfl⟩:=h2;exact⟨a - b,by simp [Rat.intCast_sub]⟩
theorem kZ.mul{x y:Rat}(h1:kZ x)(h2:kZ y):kZ (x*y):=by
 obtain⟨a,rfl⟩:=h1;obtain⟨b,rfl⟩:=h2;exact⟨a*b,by simp [Rat.intCast_mul]⟩
theorem zwl{g:Nat ->List Nat ->Rat}:∀{cs:List Nat},(∀c ds,kZ (g c ds)) ->kZ (aV g cs)
 | [],_=>⟨0,by unfold aV;rfl⟩
 | c::cs,h=>(h c cs).sub (zwl (cs:=cs) fun d ds=>h d (c::ds))
theorem TQ:∀{rs:List Row} {cs:List Nat},(∀r∈rs,∀j,kZ (r j)) ->kZ (dt rs cs)
 | [],[],_=>⟨1,by unfold dt;rfl⟩
 | [],_::_,_=>⟨0,by unfold dt;rfl⟩
 | r::rs,cs,h=>zwl fun c ds=>(h r zY c).mul (TQ fun s hs=>h s (zX _ hs))
theorem TV{rs:List Row}{cs:List Nat}{f:Row}(h:fD rs f)(z:∀c∈cs,f c=0)(d:dt rs cs≠0)(j:Nat):f j=0:=by
 obtain⟨ks,_,e⟩:=h;have h1:dt (f::rs) (j::cs)=f j*dt rs cs:=KD z;have h2:dt (f::rs) (j::cs)=dt ((fun _=>0)::rs) (j::cs):=by
  have:=G7 (rs:=rs) (cs:=j::cs) (ks:=ks) (ss:=rs) (r:=fun _=>0) fun s hs=>hs;rw[<- this]
  congr 2
  funext i
  rw[e];grind
 have h3:dt ((fun _=>0)::rs) (j::cs)=0:=KC fun c _ ds=>by show 0*dt rs ds=0;grind
 rw[h3,h1] at h2;rcases Rat.mul_eq_zero.mp h2 with q | q
 ·exact q
 ·exact absurd q d
theorem z2k{rs:List Row}{cs:List Nat}{a f g:Row}(hf:∀j,f j=a j+g j)(hg:fD rs g)(z:∀c∈cs,f c=0)(wa:∀j,kZ (a j))(wr:∀r∈rs,∀j,kZ (r j))(j:Nat):kZ (dt rs cs*f j):=by
 obtain⟨ks,_,e⟩:=hg;have h1:dt (f::rs) (j::cs)=f j*dt rs cs:=KD z;have h2:dt (f::rs) (j::cs)=dt (a::rs) (j::cs):=by
  have:=G7 (rs:=rs) (cs:=j::cs) (ks:=ks) (ss:=rs) (r:=a) fun s hs=>hs;rw[<- this]
  congr 2
  funext i
  rw[hf,e]
 rw[Rat.mul_comm,<- h1,h2];exact TQ fun r hr=>by
  rcases zV.mp hr with q | q
  ·subst q;exact wa
  ·exact wr r q
theorem z5e{rs:List Row}{pre post:List Nat}{c:Nat}{f:Row}(h:fD rs f)(one:f c=1)(z:∀x∈pre++post,f x=0)(wr:∀r∈rs,∀j,kZ (r j))(d:dt rs (pre++c::post)≠0)(j:Nat):kZ (dt rs (pre++c::post)*f j):=by
 have hl:=TJ rs _ pre post rfl;have e:dt rs (pre++j::post)=dt rs (pre++c::post)*f j:=by
  have key:=TV (cs:=pre++c::post) (hl.add ((h.mul (dt rs (pre++c::post))).mul (-1))) (fun x hx=> ?_) d j
  ·grind
  ·by_cases hc:x=c
   ·subst hc;rw[one];grind
   ·have hx' :x∈pre++post:=by
     rcases zU.mp hx with q | q
     ·exact zQ _ q
     ·rcases zV.mp q with q | q
      ·exact absurd q hc
      ·exact zR _ q
    rw[z x hx'];have:dt rs (pre++x::post)=0:=by
     rcases zU.mp hx' with q | q
     ·obtain⟨p1,p2,rfl⟩:=List.append_of_mem q;have:=G9 rs (pre:=p1) (post:=p2++x::post) (c:=x) (by simp)
      rw[List.append_assoc];exact this
     ·exact G9 rs q
    rw[this];grind
 rw[<- e];exact TQ wr
structure Low (rs:List Row) (cs:List Nat) (a f:Row):Prop where
 g:∃g:Row,fD rs g/\∀j,f j=a j+g j
 z:∀c∈cs,f c=0
structure Up (rs:List Row) (cs:List Nat) (c:Nat) (f:Row):Prop where
 l:fD rs f
 o:f c=1
 z:∀x∈cs,x≠c ->f x=0
theorem Low.dt{rs:List Row}{cs:List Nat}{a f:Row}(h:Low rs cs a f)(p:Nat):HM.dt (a::rs) (p::cs)=f p*HM.dt rs cs:=by
 obtain⟨⟨g,⟨ks,_,e⟩,hf⟩,z⟩:=h;have h1:HM.dt (f::rs) (p::cs)=f p*HM.dt rs cs:=KD z;have h2:HM.dt (f::rs) (p::cs)=HM.dt (a::rs) (p::cs):=by
  have:=G7 (rs:=rs) (cs:=p::cs) (ks:=ks) (ss:=rs) (r:=a) fun s hs=>hs;rw[<- this]
  congr 2
  funext i
  rw[hf,e]
 rw[<- h2,h1]
theorem Low.lin{rs:List Row}{cs:List Nat}{a f:Row}(h:Low rs cs a f):fD (a::rs) f:=by
 obtain⟨⟨g,l,hf⟩,_⟩:=h;exact((fD.head a rs).add (l.cons a)).congr hf
theorem Low.step{rs:List Row}{cs:List Nat}{a b q f:Row}{p:Nat}(hq:Low rs cs a q)(hp:q p≠0)(h:Low rs cs b f):Low (a::rs) (p::cs) b (fun j=>f j - f p/q p*q j):=by
 obtain⟨g,l,hf⟩:=h.g;refine⟨⟨_,(l.cons a).add (hq.lin.mul (-(f p/q p))),fun j=>by show f j - f p/q p*q j=b j+ (g j+ -(f p/q p)*q j);rw[hf j];grind⟩,fun c hc=> ?_⟩
 rcases zV.mp hc with e | hc
 ·subst e;show f c - f c/q c*q c=0;rw[Rat.div_mul_cancel hp];grind
 ·show f c - f p/q p*q c=0;rw[h.z c hc,hq.z c hc];grind
theorem Up.step{rs:List Row}{cs:List Nat}{a q f:Row}{p c:Nat}(hq:Low rs cs a q)(hp:q p≠0)(h:Up rs cs c f)(hc:c∈cs):Up (a::rs) (p::cs) c (fun j=>f j - f p/q p*q j):=by
 refine⟨((h.l.cons a).add (hq.lin.mul (-(f p/q p)))).congr fun j=>by show f j - f p/q p*q j=f j+ -(f p/q p)*q j;grind,?_,fun x hx n=> ?_⟩
 ·show f c - f p/q p*q c=1;rw[h.o,hq.z c hc];grind
 ·rcases zV.mp hx with e | hx
  ·subst e;show f x - f x/q x*q x=0;rw[Rat.div_mul_cancel hp];grind
  ·show f x - f p/q p*q x=0;rw[h.z x hx n,hq.z x hx];grind
theorem Up.new{rs:List Row}{cs:List Nat}{a q:Row}{p:Nat}(hq:Low rs cs a q)(hp:q p≠0):Up (a::rs) (p::cs) p (fun j=>q j/q p):=by
 refine⟨(hq.lin.mul (1/q p)).congr fun j=>by show q j/q p=1/q p*q j;grind,?_,fun x hx n=> ?_⟩
 ·show q p/q p=1
  grind
 ·rcases zV.mp hx with e | hx
  ·exact absurd e n
  ·show q x/q p=0;rw[hq.z x hx];grind
def cols:Nat ->List Nat
 | 0=> []
 | p+1=>p::cols p
theorem eF{x:Nat}:∀{p:Nat},x∈cols p↔x<p
 | 0=>by simp [cols]
 | p+1=>by
  unfold cols;rw[List.mem_cons,eF];omega
theorem TX:∀p,(cols p).Nodup
 | 0=>List.nodup_nil
 | p+1=>by
  unfold cols;exact List.nodup_cons.mpr ⟨fun h=>by have:=eF.mp h;omega,TX p⟩
def dw(A:Nat ->Nat ->Int)(k:Nat):Row:=fun j=>(A k j:Rat)
theorem zrf(A:Nat ->Nat ->Int)(k j:Nat):kZ (dw A k j):=⟨_,rfl⟩
structure BT (n:Nat) (A:Nat ->Nat ->Int) (p:Nat) (d:Int) (tb:Nat ->Nat ->Int) (rs:List Row) (fs:Nat ->Row) (ix:Nat ->Nat):Prop where
 w:∀r∈rs,∃k,k<n/\r=dw A k
 de:(d:Rat)=dt rs (cols p)
 nz:d≠0
 up:∀i,i<p ->Up rs (cols p) i (fs i)
 lo:∀i,p<=i ->i<n ->ix i<n/\Low rs (cols p) (dw A (ix i)) (fs i)
 all:∀k,k<n ->dw A k∈rs\/∃i,p<=i/\i<n/\ix i=k
 t:∀i,i<n ->∀j,(tb i j:Rat)=d*fs i j
theorem zzm(n:Nat)(A:Nat ->Nat ->Int):BT n A 0 1 A [] (dw A) id:=by
 refine⟨fun r h=>(by cases h),?_,by decide,fun i h=>absurd h (Nat.not_lt_zero _),fun i _ h=>⟨h,⟨_,fD.zero [],fun j=>by show dw A i j=dw A i j+0;grind⟩,fun c h=>by cases h⟩,fun k h=> .inr ⟨k,Nat.zero_le _,h,rfl⟩,fun i _ j=> ?_⟩
 ·unfold cols HM.dt;rfl
 ·show(A i j:Rat)=1* (A i j:Rat)
  grind
theorem BT.dz{n p:Nat}{A:Nat ->Nat ->Int}{d:Int}{tb:Nat ->Nat ->Int}{rs:List Row}{fs:Nat ->Row}{ix:Nat ->Nat}(h:BT n A p d tb rs fs ix):dt rs (cols p)≠0:=by
 rw[<- h.de];exact fun z=>h.nz (by exact_mod_cast z)
theorem z00{n:Nat}{rs:List Row}{p:Nat}{f:Row}(wr:∀r∈rs,∀j,kZ (r j))(dz:dt rs (cols p)≠0)(h:(∃c,c<p/\Up rs (cols p) c f)\/∃a,(∀j,kZ (a j))/\Low rs (cols p) a f)(j:Nat):kZ (dt rs (cols p)*f j):=by
 rcases h with ⟨c,hc,u⟩ | ⟨a,wa,l⟩
 ·obtain⟨pre,post,e⟩:=List.append_of_mem (eF.mpr hc);have nd:=TX p;rw[e] at nd;have key:=z5e (rs:=rs) (pre:=pre) (post:=post) (c:=c) (f:=f) u.l u.o (fun x hx=> ?_) wr (by rw[<- e];exact dz) j
  ·rw[e];exact key
  ·refine u.z x ?_ fun z=> ?_
   ·rw[e];rcases zU.mp hx with q | q
    ·exact zQ _ q
    ·exact zR _ (zX _ q)
   ·subst z;rw[List.nodup_append] at nd;rcases zU.mp hx with q | q
    ·exact nd.2.2 x q x zY rfl
    ·exact(List.nodup_cons.mp nd.2.1).1 q
 ·obtain⟨g,lg,hf⟩:=l.g;exact z2k hf lg l.z wa wr j
def jA(p s i:Nat):Nat:=if i=p then s else if i=s then p else i
def nextT(p s:Nat)(d:Int)(tb:Nat ->Nat ->Int):Nat ->Nat ->Int:=fun i j=>if i=p then tb s j else(tb s p*tb (jA p s i) j - tb (jA p s i) p*tb s j).fdiv d
theorem z1b{x d z:Int}(d0:d≠0)(e:x=d*z):x.fdiv d=z:=by
 rw[e,Int.mul_comm,Int.mul_fdiv_cancel _ d0]
theorem Ac{a b:Int}(h:(a:Rat)=(b:Rat)):a=b:=by exact_mod_cast h
theorem BT.step{n p s:Nat}{A:Nat ->Nat ->Int}{d:Int}{tb:Nat ->Nat ->Int}{rs:List Row}{fs:Nat ->Row}{ix:Nat ->Nat}(h:BT n A p d tb rs fs ix)(ps:p<=s)(sn:s<n)(nz:tb s p≠0):
  ∃rs' fs' Ad,BT n A (p+1) (tb s p) (nextT p s d tb) rs' fs' Ad :=by
 obtain⟨hk,lq⟩:=h.lo s ps sn;have ts:(tb s p:Rat)=d*fs s p:=h.t s sn p;have qz:fs s p≠0:=fun z=>nz (Ac (by rw[ts,z];grind))
 have d0:(d:Rat)≠0:=fun z=>h.nz (Ac (by rw[z];rfl))
 let rs' :List Row:=dw A (ix s)::rs
 let fs' :Nat ->Row:=fun i=>if i=p then(fun j=>fs s j/fs s p) else(fun j=>fs (jA p s i) j - fs (jA p s i) p/fs s p*fs s j)
 let Ad :Nat ->Nat:=fun i=>ix (jA p s i)
 have dd:dt rs' (cols (p+1))=(tb s p:Rat):=by
  show dt (dw A (ix s)::rs) (p::cols p)=_;rw[lq.dt p,<- h.de,ts,Rat.mul_comm]
 have w' :∀r∈rs',∃k,k<n/\r=dw A k:=fun r hr=>by
  rcases zV.mp hr with q | q
  ·exact⟨_,hk,q⟩
  ·exact h.w r q
 have wr' :∀r∈rs',∀j,kZ (r j):=fun r hr j=>by obtain⟨k,_,rfl⟩:=w' r hr;exact zrf A k j
 have nz' :(tb s p:Rat)≠0:=fun z=>nz (Ac (by rw[z];rfl))
 have up' :∀i,i<p+1 ->Up rs' (cols (p+1)) i (fs' i):=fun i hi=>by
  by_cases e:i=p
  ·subst e;show Up rs' (i::cols i) i (if i=i then _ else _);rw[if_pos rfl];exact Up.new lq qz
  ·have hip:i<p:=by omega
   have es:jA p s i=i:=by unfold jA;rw[if_neg e,if_neg (by omega)]
   show Up rs' (p::cols p) i (if i=p then _ else _);rw[if_neg e,es];exact Up.step lq qz (h.up i hip) (eF.mpr hip)
 have Hf :∀i,p+1<=i ->i<n ->Ad i<n/\Low rs' (cols (p+1)) (dw A (Ad i)) (fs' i):=fun i hi hn=>by
  have hs:p<=jA p s i/\jA p s i<n:=by
   unfold jA;rw[if_neg (by omega)]
   split<;>omega
  obtain⟨g1,g2⟩:=h.lo _ hs.1 hs.2;refine⟨g1,?_⟩;show Low rs' (p::cols p) _ (if i=p then _ else _);rw[if_neg (by omega)]
  exact Low.step lq qz g2
 refine⟨rs',fs',Ad,w',dd.symm,nz,up',Hf,fun k hk' => ?_,fun i hi j=> ?_⟩
 ·rcases h.all k hk' with q | ⟨i,q1,q2,q3⟩
  ·exact .inl (zX _ q)
  ·by_cases e:i=s
   ·subst e;exact .inl (by rw[<- q3];exact zY)
   ·by_cases ep:i=p
    ·subst ep;refine .inr ⟨s,by omega,sn,?_⟩
     show ix (jA i s s)=k;unfold jA;rw[if_neg (by omega),if_pos rfl];exact q3
    ·refine .inr ⟨i,by omega,q2,?_⟩
     show ix (jA p s i)=k;unfold jA;rw[if_neg ep,if_neg e];exact q3
 ·by_cases e:i=p
  ·subst e;show((if i=i then tb s j else _:Int):Rat)=(tb s i:Rat)* (if i=i then(fun j=>fs s j/fs s i) else _) j;rw[if_pos rfl,if_pos rfl,h.t s sn j,ts];show(d:Rat)*fs s j=d*fs s i* (fs s j/fs s i)
   grind
  ·have hs:jA p s i<n:=by unfold jA;rw[if_neg e];split<;>omega
   have iz:kZ (dt rs' (cols (p+1))*fs' i j):=z00 (n:=n) wr' (by rw[dd];exact nz') (by
    by_cases q:i<p
    ·exact .inl ⟨i,by omega,up' i (by omega)⟩
    ·obtain⟨g1,g2⟩:=Hf i (by omega) hi
     exact .inr ⟨_,zrf A _,g2⟩) j
   obtain⟨z,hz⟩:=iz;rw[dd] at hz;have hf:fs' i j=fs (jA p s i) j - fs (jA p s i) p/fs s p*fs s j:=by
    show(if i=p then _ else _:Row) j=_;rw[if_neg e]
   show((if i=p then _ else(tb s p*tb (jA p s i) j - tb (jA p s i) p*tb s j).fdiv d:Int):Rat)=(tb s p:Rat)*fs' i j;rw[if_neg e,hz]
   congr 1
   refine z1b h.nz (Ac ?_);rw[Rat.intCast_sub,Rat.intCast_mul,Rat.intCast_mul,Rat.intCast_mul,h.t _ hs j,h.t _ hs p,h.t s sn j,<- hz,hf,ts]
   grind
def bF:Nat ->(Nat ->Rat) ->Rat
 | 0,_=>0
 | n+1,g=>bF n g+g n
theorem wY{g h:Nat ->Rat}:∀{n:Nat},(∀i,i<n ->g i=h i) ->bF n g=bF n h
 | 0,_=>rfl
 | n+1,e=>by unfold bF;rw[wY fun i hi=>e i (by omega),e n (by omega)]
theorem zqw{g:Nat ->Rat}{c:Nat}:∀{n:Nat},c<n ->(∀i,i<n ->i≠c ->g i=0) ->bF n g=g c
 | n+1,hc,h=>by
  unfold bF;by_cases e:c=n
  ·subst e;have:bF c g=0:=by
    rw[wY (h:=fun _=>0) fun i hi=>h i (by omega) (by omega)]
    clear h hc;induction c with
    | zero=>rfl
    | succ c ih=>unfold bF;rw[ih];grind
   rw[this];grind
  ·rw[zqw (n:=n) (by omega) fun i hi n' =>h i (by omega) n',h n (by omega) fun z=>e z.symm];grind
theorem zvz{rs:List Row}{fs:Nat ->Row}(a:Nat ->Rat):∀{p:Nat},(∀c,c<p ->fD rs (fs c)) ->fD rs fun j=>bF p fun c=>a c*fs c j
 | 0,_=>fD.zero rs
 | p+1,h=>((zvz a fun c hc=>h c (by omega)).add ((h p (by omega)).mul (a p))).congr fun j=>rfl
theorem BT.span{n p:Nat}{A:Nat ->Nat ->Int}{d:Int}{tb:Nat ->Nat ->Int}{rs:List Row}{fs:Nat ->Row}{ix:Nat ->Nat}(h:BT n A p d tb rs fs ix){f:Row}(l:fD rs f)(j:Nat):f j=bF p fun c=>f c*fs c j:=by
 have hl:=l.add ((zvz (rs:=rs) (fs:=fs) f (p:=p) fun c hc=>(h.up c hc).l).mul (-1));have key:=TV (cs:=cols p) hl (fun c hc=> ?_) h.dz j
 ·grind
 ·have hc' :=eF.mp hc;show f c+ -1* (bF p fun x=>f x*fs x c)=0;rw[zqw hc' fun i hi ni=>by rw[(h.up i hi).z c hc (Ne.symm ni)];grind,(h.up c hc').o]
  grind
theorem BT.eqn{n p:Nat}{A:Nat ->Nat ->Int}{d:Int}{tb:Nat ->Nat ->Int}{rs:List Row}{fs:Nat ->Row}{ix:Nat ->Nat}(h:BT n A p d tb rs fs ix){j:Nat}(z:∀i,p<=i ->i<n ->fs i j=0){k:Nat}(hk:k<n):
  dw A k j=bF p fun c=>dw A k c*fs c j:=by
 rcases h.all k hk with q | ⟨i,q1,q2,rfl⟩
 ·exact h.span (fD.mem q) j
 ·obtain⟨_,l⟩:=h.lo i q1 q2;obtain⟨g,lg,hf⟩:=l.g;have h1:=h.span lg j;have h2:∀c,c<p ->g c= - dw A (ix i) c:=fun c hc=>by
   have:=hf c;rw[l.z c (eF.mpr hc)] at this
   grind
  have h3:=hf j;rw[z i q1 q2] at h3;have h4:(bF p fun c=>g c*fs c j)= - bF p fun c=>dw A (ix i) c*fs c j:=by
   have neg:∀(m:Nat) (u:Nat ->Rat),(bF m fun c=> - u c)= - bF m u:=fun m u=>by
    induction m with
    | zero=>unfold bF;grind
    | succ m ih=>unfold bF;rw[ih];grind
   rw[<- neg];exact wY fun c hc=>by rw[h2 c hc];grind
  rw[h4] at h1
  grind
theorem BT.sol{n:Nat}{A:Nat ->Nat ->Int}{d:Int}{tb:Nat ->Nat ->Int}{rs:List Row}{fs:Nat ->Row}{ix:Nat ->Nat}(h:BT n A n d tb rs fs ix){k:Nat}(hk:k<n)(j:Nat):dw A k j=bF n fun c=>dw A k c*fs c j:=
 h.eqn (fun i h1 h2=>by omega) hk
theorem BT.diag{n p:Nat}{A:Nat ->Nat ->Int}{d:Int}{tb:Nat ->Nat ->Int}{rs:List Row}{fs:Nat ->Row}{ix:Nat ->Nat}(h:BT n A p d tb rs fs ix){i:Nat}(hi:i<p)(hn:i<n):tb i i=d:=by
 have:=h.t i hn i;rw[(h.up i hi).o] at this;exact Ac (by rw[this];grind)
theorem BT.stuck{n p:Nat}{A:Nat ->Nat ->Int}{d:Int}{tb:Nat ->Nat ->Int}{rs:List Row}{fs:Nat ->Row}{ix:Nat ->Nat}(h:BT n A p d tb rs fs ix)(pn:p<n)(z:∀i,p<=i ->i<n ->tb i p=0):
  ∃x:Nat ->Rat,x p=1/\∀k,k<n ->(bF n fun c=>dw A k c*x c)=0:=by
 have d0:(d:Rat)≠0:=fun q=>h.nz (Ac (by rw[q];rfl))
 have z' :∀i,p<=i ->i<n ->fs i p=0:=fun i h1 h2=>by
  have:=h.t i h2 p;rw[z i h1 h2] at this;rcases Rat.mul_eq_zero.mp (show(d:Rat)*fs i p=0 by rw[<- this];rfl) with q | q
  ·exact absurd q d0
  ·exact q
 refine⟨fun c=>if c<p then - fs c p else if c=p then 1 else 0,by simp,fun k hk=> ?_⟩
 have e:=h.eqn z' hk;have cut:∀m,p<m ->m<=n ->(bF m fun c=>dw A k c* (if c<p then - fs c p else if c=p then 1 else 0))=(bF p fun c=>dw A k c* (- fs c p))+dw A k p:=fun m=>by
  induction m with
  | zero=>intro hm;omega
  | succ m ih=>
   intro hm hn;show(bF m fun c=>dw A k c* (if c<p then - fs c p else if c=p then 1 else 0))+dw A k m* (if m<p then - fs m p else if m=p then 1 else 0)=_;by_cases q:m=p
   ·subst q;rw[if_neg (by omega),if_pos rfl]
    rw[wY (h:=fun c=>dw A k c* (- fs c m)) fun c hc=>by rw[if_pos hc]]
    grind
   ·rw[ih (by omega) (by omega),if_neg (by omega),if_neg q];grind
 rw[cut n pn (Nat.le_refl _),e];have neg:(bF p fun c=>dw A k c* (- fs c p))= - bF p fun c=>dw A k c*fs c p:=by
  have:∀(m:Nat) (u:Nat ->Rat),(bF m fun c=> - u c)= - bF m u:=fun m u=>by
   induction m with
   | zero=>unfold bF;grind
   | succ m ih=>unfold bF;rw[ih];grind
  rw[<- this];exact wY fun c _=>by grind
 rw[neg];grind
def ao{α:Type}:List α ->(α ->Rat) ->Rat
 | [],_=>0
 | a::l,f=>f a+ao l f
section
variable{α β:Type}
theorem fG{f g:α ->Rat}:∀{l:List α},(∀a∈l,f a=g a) ->ao l f=ao l g
 | [],_=>rfl
 | a::l,h=>by
  unfold ao;rw[h a List.mem_cons_self,fG fun b hb=>h b (List.mem_cons_of_mem _ hb)]
theorem Ce{f g:α ->Rat}:∀{l:List α},ao l (fun a=>f a+g a)=ao l f+ao l g
 | []=>by unfold ao;grind
 | a::l=>by unfold ao;rw[Ce (l:=l)];grind
theorem u6{f g:α ->Rat}:∀{l:List α},ao l (fun a=>f a - g a)=ao l f - ao l g
 | []=>by unfold ao;grind
 | a::l=>by unfold ao;rw[u6 (l:=l)];grind
theorem uh(k:Rat){f:α ->Rat}:∀{l:List α},ao l (fun a=>k*f a)=k*ao l f
 | []=>by unfold ao;grind
 | a::l=>by unfold ao;rw[uh k (l:=l)];grind
theorem wZ{f:α ->Rat}:∀{l:List α},(∀a∈l,f a=0) ->ao l f=0
 | [],_=>rfl
 | a::l,h=>by
  unfold ao;rw[h a List.mem_cons_self,wZ fun b hb=>h b (List.mem_cons_of_mem _ hb)];grind
theorem w6(k:Rat):∀{l:List α},ao l (fun _=>k)=(l.length:Rat)*k
 | []=>by
  show(0:Rat)=((0:Nat):Rat)*k;have:((0:Nat):Rat)=0:=rfl;rw[this];grind
 | a::l=>by
  show k+ao l (fun _=>k)=((l.length+1:Nat):Rat)*k;rw[w6 k];have:((l.length+1:Nat):Rat)=(l.length:Rat)+1:=by exact_mod_cast rfl
  rw[this];grind
theorem Hg{f:α ->β ->Rat}{m:List β}:∀{l:List α},ao l (fun a=>ao m (f a))=ao m fun b=>ao l fun a=>f a b
 | []=>by
  show(0:Rat)=_;exact(wZ fun _ _=>rfl).symm
 | a::l=>by
  show ao m (f a)+ao l (fun a=>ao m (f a))=ao m fun b=>f a b+ao l fun a=>f a b;rw[Hg (l:=l),<- Ce]
theorem ziw{f:α ->Rat}:∀{l m:List α},ao (l++m) f=ao l f+ao m f
 | [],m=>by show ao m f=0+ao m f;grind
 | a::l,m=>by show f a+ao (l++m) f=(f a+ao l f)+ao m f;rw[ziw];grind
theorem zwy{f:α ->Rat}{l m:List α}(h:l.Perm m):ao l f=ao m f:=by
 induction h with
 | nil=>rfl
 | cons x _ ih=>show f x+_=f x+_;rw[ih]
 | swap x y l=>show f y+ (f x+ao l f)=f x+ (f y+ao l f);grind
 | trans _ _ h1 h2=>rw[h1,h2]
theorem u9{f:α ->Rat}{p:α ->Bool}:∀{l:List α},ao (l.filter p) f=ao l fun a=>if p a=true then f a else 0
 | []=>rfl
 | a::l=>by
  rw[List.filter_cons];show _=(if p a=true then f a else 0)+ao l fun a=>if p a=true then f a else 0;rw[<- u9 (l:=l)];by_cases h:p a=true
  ·rw[if_pos h,if_pos h];rfl
  ·rw[if_neg h,if_neg h];grind
theorem vd{f:β ->Rat}{g:α ->β}:∀{l:List α},ao (l.map g) f=ao l fun a=>f (g a)
 | []=>rfl
 | a::l=>by show f (g a)+_=f (g a)+_;rw[vd]
theorem Hh{f:α ->Rat}:∀{l:List α},(∀a∈l,0<=f a) ->0<=ao l f
 | [],_=>by unfold ao;exact Rat.le_refl
 | a::l,h=>by
  have h1:=h a zY;have h2:=Hh fun b hb=>h b (zX a hb);show 0<=f a+ao l f
  grind
theorem Cg{f:α ->Rat}:∀{l:List α},(∀a∈l,0<=f a) ->ao l f=0 ->∀a∈l,f a=0
 | a::l,h,e=>by
  have h1:=h a zY;have h2:=Hh fun b hb=>h b (zX a hb);have e' :f a+ao l f=0:=e;have e1:f a=0:=by grind
  have e2:ao l f=0:=by grind
  intro b hb;rcases zV.mp hb with q | q
  ·rw[q];exact e1
  ·exact Cg (fun b hb=>h b (zX a hb)) e2 b q
 | [],_,_=>fun a h=>by cases h
end
section
variable{α:Type}[DecidableEq α]
theorem Ci{f:α ->Rat}{s hs:List α}(ns:s.Nodup)(nh:hs.Nodup)(sub:∀x∈s,x∈hs):ao hs (fun h=>if h∈s then f h else 0)=ao s f:=by
 have p:(hs.filter fun h=>decide (h∈s)).Perm s:=by
  rw[List.perm_ext_iff_of_nodup (nh.filter _) ns];intro a;rw[List.mem_filter];exact⟨fun h=>of_decide_eq_true h.2,fun h=>⟨sub a h,decide_eq_true h⟩⟩
 rw[<- zwy p,u9];exact fG fun a _=>by by_cases h:a∈s<;>simp [h]
def aX(s:List α)(x:α ->Rat):Rat:=ao s x/ (s.length:Rat)
theorem zwo{s:List α}(h:s≠ [])(x:α ->Rat):(s.length:Rat)*aX s x=ao s x:=by
 have z:(s.length:Rat)≠0:=by
  have:=List.length_pos_iff.mpr h;intro e;have:s.length=0:=by exact_mod_cast e
  omega
 unfold aX;rw[Rat.div_def,Rat.mul_comm,Rat.mul_assoc,Rat.inv_mul_cancel _ z];grind
theorem TY(s:List α)(x:α ->Rat):ao s (fun h=>x h - aX s x)=0:=by
 rw[u6,w6];by_cases h:s= []
 ·subst h;show(0:Rat) - ((0:Nat):Rat)*_=0;have:((0:Nat):Rat)=0:=rfl;rw[this];grind
 ·rw[zwo h];grind
def iV(S:List (List α))(x:α ->Rat)(h:α):Rat:=ao S fun s=>if h∈s then x h - aX s x else 0
theorem zp2{S:List (List α)}{hs:List α}(ns:∀s∈S,s.Nodup)(nh:hs.Nodup)(sub:∀s∈S,∀x∈s,x∈hs)(c x:α ->Rat):ao hs (fun h=>c h*iV S x h)=ao S fun s=>ao s fun h=>c h* (x h - aX s x):=by
 unfold iV;have e:ao hs (fun h=>c h*ao S fun s=>if h∈s then x h - aX s x else 0)=ao hs fun h=>ao S fun s=>if h∈s then c h* (x h - aX s x) else 0:=
  fG fun h _=>by
   rw[<- uh];exact fG fun s _=>by split<;>grind
 rw[e,Hg];exact fG fun s hS=>Ci (ns s hS) nh (sub s hS)
theorem z1p{S:List (List α)}{hs:List α}(ns:∀s∈S,s.Nodup)(nh:hs.Nodup)(sub:∀s∈S,∀x∈s,x∈hs)(x:α ->Rat):ao hs (iV S x)=0:=by
 have e:=zp2 ns nh sub (fun _=>1) x;have e1:ao hs (fun h=>1*iV S x h)=ao hs (iV S x):=fG fun h _=>by grind
 rw[<- e1,e];exact wZ fun s _=>by
  have e2:ao s (fun h=>1* (x h - aX s x))=ao s (fun h=>x h - aX s x):=fG fun h _=>by grind
  rw[e2,TY]
theorem KJ(r:Rat):0<=r*r:=by
 rcases Rat.le_total (a:=0) (b:=r) with h | h
 ·exact Rat.mul_nonneg h h
 ·have h' :0<= -r:=by grind
  have:=Rat.mul_nonneg h' h'
  grind
theorem zus{r:Rat}(h:r*r=0):r=0:=by
 rcases Rat.mul_eq_zero.mp h with h | h<;>exact h
theorem zy9{S:List (List α)}{hs:List α}(ns:∀s∈S,s.Nodup)(nh:hs.Nodup)(sub:∀s∈S,∀x∈s,x∈hs){x:α ->Rat}(z:∀h∈hs,iV S x h=0):∀s∈S,∀h∈s,x h=aX s x:=by
 have e:=zp2 ns nh sub x x;rw[wZ fun h hh=>by rw[z h hh];grind] at e
 have e2:∀s,ao s (fun h=>x h* (x h - aX s x))=ao s fun h=>(x h - aX s x)* (x h - aX s x):=by
  intro s;have a1:=TY s x;have a2:ao s (fun h=>(x h - aX s x)* (x h - aX s x))=ao s fun h=>x h* (x h - aX s x) - aX s x* (x h - aX s x):=fG fun h _=>by grind
  rw[a2,u6,uh,a1];grind
 have e3:ao S (fun s=>ao s fun h=>(x h - aX s x)* (x h - aX s x))=0:=by
  rw[e];exact fG fun s _=>(e2 s).symm
 intro s hs h hh;have h1:=Cg (fun s _=>Hh fun h _=>KJ _) e3 s hs;have h2:=Cg (fun h _=>KJ _) h1 h hh;have:=zus h2
 grind
def dN(S:List (List α))(h:α):Rat:=ao S fun s=>if h∈s then 1 else 0
theorem zjt(S:List (List α))(h:α):0<=dN S h:=Hh fun s _=>by split<;>decide
theorem z2d{S:List (List α)}{h:α}(i:∃s∈S,h∈s):0<dN S h:=by
 obtain⟨s,hs,hh⟩:=i;refine Rat.lt_of_le_of_ne (zjt S h) fun z=> ?_;have:=Cg (l:=S) (f:=fun s=>if h∈s then(1:Rat) else 0) (fun s _=>by split<;>decide) z.symm s hs
 rw[if_pos hh] at this;exact absurd this (by decide)
theorem zuo{S:List (List α)}{h0:α}{hs:List α}(ns:∀s∈S,s.Nodup)(nh:(h0::hs).Nodup)(sub:∀s∈S,∀x∈s,x∈h0::hs)(on:∀h∈h0::hs,∃s∈S,h∈s)
  (min:∀C:α ->Prop,(∀s∈S,(∃x∈s,C x) ->∀x∈s,C x) ->(∃x∈h0::hs,C x) ->∀x∈h0::hs,C x)
  {x:α ->Rat} (z:∀h∈hs,iV S x h=0) (w:ao (h0::hs) (fun h=>dN S h*x h)=0):∀h∈h0::hs,x h=0:=by
 have z' :∀h∈h0::hs,iV S x h=0:=by
  have e:=z1p ns nh sub x;have e' :iV S x h0+ao hs (iV S x)=0:=e;rw[wZ z] at e';intro h hh;rcases zV.mp hh with q | q
  ·rw[q];grind
  ·exact z h q
 have ev:=zy9 ns nh sub z';have same:∀h∈h0::hs,x h=x h0:=min (fun h=>x h=x h0) (fun s hS hx b hb=>by
  obtain⟨a,ha,ea⟩:=hx;show x b=x h0;have ea' :x a=x h0:=ea;rw[ev s hS b hb,<- ev s hS a ha,ea']) ⟨h0,zY,rfl⟩
 have e1:ao (h0::hs) (fun h=>dN S h*x h)=x h0*ao (h0::hs) (dN S):=by
  rw[<- uh];exact fG fun h hh=>by rw[same h hh];grind
 rw[e1] at w;have pos:ao (h0::hs) (dN S)≠0:=fun zz=>by
  have:=Cg (fun h _=>zjt S h) zz h0 zY;have p:=z2d (on h0 zY);rw[this] at p;exact absurd p (by decide)
 rcases Rat.mul_eq_zero.mp w with q | q
 ·intro h hh;rw[same h hh,q]
 ·exact absurd q pos
def bO(S:List (List α))(h o:α):Rat:=(if h=o then dN S h else 0) - ao S fun s=>if h∈s/\o∈s then 1/ (s.length:Rat) else 0
theorem zua{S:List (List α)}{hs:List α}(ns:∀s∈S,s.Nodup)(nh:hs.Nodup)(sub:∀s∈S,∀x∈s,x∈hs)(x:α ->Rat){h:α}(hh:h∈hs):ao hs (fun o=>bO S h o*x o)=iV S x h:=by
 have e1:ao hs (fun o=>bO S h o*x o)=ao hs (fun o=>if o∈ [h] then dN S h*x o else 0) - ao hs fun o=>ao S fun s=>if h∈s/\o∈s then x o/ (s.length:Rat) else 0:=by
  rw[<- u6];refine fG fun o _=> ?_;unfold bO;have e2:(ao S fun s=>if h∈s/\o∈s then x o/ (s.length:Rat) else 0)=x o*ao S fun s=>if h∈s/\o∈s then 1/ (s.length:Rat) else 0:=by
   rw[<- uh];exact fG fun s _=>by split<;>first | (simp only [Rat.div_def];grind) | grind
  rw[e2];by_cases q:h=o
  ·subst q;rw[if_pos rfl,if_pos (List.mem_singleton.mpr rfl)];grind
  ·rw[if_neg q,if_neg fun z=>q (List.mem_singleton.mp z).symm];grind
 rw[e1,Ci (by simp) nh fun y hy=>by rw[List.mem_singleton.mp hy];exact hh,Hg]
 have e3:ao [h] (fun o=>dN S h*x o)=ao S fun s=>if h∈s then x h else 0:=by
  show dN S h*x h+0=_;unfold dN;have:(ao S fun s=>if h∈s then x h else 0)=x h*ao S fun s=>if h∈s then 1 else 0:=by
   rw[<- uh];exact fG fun s _=>by split<;>grind
  rw[this];grind
 rw[e3,<- u6];refine fG fun s hS=> ?_;by_cases q:h∈s
 ·rw[if_pos q,if_pos q]
  congr 1
  have e4:ao hs (fun o=>if h∈s/\o∈s then x o/ (s.length:Rat) else 0)=ao hs fun o=>if o∈s then x o/ (s.length:Rat) else 0:=fG fun o _=>by simp [q]
  rw[e4,Ci (ns s hS) nh (sub s hS)];unfold aX;have e5:ao s (fun o=>x o/ (s.length:Rat))=(s.length:Rat)⁻¹*ao s x:=by
   rw[<- uh];exact fG fun o _=>by rw[Rat.div_def];grind
  rw[e5,Rat.div_def];grind
 ·rw[if_neg q,if_neg q,wZ fun o _=>by simp [q]];grind
variable{σ:Type}
def fH(k:σ ->List α)(y:σ ->α ->Rat)(S:List σ)(h:α):Rat:=ao S fun s=>if h∈k s then y s h - aX (k s) (y s) else 0
theorem zyz{k:σ ->List α}{S:List σ}{hs:List α}(ns:∀s∈S,(k s).Nodup)(nh:hs.Nodup)(sub:∀s∈S,∀x∈k s,x∈hs)(y:σ ->α ->Rat):ao hs (fH k y S)=0:=by
 show ao hs (fun h=>ao S fun s=>if h∈k s then y s h - aX (k s) (y s) else 0)=0;rw[Hg];refine wZ fun s hS=> ?_;rw[Ci (f:=fun h=>y s h - aX (k s) (y s)) (ns s hS) nh (sub s hS)];exact TY _ _
theorem zv0(s:List α)(x y:α ->Rat):aX s (fun o=>x o - y o)=aX s x - aX s y:=by
 unfold aX;rw[u6,Rat.div_def,Rat.div_def,Rat.div_def];grind
theorem zxy{k:σ ->List α}(y:σ ->α ->Rat)(x:α ->Rat)(S:List σ)(h:α):fH k (fun s o=>y s o - x o) S h=fH k y S h - iV (S.map k) x h:=by
 unfold fH iV;rw[vd,<- u6];exact fG fun s _=>by
  rw[zv0];split<;>grind
theorem zxp{k:σ ->List α}{S:List σ}{h0:α}{hs:List α}(ns:∀s∈S,(k s).Nodup)(nh:(h0::hs).Nodup)(sub:∀s∈S,∀x∈k s,x∈h0::hs)(y:σ ->α ->Rat)(x:α ->Rat)
  (e:∀h∈hs,iV (S.map k) x h=fH k y S h):∀h∈h0::hs,fH k (fun s o=>y s o - x o) S h=0:=by
 have e' :∀h∈hs,fH k (fun s o=>y s o - x o) S h=0:=fun h hh=>by rw[zxy,e h hh];grind
 have q:=zyz ns nh sub fun s o=>y s o - x o;have q' :fH k (fun s o=>y s o - x o) S h0+ao hs (fH k (fun s o=>y s o - x o) S)=0:=q;rw[wZ e'] at q';intro h hh;rcases zV.mp hh with r | r
 ·rw[r];grind
 ·exact e' h r
theorem zn4{β:Type}[Inhabited β](f:β ->Rat):∀(l:List β),bF l.length (fun j=>f (l.getD j default))=ao l f:=by
 intro l;have key:∀(m:List β) n,n<=m.length ->bF n (fun j=>f (m.getD j default))=ao (m.take n) f:=by
  intro m n;induction n with
  | zero=>intro _;rfl
  | succ n ih=>
   intro h;have e:m.take (n+1)=m.take n++ [m[n]]:=by rw[List.take_succ,List.getElem?_eq_getElem h];rfl
   show bF n (fun j=>f (m.getD j default))+f (m.getD n default)=_;rw[ih (by omega),e,ziw]
   have:m.getD n default=m[n]:=by rw[List.getD_eq_getElem?_getD,List.getElem?_eq_getElem h];rfl
   rw[this];show _+f m[n]=_+ (f m[n]+0)
   grind
 have:=key l l.length (zO _)
 rwa [List.take_length] at this
end
def ZB(B:Nat)(x:Rat):Prop:=∃z:Int,x=(z:Rat)/\z.natAbs<=B
theorem ZB.sub{A B:Nat}{x y:Rat}(h1:ZB A x)(h2:ZB B y):ZB (A+B) (x - y):=by
 obtain⟨a,rfl,ha⟩:=h1;obtain⟨b,rfl,hb⟩:=h2;exact⟨a - b,by simp [Rat.intCast_sub],by omega⟩
theorem ZB.mul{A B:Nat}{x y:Rat}(h1:ZB A x)(h2:ZB B y):ZB (A*B) (x*y):=by
 obtain⟨a,rfl,ha⟩:=h1;obtain⟨b,rfl,hb⟩:=h2;exact⟨a*b,by simp [Rat.intCast_mul],by rw[Int.natAbs_mul];exact Nat.mul_le_mul ha hb⟩
theorem ZB.mono{A B:Nat}{x:Rat}(h:ZB A x)(l:A<=B):ZB B x:=by
 obtain⟨a,rfl,ha⟩:=h;exact⟨a,rfl,zP ha l⟩
theorem ZB.zero(B:Nat):ZB B 0:=⟨0,rfl,Nat.zero_le _⟩
theorem zzw{B:Nat}{g:Nat ->List Nat ->Rat}:∀{cs:List Nat},(∀c ds,ds.length+1=cs.length ->ZB B (g c ds)) ->ZB (cs.length*B) (aV g cs)
 | [],_=>by unfold aV;exact ZB.zero _
 | c::cs,h=>by
  have h1:=(h c cs rfl).sub (zzw (cs:=cs) (g:=fun d ds=>g d (c::ds)) fun d ds e=>h d (c::ds) (by simp;omega))
  refine ZB.mono h1 ?_;rw[List.length_cons,Nat.add_mul];omega
theorem KN{M N:Nat}:∀{rs:List Row} {cs:List Nat},(∀r∈rs,∀j,ZB M (r j)) ->cs.length<=N ->ZB ((N*M)^rs.length) (dt rs cs)
 | [],[],_,_=>⟨1,by unfold dt;rfl,by simp⟩
 | [],_::_,_,_=>by unfold dt;exact ZB.zero _
 | r::rs,cs,h,l=>by
  have h1:ZB (cs.length* (M* (N*M)^rs.length)) (aV (fun c ds=>r c*dt rs ds) cs):=zzw fun c ds e=>(h r zY c).mul (KN (fun s hs=>h s (zX _ hs)) (by omega))
  refine ZB.mono h1 ?_;rw[List.length_cons,Nat.pow_succ,Nat.mul_comm ((N*M)^rs.length),Nat.mul_assoc];exact Nat.mul_le_mul_right _ l
theorem zfw{g:Nat ->List Nat ->Rat}:∀{cs:List Nat},(∀c ds,ds.length+1=cs.length ->g c ds=0) ->aV g cs=0
 | [],_=>rfl
 | c::cs,h=>by
  unfold aV;rw[h c cs rfl,zfw (cs:=cs) fun d ds e=>h d (c::ds) (by simp;omega)]
  grind
theorem zzr:∀{rs:List Row} {cs:List Nat},rs.length≠cs.length ->dt rs cs=0
 | [],[],h=>absurd rfl h
 | [],_::_,_=>rfl
 | r::rs,cs,h=>zfw fun c ds e=>by
   show r c*dt rs ds=0;rw[zzr (by simp at h;omega)];grind
theorem Hi:∀p,(cols p).length=p
 | 0=>rfl
 | p+1=>by unfold cols;rw[List.length_cons,Hi p]
theorem BT.len{n p:Nat}{A:Nat ->Nat ->Int}{d:Int}{tb:Nat ->Nat ->Int}{rs:List Row}{fs:Nat ->Row}{ix:Nat ->Nat}(h:BT n A p d tb rs fs ix):rs.length=p:=by
 have z:=h.dz;rcases Nat.decEq rs.length (cols p).length with q | q
 ·exact absurd (zzr q) z
 ·rw[q,Hi]
theorem z4h{rs:List Row}{cs:List Nat}{a f g:Row}(hf:∀j,f j=a j+g j)(hg:fD rs g)(z:∀c∈cs,f c=0)(j:Nat):dt rs cs*f j=dt (a::rs) (j::cs):=by
 obtain⟨ks,_,e⟩:=hg;have h1:dt (f::rs) (j::cs)=f j*dt rs cs:=KD z;have h2:dt (f::rs) (j::cs)=dt (a::rs) (j::cs):=by
  have:=G7 (rs:=rs) (cs:=j::cs) (ks:=ks) (ss:=rs) (r:=a) fun s hs=>hs;rw[<- this]
  congr 2
  funext i
  rw[hf,e]
 rw[Rat.mul_comm,<- h1,h2]
theorem z6k{rs:List Row}{pre post:List Nat}{c:Nat}{f:Row}(h:fD rs f)(one:f c=1)(z:∀x∈pre++post,f x=0)(d:dt rs (pre++c::post)≠0)(j:Nat):dt rs (pre++c::post)*f j=dt rs (pre++j::post):=by
 have hl:=TJ rs _ pre post rfl;have key:=TV (cs:=pre++c::post) (hl.add ((h.mul (dt rs (pre++c::post))).mul (-1))) (fun x hx=> ?_) d j
 ·grind
 ·by_cases hc:x=c
  ·subst hc;rw[one];grind
  ·have hx' :x∈pre++post:=by
    rcases zU.mp hx with q | q
    ·exact zQ _ q
    ·rcases zV.mp q with q | q
     ·exact absurd q hc
     ·exact zR _ q
   rw[z x hx'];have:dt rs (pre++x::post)=0:=by
    rcases zU.mp hx' with q | q
    ·obtain⟨p1,p2,rfl⟩:=List.append_of_mem q;have:=G9 rs (pre:=p1) (post:=p2++x::post) (c:=x) (by simp)
     rw[List.append_assoc];exact this
    ·exact G9 rs q
   rw[this];grind
theorem T3{z w:Int}{B:Nat}(e:(z:Rat)=(w:Rat))(h:w.natAbs<=B):z.natAbs<=B:=by
 rw[Ac e];exact h
theorem BT.small{n p M N:Nat}{A:Nat ->Nat ->Int}{d:Int}{tb:Nat ->Nat ->Int}{rs:List Row}{fs:Nat ->Row}{ix:Nat ->Nat}(h:BT n A p d tb rs fs ix)(hA:∀k,k<n ->∀j,(A k j).natAbs<=M)(hp:p+1<=N)(h1:1<=N*M){i:Nat}(hi:i<n)(j:Nat):(tb i j).natAbs<=(N*M)^ (p+1):=by
 have wr:∀r∈rs,∀j,ZB M (r j):=fun r hr j=>by
  obtain⟨k,hk,rfl⟩:=h.w r hr;exact⟨A k j,rfl,hA k hk j⟩
 have hl:=h.len;have pw:(N*M)^p<=(N*M)^ (p+1):=Nat.pow_le_pow_right h1 (by omega)
 have ht:=h.t i hi j;rw[h.de] at ht;by_cases q:i<p
 ·have u:=h.up i q;obtain⟨pre,post,e⟩:=List.append_of_mem (eF.mpr q);have nd:=TX p;have dz:=h.dz;have ll:=Hi p;rw[e] at nd dz ht ll;have key:=z6k (rs:=rs) (pre:=pre) (post:=post) (c:=i) (f:=fs i) u.l u.o (fun x hx=> ?_) dz j
  ·rw[key] at ht;obtain⟨z,ez,hz⟩:=KN (cs:=pre++j::post) wr (N:=N) (by simp at ll⊢;omega)
   rw[hl] at hz;rw[ez] at ht;exact zP (T3 ht hz) pw
  ·refine u.z x ?_ fun z=> ?_
   ·rw[e];rcases zU.mp hx with q | q
    ·exact zQ _ q
    ·exact zR _ (zX _ q)
   ·subst z;rw[List.nodup_append] at nd;rcases zU.mp hx with q | q
    ·exact nd.2.2 x q x zY rfl
    ·exact(List.nodup_cons.mp nd.2.1).1 q
 ·obtain⟨hx,lo⟩:=h.lo i (by omega) hi
  obtain⟨g,lg,hf⟩:=lo.g;rw[z4h hf lg lo.z j] at ht;obtain⟨z,ez,hz⟩:=KN (rs:=dw A (ix i)::rs) (cs:=j::cols p) (M:=M) (N:=N) (fun r hr=>by
   rcases zV.mp hr with q | q
   ·subst q;exact fun j=>⟨A (ix i) j,rfl,hA _ hx j⟩
   ·exact wr r q) (by rw[List.length_cons,Hi];omega)
  rw[List.length_cons,hl] at hz;rw[ez] at ht;exact T3 ht hz
theorem BT.lead{n p M N:Nat}{A:Nat ->Nat ->Int}{d:Int}{tb:Nat ->Nat ->Int}{rs:List Row}{fs:Nat ->Row}{ix:Nat ->Nat}(h:BT n A p d tb rs fs ix)(hA:∀k,k<n ->∀j,(A k j).natAbs<=M)(hp:p<=N):d.natAbs<=(N*M)^p:=by
 have wr:∀r∈rs,∀j,ZB M (r j):=fun r hr j=>by
  obtain⟨k,hk,rfl⟩:=h.w r hr;exact⟨A k j,rfl,hA k hk j⟩
 obtain⟨z,ez,hz⟩:=KN (cs:=cols p) wr (N:=N) (by rw[Hi];exact hp)
 rw[h.len] at hz;exact T3 (h.de.trans ez) hz
section
variable{α β:Type}[DecidableEq α][DecidableEq β]
def cF(rows:List (α×β×Int))(w:α):List (α×β×Int):=rows.filter fun r=>decide (r.1=w)
def pD(rows:List (α×β×Int))(h:β):List (α×β×Int):=rows.filter fun r=>decide (r.2.1=h)
def ofM(rows:List (α×β×Int))(m:List β):List (α×β×Int):=rows.filter fun r=>decide (r.2.1∈m)
def Uq(rows:List (α×β×Int)):Prop:=rows.Pairwise fun a b=>¬(a.1=b.1/\a.2.1=b.2.1)
def kW(rows:List (α×β×Int))(w:α):List β:=(cF rows w).map fun r=>r.2.1
def yW(rows:List (α×β×Int))(w:α)(h:β):Rat:=match rows.find? (fun r=>decide (r.1=w/\r.2.1=h)) with | some r=>(r.2.2:Rat) | none=>0
theorem aY{rows:List (α×β×Int)}{w:α}{r:α×β×Int}:r∈cF rows w↔r∈rows/\r.1=w:=by
 unfold cF;rw[List.mem_filter,decide_eq_true_iff]
theorem dF{rows:List (α×β×Int)}{h:β}{r:α×β×Int}:r∈pD rows h↔r∈rows/\r.2.1=h:=by
 unfold pD;rw[List.mem_filter,decide_eq_true_iff]
theorem dG{rows:List (α×β×Int)}{m:List β}{r:α×β×Int}:r∈ofM rows m↔r∈rows/\r.2.1∈m:=by
 unfold ofM;rw[List.mem_filter,decide_eq_true_iff]
theorem Uq.M{rows:List (α×β×Int)}(u:Uq rows)(m:List β):Uq (ofM rows m):=u.filter _
theorem KQ{γ δ:Type}{f:γ ->δ}{R:γ ->γ ->Prop}:∀{l:List γ},l.Pairwise R ->(∀a∈l,∀b∈l,R a b ->f a≠f b) ->(l.map f).Nodup
 | [],_,_=>List.nodup_nil
 | a::l,h,k=>by
  rw[List.pairwise_cons] at h;rw[List.map_cons,List.nodup_cons];refine⟨fun z=> ?_,KQ h.2 fun a ha b hb=>k a (zX _ ha) b (zX _ hb)⟩;obtain⟨b,hb,e⟩:=zG.mp z;exact k a zY b (zX _ hb) (h.1 b hb) e.symm
theorem T4{rows:List (α×β×Int)}(u:Uq rows)(w:α):(kW rows w).Nodup:=by
 refine KQ (u.filter _) fun a ha b hb n e=>n ⟨?_,e⟩;rw[(aY.mp ha).2,(aY.mp hb).2]
theorem zxf{rows:List (α×β×Int)}(u:Uq rows)(h:β):((pD rows h).map fun r=>r.1).Nodup:=by
 refine KQ (u.filter _) fun a ha b hb n e=>n ⟨e,?_⟩;rw[(dF.mp ha).2,(dF.mp hb).2]
theorem fJ{rows:List (α×β×Int)}{w:α}{h:β}:h∈kW rows w↔∃r∈rows,r.1=w/\r.2.1=h:=by
 unfold kW;rw[List.mem_map];exact⟨fun⟨r,h1,h2⟩=>⟨r,(aY.mp h1).1,(aY.mp h1).2,h2⟩,fun⟨r,h1,h2,h3⟩=>⟨r,aY.mpr ⟨h1,h2⟩,h3⟩⟩
theorem T5:∀{rows:List (α×β×Int)},Uq rows ->∀{a b:α×β×Int},a∈rows ->b∈rows ->a.1=b.1 ->a.2.1=b.2.1 ->a=b
 | r::rows,u,a,b,ha,hb,e1,e2=>by
  unfold Uq at u;rw[List.pairwise_cons] at u;rcases zV.mp ha with q | q
  ·rcases zV.mp hb with q' | q'
   ·rw[q,q']
   ·subst q;exact absurd ⟨e1,e2⟩ (u.1 b q')
  ·rcases zV.mp hb with q' | q'
   ·subst q';exact absurd ⟨e1.symm,e2.symm⟩ (u.1 a q)
   ·exact T5 u.2 q q' e1 e2
theorem KR{rows:List (α×β×Int)}(u:Uq rows){r:α×β×Int}(hr:r∈rows):yW rows r.1 r.2.1=(r.2.2:Rat):=by
 unfold yW;cases e:rows.find? (fun s=>decide (s.1=r.1/\s.2.1=r.2.1)) with
 | none=>
  have:=List.find?_eq_none.mp e r hr;simp at this
 | some s=>
  have h1:=List.mem_of_find?_eq_some e;have h2:s.1=r.1/\s.2.1=r.2.1:=by
   have:=List.find?_some e
   simpa using this
  rw[T5 u h1 hr h2.1 h2.2]
theorem z0j{rows:List (α×β×Int)}{w:α}(f:β ->Rat):ao (kW rows w) f=ao (cF rows w) fun r=>f r.2.1:=vd
theorem Cj(rows:List (α×β×Int))(w:α):(kW rows w).length=(cF rows w).length:=by unfold kW;rw[List.length_map]
theorem z0g{rows:List (α×β×Int)}{ws:List α}(u:Uq rows)(nw:ws.Nodup)(cw:∀r∈rows,r.1∈ws)(h:β)(F:α ->Rat):ao ws (fun w=>if h∈kW rows w then F w else 0)=ao (pD rows h) fun r=>F r.1:=by
 have e:ao ws (fun w=>if h∈kW rows w then F w else 0)=ao ws fun w=>if w∈ (pD rows h).map (fun r=>r.1) then F w else 0:=by
  refine fG fun w _=> ?_;have:h∈kW rows w↔w∈ (pD rows h).map (fun r=>r.1):=by
   rw[fJ,List.mem_map];exact⟨fun⟨r,h1,h2,h3⟩=>⟨r,dF.mpr ⟨h1,h3⟩,h2⟩,fun⟨r,h1,h2⟩=>⟨r,(dF.mp h1).1,h2,(dF.mp h1).2⟩⟩
  by_cases q:h∈kW rows w
  ·rw[if_pos q,if_pos (this.mp q)]
  ·rw[if_neg q,if_neg fun z=>q (this.mpr z)]
 rw[e,Ci (zxf u h) nw fun w hw=>by
  obtain⟨r,h1,h2⟩:=zG.mp hw;rw[<- h2];exact cw r (dF.mp h1).1,vd]
def mL(rows:List (α×β×Int))(x:β ->Rat)(h:β):Prop:=
 ao (pD rows h) (fun r=>((r.2.2:Rat) - x r.2.1) - ao (cF rows r.1) (fun s=>(s.2.2:Rat) - x s.2.1)/ ((cF rows r.1).length:Rat))=0
def Ae(rows:List (α×β×Int))(x:β ->Rat)(m:List β):Prop:=ao (ofM rows m) (fun r=>x r.2.1)=0
theorem Hj{rows:List (α×β×Int)}(u:Uq rows)(x:β ->Rat)(w:α):aX (kW rows w) (fun o=>yW rows w o - x o)=ao (cF rows w) (fun s=>(s.2.2:Rat) - x s.2.1)/ ((cF rows w).length:Rat):=by
 unfold aX;rw[Cj,z0j]
 congr 1
 refine fG fun r hr=> ?_;have:=KR u (aY.mp hr).1;rw[(aY.mp hr).2] at this;rw[this]
theorem zy5{rows:List (α×β×Int)}{ws:List α}(u:Uq rows)(nw:ws.Nodup)(cw:∀r∈rows,r.1∈ws)(x:β ->Rat)(h:β)(e:fH (kW rows) (fun w o=>yW rows w o - x o) ws h=0):mL rows x h:=by
 unfold fH at e;rw[z0g u nw cw h] at e;unfold mL;rw[<- e];refine fG fun r hr=> ?_;have hr' :=dF.mp hr;have y:=KR u hr'.1;rw[hr'.2] at y;rw[Hj u,hr'.2];show _=yW rows r.1 h - x h - _;rw[y]
theorem zxz{rows:List (α×β×Int)}{ws:List α}(u:Uq rows)(nw:ws.Nodup)(cw:∀r∈rows,r.1∈ws)(h:β):dN (ws.map (kW rows)) h=((pD rows h).length:Rat):=by
 unfold dN;rw[vd,z0g u nw cw h,w6];grind
theorem zwd{rows:List (α×β×Int)}{m:List β}(nm:m.Nodup)(sub:∀r∈rows,r.2.1∈m)(f:β ->Rat):ao m (fun h=>((pD rows h).length:Rat)*f h)=ao rows fun r=>f r.2.1:=by
 have e:ao m (fun h=>((pD rows h).length:Rat)*f h)=ao m fun h=>ao rows fun r=>if r.2.1=h then f r.2.1 else 0:=by
  refine fG fun h _=> ?_;rw[<- w6 (l:=pD rows h)];unfold pD;rw[u9];refine fG fun r _=> ?_;by_cases q:r.2.1=h
  ·rw[if_pos (decide_eq_true q),if_pos q,q]
  ·rw[if_neg (by simp [q]),if_neg q]
 rw[e,Hg];refine fG fun r hr=> ?_;have e2:ao m (fun h=>if r.2.1=h then f r.2.1 else 0)=ao m fun h=>if h∈ [r.2.1] then f r.2.1 else 0:=fG fun h _=>by
  by_cases q:r.2.1=h
  ·rw[if_pos q,if_pos (List.mem_singleton.mpr q.symm)]
  ·rw[if_neg q,if_neg fun z=>q (List.mem_singleton.mp z).symm]
 rw[e2,Ci (f:=fun _=>f r.2.1) (by simp) nm fun y hy=>by rw[List.mem_singleton.mp hy];exact sub r hr]
 show f r.2.1+0=_
 grind
structure lu (rows:List (α×β×Int)) (ws:List α) (m:List β):Prop where
 u:Uq rows
 nw:ws.Nodup
 cw:∀r∈rows,r.1∈ws
 nm:m.Nodup
 sub:∀r∈rows,r.2.1∈m
 on:∀h∈m,∃r∈rows,r.2.1=h
 min:∀C:β ->Prop,(∀w∈ws,(∃x∈kW rows w,C x) ->∀x∈kW rows w,C x) ->(∃x∈m,C x) ->∀x∈m,C x
theorem lu.sub'{rows:List (α×β×Int)}{ws:List α}{m:List β}(L:lu rows ws m):∀s∈ws.map (kW rows),∀x∈s,x∈m:=fun s hs x hx=>by
 obtain⟨w,_,rfl⟩:=zG.mp hs;obtain⟨r,h1,_,h3⟩:=fJ.mp hx;rw[<- h3];exact L.sub r h1
theorem lu.ns{rows:List (α×β×Int)}{ws:List α}{m:List β}(L:lu rows ws m):∀s∈ws.map (kW rows),s.Nodup:=fun s hs=>by
 obtain⟨w,_,rfl⟩:=zG.mp hs;exact T4 L.u w
def fY [Inhabited β](rows:List (α×β×Int))(ws:List α)(m:List β)(i j:Nat):Rat:=
 if j<m.length then(if i=0 then dN (ws.map (kW rows)) (m.getD j default) else bO (ws.map (kW rows)) (m.getD i default) (m.getD j default))
 else if i=0 then 0 else fH (kW rows) (yW rows) ws (m.getD i default)
theorem zu7{γ:Type}[Inhabited γ]{m:List γ}{i:Nat}(h:i<m.length):m.getD i default∈m:=by
 rw[List.getD_eq_getElem?_getD,List.getElem?_eq_getElem h];exact zA h
theorem zq0 [Inhabited β]{rows:List (α×β×Int)}{ws:List α}{m:List β}(x:β ->Rat):bF m.length (fun j=>fY rows ws m 0 j*x (m.getD j default))=ao m fun h=>dN (ws.map (kW rows)) h*x h:=by
 rw[<- zn4];refine wY fun j hj=> ?_;unfold fY;rw[if_pos hj,if_pos rfl]
theorem zvu [Inhabited β]{rows:List (α×β×Int)}{ws:List α}{m:List β}(L:lu rows ws m)(x:β ->Rat){i:Nat}(hi:i<m.length)(h0:i≠0):bF m.length (fun j=>fY rows ws m i j*x (m.getD j default))=iV (ws.map (kW rows)) x (m.getD i default):=by
 rw[<- zua L.ns L.nm L.sub' x (zu7 hi),<- zn4];refine wY fun j hj=> ?_;unfold fY;rw[if_pos hj,if_neg h0]
theorem zqg [Inhabited β]{m:List β}{h0:β}{hs:List β}(e:m=h0::hs){h:β}(hh:h∈hs):∃i,i<m.length/\i≠0/\m.getD i default=h:=by
 obtain⟨i,hi,q⟩:=List.getElem_of_mem hh;subst e;refine⟨i+1,by simp;omega,by omega,?_⟩
 rw[List.getD_eq_getElem?_getD,List.getElem?_cons_succ,List.getElem?_eq_getElem hi,q];rfl
theorem lu.null [Inhabited β]{rows:List (α×β×Int)}{ws:List α}{m:List β}(L:lu rows ws m)(x:β ->Rat)(z:∀i,i<m.length ->bF m.length (fun j=>fY rows ws m i j*x (m.getD j default))=0):∀h∈m,x h=0:=by
 cases em:m with
 | nil=>intro h hh;cases hh
 | cons h0 hs=>
  have nm:=L.nm;have sub:=L.sub';have on:=L.on;have mn:=L.min;rw[em] at nm sub on mn;refine zuo L.ns nm sub (fun h hh=> ?_) (fun C hC=>mn C fun w hw=>hC _ (zG.mpr ⟨w,hw,rfl⟩)) (fun h hh=> ?_) ?_
  ·obtain⟨r,h1,h2⟩:=on h hh;exact⟨kW rows r.1,zG.mpr ⟨r.1,L.cw r h1,rfl⟩,fJ.mpr ⟨r,h1,rfl,h2⟩⟩
  ·obtain⟨i,hi,i0,e⟩:=zqg em hh;rw[<- e,<- zvu L x hi i0];exact z i hi
  ·rw[<- em,<- zq0];exact z 0 (by rw[em];simp)
theorem lu.ans [Inhabited β]{rows:List (α×β×Int)}{ws:List α}{m:List β}(L:lu rows ws m)(x:β ->Rat)(z:∀i,i<m.length ->fY rows ws m i m.length=bF m.length (fun j=>fY rows ws m i j*x (m.getD j default))):(∀h∈m,mL rows x h)/\ao rows (fun r=>x r.2.1)=0:=by
 have e0:m≠ [] ->ao rows (fun r=>x r.2.1)=0:=fun ne=>by
  have q:=z 0 (List.length_pos_iff.mpr ne);rw[zq0] at q;unfold fY at q;rw[if_neg (Nat.lt_irrefl _),if_pos rfl] at q;rw[<- zwd L.nm L.sub,q];exact fG fun h _=>by rw[zxz L.u L.nw L.cw]
 cases em:m with
 | nil=>
  refine⟨fun h hh=>(by cases hh),?_⟩
  cases er:rows with
  | nil=>rfl
  | cons r rs=>
   have:=L.sub r (by rw[er];exact zY)
   rw[em] at this;cases this
 | cons h0 hs=>
  refine⟨fun h hh=>zy5 L.u L.nw L.cw x h (zxp (S:=ws) (k:=kW rows) (h0:=h0) (hs:=hs) (fun w _=>T4 L.u w) (em ▸ L.nm) (fun w hw y hy=>by rw[<- em];exact L.sub' _ (zG.mpr ⟨w,hw,rfl⟩) y hy) (yW rows) x (fun g hg=> ?_) h hh),e0 (by rw[em];simp)⟩
  obtain⟨i,hi,i0,e⟩:=zqg em hg;have q:=z i hi;rw[zvu L x hi i0] at q;unfold fY at q;rw[if_neg (Nat.lt_irrefl _),if_neg i0,e] at q;exact q.symm
end
section
variable{α γ:Type}[DecidableEq γ]
theorem zrz{f:α ->Rat}{p:α ->Bool}:∀{l:List α},ao l f=ao (l.filter p) f+ao (l.filter fun a=> !p a) f:=by
 intro l;rw[u9,u9,<- Ce];refine fG fun a _=> ?_;cases p a
 ·simp [Rat.zero_add]
 ·simp [Rat.add_zero]
theorem zug(key:α ->γ)(g:α ->Rat)(φ:γ ->Rat):∀(n:Nat) (l:List α),l.length<=n ->(∀c,ao (l.filter fun a=>decide (key a=c)) g=0) ->ao l (fun a=>φ (key a)*g a)=0:=by
 intro n;induction n with
 | zero=>
  intro l hl _;obtain rfl:l= []:=List.eq_nil_of_length_eq_zero (by omega)
  rfl
 | succ n ih=>
  intro l hl h;cases l with
  | nil=>rfl
  | cons a r=>
   rw[zrz (p:=fun b=>decide (key b=key a))];have e1:ao ((a::r).filter fun b=>decide (key b=key a)) (fun b=>φ (key b)*g b)=0:=by
    have:ao ((a::r).filter fun b=>decide (key b=key a)) (fun b=>φ (key b)*g b)=ao ((a::r).filter fun b=>decide (key b=key a)) (fun b=>φ (key a)*g b):=
     fG fun b hb=>by rw[of_decide_eq_true (List.mem_filter.mp hb).2]
    rw[this,uh,h,Rat.mul_zero]
   rw[e1,ih]
   ·decide+kernel
   ·have:((a::r).filter fun b=> !decide (key b=key a)).length<=r.length:=by
     rw[List.filter_cons_of_neg (by simp)]
     exact List.length_filter_le _ _
    simp only [List.length_cons] at hl;omega
   ·intro c;rw[List.filter_filter];by_cases e:c=key a
    ·subst e;rw[show(a::r).filter (fun b=>decide (key b=key a)&& !decide (key b=key a))= [] from List.filter_eq_nil_iff.mpr fun b _=>by simp]
     rfl
    ·rw[show(a::r).filter (fun b=>decide (key b=c)&& !decide (key b=key a))=(a::r).filter (fun b=>decide (key b=c)) from List.filter_congr fun b _=>by
      by_cases q:key b=c
      ·simp [q,e]
      ·simp [q]]
     exact h c
theorem z10{l:List α}{f d:α ->Rat}(o:ao l (fun a=>d a*f a)=0):ao l (fun a=>(f a+d a)* (f a+d a))=ao l (fun a=>f a*f a)+ao l fun a=>d a*d a:=by
 have:ao l (fun a=>(f a+d a)* (f a+d a))=ao l (fun a=>f a*f a+d a*d a+2* (d a*f a)):=fG fun a _=>by grind
 rw[this,Ce,Ce,uh,o,Rat.mul_zero,Rat.add_zero]
end
section
variable{α β:Type}[DecidableEq α][DecidableEq β]
def bW(rows:List (α×β×Int))(x:β ->Rat)(r:α×β×Int):Rat:=((r.2.2:Rat) - x r.2.1) - ao (cF rows r.1) (fun s=>(s.2.2:Rat) - x s.2.1)/ ((cF rows r.1).length:Rat)
theorem zt0(rows:List (α×β×Int))(x:β ->Rat)(w:α):ao (cF rows w) (bW rows x)=0:=by
 have e:ao (cF rows w) (bW rows x)=ao (cF rows w) (fun s=>(s.2.2:Rat) - x s.2.1) - ao (cF rows w) fun _=>ao (cF rows w) (fun s=>(s.2.2:Rat) - x s.2.1)/ ((cF rows w).length:Rat):=by
  rw[<- u6];refine fG fun r hr=> ?_;unfold bW;rw[(aY.mp hr).2]
 rw[e,w6];by_cases z:cF rows w= []
 ·rw[z];show(0:Rat) - ((0:Nat):Rat)* (0/ ((0:Nat):Rat))=0
  decide+kernel
 ·have n0:((cF rows w).length:Rat)≠0:=fun q=>z (List.eq_nil_of_length_eq_zero (by exact_mod_cast q))
  rw[Rat.div_def,Rat.mul_comm (((cF rows w).length:Rat)),Rat.mul_assoc,Rat.inv_mul_cancel _ n0,Rat.mul_one,Rat.sub_self]
theorem zo3{rows:List (α×β×Int)}{x:β ->Rat}(ev:∀r∈rows,mL rows x r.2.1)(p:α ->Rat)(q:β ->Rat):ao rows (fun r=>(p r.1+q r.2.1)*bW rows x r)=0:=by
 have e:ao rows (fun r=>(p r.1+q r.2.1)*bW rows x r)=ao rows (fun r=>p r.1*bW rows x r)+ao rows fun r=>q r.2.1*bW rows x r:=by
  rw[<- Ce];exact fG fun r _=>by grind
 rw[e,zug (fun r:α×β×Int=>r.1) (bW rows x) p rows.length rows (Nat.le_refl _) (fun w=>zt0 rows x w),
  zug (fun r:α×β×Int=>r.2.1) (bW rows x) q rows.length rows (zO _) fun h=> ?_]
 ·decide+kernel
 ·by_cases z:∃r∈rows,r.2.1=h
  ·obtain⟨r,hr,rfl⟩:=z;exact ev r hr
  ·rw[show rows.filter (fun r=>decide (r.2.1=h))= [] from List.filter_eq_nil_iff.mpr fun r hr=>by
    simp only [decide_eq_true_eq];exact fun e=>z ⟨r,hr,e⟩]
   rfl
theorem zn2{rows:List (α×β×Int)}{x:β ->Rat}(ev:∀r∈rows,mL rows x r.2.1)(p:α ->Rat)(q:β ->Rat){g:α×β×Int ->Rat}(hg:∀r∈rows,g r=bW rows x r+ (p r.1+q r.2.1)):
  ao rows (fun r=>bW rows x r*bW rows x r)<=ao rows (fun r=>g r*g r)/\ (ao rows (fun r=>bW rows x r*bW rows x r)=ao rows (fun r=>g r*g r) ->∀r∈rows,g r=bW rows x r):=by
 have e:ao rows (fun r=>g r*g r)=ao rows (fun r=>bW rows x r*bW rows x r)+ao rows fun r=>(p r.1+q r.2.1)* (p r.1+q r.2.1):=by
  rw[<- z10 (zo3 ev p q)];exact fG fun r hr=>by rw[hg r hr]
 have n:0<=ao rows fun r=>(p r.1+q r.2.1)* (p r.1+q r.2.1):=Hh fun r _=>KJ _;refine⟨by grind,fun z r hr=> ?_⟩
 have z2:ao rows (fun r=>(p r.1+q r.2.1)* (p r.1+q r.2.1))=0:=by grind
 have:=zus (Cg (fun r _=>KJ _) z2 r hr);rw[hg r hr,this,Rat.add_zero]
end
section
variable{α β:Type}[DecidableEq α][DecidableEq β]
theorem zmq{rows:List (α×β×Int)}{x x' :β ->Rat}(ev:∀r∈rows,mL rows x r.2.1)(ev' :∀r∈rows,mL rows x' r.2.1):∀r∈rows,bW rows x' r=bW rows x r:=by
 have h1:=zn2 ev (fun w=>ao (cF rows w) (fun s=>(s.2.2:Rat) - x s.2.1)/ ((cF rows w).length:Rat) - ao (cF rows w) (fun s=>(s.2.2:Rat) - x' s.2.1)/ ((cF rows w).length:Rat)) (fun h=>x h - x' h) (g:=bW rows x') fun r _=>by
  unfold bW;grind
 have h2:=zn2 ev' (fun w=>ao (cF rows w) (fun s=>(s.2.2:Rat) - x' s.2.1)/ ((cF rows w).length:Rat) - ao (cF rows w) (fun s=>(s.2.2:Rat) - x s.2.1)/ ((cF rows w).length:Rat)) (fun h=>x' h - x h) (g:=bW rows x) fun r _=>by
  unfold bW;grind
 exact h1.2 (Rat.le_antisymm h1.1 h2.1)
theorem zwv{rows:List (α×β×Int)}{x x' :β ->Rat}(ev:∀r∈rows,mL rows x r.2.1)(ev' :∀r∈rows,mL rows x' r.2.1){r s:α×β×Int}(hr:r∈rows)(hs:s∈rows)(e:r.1=s.1):x r.2.1 - x' r.2.1=x s.2.1 - x' s.2.1:=by
 have h1:=zmq ev ev' r hr;have h2:=zmq ev ev' s hs;unfold bW at h1 h2;rw[e] at h1
 grind
theorem zty{rows:List (α×β×Int)}{x x' :β ->Rat}{m:List β}(ev:∀r∈rows,mL rows x r.2.1)(ev' :∀r∈rows,mL rows x' r.2.1)(em:Ae rows x m)(em' :Ae rows x' m)
  (min:∀C:β ->Prop,(∀r∈rows,∀s∈rows,r.1=s.1 ->C r.2.1 ->C s.2.1) ->(∃h∈m,C h) ->∀h∈m,C h) (on:∀h∈m,∃r∈rows,r.2.1=h):∀h∈m,x h=x' h:=by
 intro h0 hh;have same:=min (fun h=>x h - x' h=x h0 - x' h0) (fun r hr s hs e c=>by
  have:=zwv ev ev' hr hs e;show x s.2.1 - x' s.2.1=_;rw[<- this];exact c) ⟨h0,hh,rfl⟩
 unfold Ae at em em';have z:ao (ofM rows m) (fun r=>x r.2.1 - x' r.2.1)=0:=by rw[u6,em,em'];decide+kernel
 have z2:ao (ofM rows m) (fun r=>x r.2.1 - x' r.2.1)=ao (ofM rows m) fun _=>x h0 - x' h0:=fG fun r hr=>same _ (dG.mp hr).2;rw[z2,w6] at z;obtain⟨r,hr,e⟩:=on h0 hh;have pos:0< (ofM rows m).length:=List.length_pos_iff.mpr fun q=>by
  have:=dG.mpr ⟨hr,e ▸ hh⟩;rw[q] at this;cases this
 rcases Rat.mul_eq_zero.mp z with q | q
 ·have:(ofM rows m).length=0:=by exact_mod_cast q
  omega
 ·grind
end
end HM
namespace L3
open PySem L2 HM
local macro_rules | `(tactic| and_intros)=> `(tactic| dsimp only [aC,bZ,cC,cV,cB,cT,Ow,vD,lY,qu,yw,Ey,JF,aq,aj,ju,iK,dg,Ez,bD,EY,eE,aO,jG,hName,gk,aP,gq,O7,yE,aD,cU,jK,tD,gB,n8,cZ,gZ,dI,yG,Fe,gLe,Bc,gGe,gIs,Pn,oF,rQ,dX,wI,wF,Bf,pN,z5z,z6q,nj,Pz,Fi,pO,Qc,List.length,List.set_cons_zero,List.set_cons_succ,List.getElem?_cons_zero,List.getElem?_cons_succ,tu,qX,Bm,z13,wJ,wK,Bq,Qy,tK,yN,QD,FP,FN,zyq,mC,rW,yQ,yR,FZ,zx0,FW,QX,QZ,iL,oG,jw,FJ,gC,List.map,List.append,List.cons_append,List.nil_append])
def Ck(_:Cls):cG:=fun ds P _=>∃i j,ds= [.int i,.int j]/\P (.int (Int.gcd i j))
def xq(c:Cls):cG:=fun ds P E=>∃i j:Int,ds= [.int i,.int j]/\bA i<=9000/\bA j<=9000/\if j=0 then E (.ref c.bN) else P (qD ((i:Rat)/ (j:Rat)))
def Cm(c:Cls):cG:=fun ds P _=>∃a b:Rat,ds= [qD a,qD b]/\Sz 4000 a/\Sz 4000 b/\P (qD (a+b))
def Cp(c:Cls):cG:=fun ds P _=>∃a b:Rat,ds= [qD a,qD b]/\ (Sz 4000 a/\Sz 4000 b\/Sz 300 a/\Sz 8500 b)/\P (qD (a - b))
def z5r(c:Cls):cG:=fun ds P _=>∃a b:Rat,ds= [qD a,qD b]/\Sz 4000 a/\Sz 4000 b/\P (qD (a*b))
def z59(c:Cls):cG:=fun ds P E=>∃a b:Rat,ds= [qD a,qD b]/\Sz 4000 a/\Sz 4000 b/\if b=0 then E (.ref c.bN) else P (qD (a/b))
def z5o(c:Cls):cG:=fun ds P _=>∃a b:Rat,ds= [qD a,qD b]/\Sz 4000 a/\Sz 4000 b/\P (.bl (decide (a<b)))
def iC(ns:List Int)(k:Nat):Int:=if h:k<ns.length then ns[k] else
 let m:Int:=if ns= [] then(k:Int)*7919+5 else(ns.getD ((k*7) % ns.length) 0*48271+ (k:Int)*7919).fmod 2147483647
 (m*m).fmod 2147483629
def rY(_:Cls):cG:=fun ds P _=>∃(ns:List Int) (k:Nat),ds= [.lst (ns.map .int),.int k]/\ns.length<=63/\k<1000/\P (.int (iC ns k))
def Hl(_:Cls):cG:=fun ds P _=>∃(x:D) (f:Rat),ds= [x,qD f]/\ (x= .non\/∃g,x=qD g)/\∀b:Bool,(b=true↔x=qD f) ->P (.bl b)
def KY(_:Cls):cG:=JR
def dR:List Rat ->Rat | []=>0 | q::qs=>q+dR qs
theorem zpo(a b:List Rat):dR (a++b)=dR a+dR b:=by
 induction a with
 | nil=>simp [dR,Rat.zero_add]
 | cons x xs ih=>simp only [List.cons_append,dR,ih,Rat.add_assoc]
def Cq(c:Cls):cG:=fun ds P _=>∃qs:List Rat,ds= [.lst (qs.map qD)]/\ (∀q∈qs,Sz 4000 q)/\ (∀k,Sz 4000 (dR (qs.take k)))/\P (qD (dR qs))
def z6l(c:Cls):cG:=fun ds P E=>∃qs:List Rat,ds= [.lst (qs.map qD)]/\qs.length<=1000/\ (∀q∈qs,Sz 4000 q)/\ (∀k,Sz 4000 (dR (qs.take k)))/\if qs= [] then E (.ref c.bN) else P (qD (dR qs/ (qs.length:Int)))
abbrev Mx:=Nat ->Nat ->Int
abbrev Mq:=Nat ->Nat ->Rat
def Ho(k s:Nat)(a:Mx):Mx:=fun i=>a (jA k s i)
def cA(m:Nat)(f:Nat ->Int):D:= .lst ((List.range m).map fun j=> .int (f j))
def ig(n m:Nat)(a:Mx):D:= .lst ((List.range n).map fun i=>cA m (a i))
def gD(m:Nat)(f:Nat ->Rat):D:= .lst ((List.range m).map fun j=>qD (f j))
def um(n m:Nat)(a:Mq):D:= .lst ((List.range n).map fun i=>gD m (a i))
def KZ(q:Rat):Prop:=bA q.num<=400/\bA (q.den:Int)<=16
def Hq(_:Cls):cG:=fun ds P _=>∃(m:Nat) (f:Nat ->Rat),ds= [gD m f]/\m<=13/\ (∀j,j<m ->KZ (f j))/\∀(μ:Int) (g:Nat ->Int),0<μ ->(∀j,j<m ->(g j:Rat)=(μ:Rat)*f j) ->(∀j,bA (g j)<=640) ->P (cA m g)
def Hr(_:Cls):cG:=fun ds P _=>∃(m k:Nat) (f g:Nat ->Int) (p:Int),ds= [cA m f,cA m g,.int k,.int p]/\k<m/\p≠0/\bA p<=9000/\ (∀j,bA (f j)<=9000)/\ (∀j,bA (g j)<=9000)/\P (cA m fun j=>(g k*f j - f k*g j).fdiv p)
def rD(k:Nat)(p:Int)(a:Mx):Mx:=fun i j=>if i=k then a k j else(a k k*a i j - a i k*a k j).fdiv p
def Hs(_:Cls):cG:=fun ds P _=>∃(a:Mx) (n m k:Nat) (p:Int),ds= [ig n m a,.int k,.int p]/\k<n/\k<m/\p≠0/\bA p<=9000/\ (∀i j,i<n ->bA (a i j)<=9000)/\P (ig n m (rD k p a))
def Ht(_:Cls):cG:=fun ds P _=>∃(a:Mx) (n m k s:Nat),ds= [ig n m a,.int k,.int s]/\k<n/\s<n/\P (ig n m (Ho k s a))
def Hu(c:Cls):cG:=fun ds P E=>∃(a:Mx) (n m k:Nat),ds= [ig n m a,.int k]/\n<=1000/\k<n/\k<m/\ (∀s,k<=s ->s<n ->a s k≠0 ->P (ig n m (Ho k s a)))/\ ((∀s,k<=s ->s<n ->a s k=0) ->E (.ref c.dM))
def Sys(n:Nat)(A:Mq)(ds:List D):Prop:=ds= [um n n A,gD n fun i=>A i n]/\n<=12/\∀i j,i<n ->j<=n ->KZ (A i j)
def Slv(n:Nat)(A:Mq)(x:Nat ->Rat):Prop:=∀r,r<n ->A r n=bF n fun j=>A r j*x j
def Hv(c:Cls):cG:=fun ds P E=>∃(n:Nat) (A:Mq),Sys n A ds/\ (∀(y:Nat ->Rat) (k:Nat),k<n ->y k=1 ->(∀r,r<n ->(bF n fun j=>A r j*y j)=0) ->E (.ref c.dM))/\∀x,Slv n A x ->(∀i,i<n ->Sz 8500 (x i)) ->P (gD n x)
abbrev Rw:=Str×Str×Int
def jL(r:Rw):D:= .tup [.str r.1,.str r.2.1,.int r.2.2]
def aM(rs:List Rw):D:= .lst (rs.map jL)
def fO(rows:List Rw)(w:Str):List Str:=(rows.filter fun r=>decide (r.1=w)).map fun r=>r.2.1
structure T6 (rows:List Rw) (Ss:List (List Str)):Prop where
 of:∀S∈Ss,∃r∈rows,∀x,x∈S↔x∈fO rows r.1
 to:∀r∈rows,∃S∈Ss,∀x,x∈S↔x∈fO rows r.1
structure rE (rows:List Rw) (ms:List (List Str)):Prop where
 sr:∀m∈ms,m.Pairwise fun a b=>fZ a b=true
 up:ms.Pairwise fun a b=>fZ (hdS a) (hdS b)=true
 pi:∃Ss,T6 rows Ss/\dU Ss ms
def qI(p:List Str×List D):T:= .dic (p.1.map .inr) (p.2.map .leaf)
structure Af (rows:List Rw) (ws:List Str) (ps:List (List Str×List D)):Prop where
 len:ws.length=ps.length
 nd:ws.Nodup
 lw:ws.length<=rows.length
 wm:∀w,w∈ws↔∃r∈rows,r.1=w
 pt:∀(q:Nat) w p,ws[q]?=some w ->ps[q]?=some p ->p.1.length=p.2.length/\p.1.Nodup/\p.1.length<=rows.length/\∀h,h∈p.1↔h∈fO rows w
 ex:Uq rows ->∀(q:Nat) w p,ws[q]?=some w ->ps[q]?=some p ->p=(kW rows w,(cF rows w).map fun r=> .int r.2.2)
def Cr(_:Cls):qG:=fun ds P _=>∃rows:List Rw,ds= [aM rows]/\rows.length<=1000/\∀ws ps,Af rows ws ps ->P (.dic (ws.map .inr) (ps.map qI))
def Cu(_:Cls):cG:=fun ds P _=>∃g hs:List Str,ds= [gl g,gl hs]/\P (.bl (aF g hs))
def Hw(_:Cls):cG:=fun ds P _=>∃(fs:List (List Str)) (hs U:List Str),ds= [.lst (fs.map gl),gl hs]/\hs.length+fs.flatten.length<4000/\fs.length<4000/\U.length<60/\ (∀x∈hs,x∈U)/\ (∀f∈fs,∀x∈f,x∈U)/\
 ∀g:List Str,g.Pairwise (fun a b=>fZ a b=true) ->(∀x,x∈g↔x∈hs\/∃f∈fs,aF f hs=true/\x∈f) ->P (.lst ((fs.filter (fun f=> !aF f hs)++ [g]).map gl))
def Hy(_:Cls):qG:=fun ds P _=>∃(rows:List Rw) (U:List Str),ds= [aM rows]/\rows.length<=1000/\U.length<60/\ (∀r∈rows,r.2.1∈U)/\∀ms,rE rows ms ->P (.lst ((ms.map gl).map .leaf))
def vf(rows:List Rw)(w:Str):D:= .dic ((kW rows w).map .inr) ((cF rows w).map fun r=> .int r.2.2)
def jW(rows:List Rw)(ws:List Str):D:= .lst (ws.map (vf rows))
structure LB (rows:List Rw):Prop where
 few:rows.length<=200
 mm:∀r∈rows,r.2.2.natAbs<2^100
 wk:∀w,(cF rows w).length<=12
def oV(rows:List Rw)(ws:List Str):Prop:=ws.length<=200/\∀w∈ws,cF rows w≠ []
def xr(_:Cls):cG:=fun ds P _=>∃(rows:List Rw) (ws:List Str) (h:Str),ds= [.str h,jW rows ws]/\P (jW rows (ws.filter fun w=>decide (h∈kW rows w)))
def HB(_:Cls):cG:=fun ds P _=>∃(rows:List Rw) (ws:List Str) (h o:Str),ds= [.str h,.str o,jW rows ws]/\LB rows/\oV rows ws/\P (qD (bO (ws.map (kW rows)) h o))
def HD(_:Cls):cG:=fun ds P _=>∃(rows:List Rw) (ws m:List Str) (h:Str),ds= [.str h,gl m,jW rows ws]/\LB rows/\oV rows ws/\P (.lst (m.map fun o=>qD (bO (ws.map (kW rows)) h o)))
def HF(_:Cls):cG:=fun ds P _=>∃(rows:List Rw) (w:Str),ds= [vf rows w]/\LB rows/\cF rows w≠ []/\P (qD (ao (cF rows w) (fun r=>(r.2.2:Rat))/ ((cF rows w).length:Rat)))
def HJ(_:Cls):cG:=fun ds P _=>∃(rows:List Rw) (ws:List Str) (h:Str),ds= [.str h,jW rows ws]/\Uq rows/\LB rows/\oV rows ws/\P (qD (fH (kW rows) (yW rows) ws h))
def HN(_:Cls):cG:=fun ds P _=>∃(rows:List Rw) (ws m:List Str),ds= [gl m,jW rows ws]/\lu rows ws m/\LB rows/\oV rows ws/\m≠ []/\m.length<=12/\
 ∀x:Str ->Rat,(∀h∈m,mL rows x h) ->ao rows (fun r=>x r.2.1)=0 ->(∀h∈m,Sz 8500 (x h)) ->P (.lst (m.map fun h=>qD (x h)))
structure Lean (rows:List Rw) (ms:List (List Str)) (x:Str ->Rat):Prop where
 g:rE rows ms
 ev:∀m∈ms,∀h∈m,mL rows x h
 em:∀m∈ms,Ae rows x m
 sz:∀m∈ms,∀h∈m,Sz 8500 (x h)
def gF(hs:List Str)(x:Str ->Rat):T:= .dic (hs.map .inr) ((hs.map fun h=>qD (x h)).map .leaf)
def mO(hs:List Str)(x:Str ->Rat):D:= .dik (hs.map .inr) (hs.map fun h=>qD (x h))
def Cw(_:Cls):qG:=fun ds P _=>∃(rows:List Rw) (U:List Str),ds= [aM rows]/\Uq rows/\LB rows/\U.length<=12/\ (∀r∈rows,r.2.1∈U)/\∀ms x,Lean rows ms x ->P (gF ms.flatten x)
def HS(_:Cls):cG:=fun ds P _=>∃(rows:List Rw) (U:List Str) (c:Nat),ds= [aM rows]/\U.length<60/\ (∀r∈rows,r.2.1∈U)/\ (∀w,(fO rows w).length<=c)/\rows.length* (1+c)<4000/\∀ms,rE rows ms ->P (.lst (ms.map gl))
def Cy(_:Cls):cG:=fun ds P _=>∃(n:Int) (m:Nat),ds= [.int n,.int m]/\m<=20/\∀xs:List Str,xs.length=m ->xs.Nodup ->P (.lst (xs.map .str))
def HW(_:Cls):cG:=fun ds P _=>∃a b d e n:Int,ds= [.int a,.int b,.int d,.int e,.int n]/\e≠0/\∀t:Bool,P (.bl t)
def HX(_:Cls):cG:=fun ds P _=>∃(ns:List Int) (hands works:Nat),ds= [.lst (ns.map .int),.int hands,.int works]/\ns.length<=63/\1<=hands/\hands<=5/\works<=8/\
 ∀(rows:List Rw) (U:List Str),rows.length<=40 ->U.length<=hands ->(∀r∈rows,r.2.1∈U) ->Uq rows ->(∀r∈rows,r.2.2.natAbs<2^40) ->P (aM rows)
def Cz(_:Cls):cG:=fun ds P _=>∃i j:Int,ds= [.int i,.int j]/\P (.int (Int.gcd i j))
theorem zuf{c:Cls}{ds P E}(h:Cr c ds P E):ds.length=1:=by obtain⟨_,rfl,_⟩:=h;rfl
theorem z4r{c:Cls}{ds P E}(h:Cu c ds P E):ds.length=2:=by obtain⟨_,_,rfl,_⟩:=h;rfl
theorem zyx{c:Cls}{ds P E}(h:Hw c ds P E):ds.length=2:=by obtain⟨_,_,_,rfl,_⟩:=h;rfl
theorem zyg{c:Cls}{ds P E}(h:Hy c ds P E):ds.length=1:=by obtain⟨_,_,rfl,_⟩:=h;rfl
theorem zkf{c:Cls}{ds P E}(h:xr c ds P E):ds.length=2:=by obtain⟨_,_,_,rfl,_⟩:=h;rfl
theorem z0q{c:Cls}{ds P E}(h:HB c ds P E):ds.length=3:=by obtain⟨_,_,_,_,rfl,_⟩:=h;rfl
theorem zx7{c:Cls}{ds P E}(h:HD c ds P E):ds.length=3:=by obtain⟨_,_,_,_,rfl,_⟩:=h;rfl
theorem zpt{c:Cls}{ds P E}(h:HF c ds P E):ds.length=1:=by obtain⟨_,_,rfl,_⟩:=h;rfl
theorem zxr{c:Cls}{ds P E}(h:HJ c ds P E):ds.length=2:=by obtain⟨_,_,_,rfl,_⟩:=h;rfl
theorem zhj{c:Cls}{ds P E}(h:HN c ds P E):ds.length=2:=by obtain⟨_,_,_,rfl,_⟩:=h;rfl
theorem zr7{c:Cls}{ds P E}(h:Cw c ds P E):ds.length=1:=by obtain⟨_,_,rfl,_⟩:=h;rfl
theorem zpw{c:Cls}{ds P E}(h:Cy c ds P E):ds.length=2:=by obtain⟨_,_,rfl,_⟩:=h;rfl
theorem zme{c:Cls}{ds P E}(h:HW c ds P E):ds.length=5:=by obtain⟨_,_,_,_,_,rfl,_⟩:=h;rfl
theorem zr5{c:Cls}{ds P E}(h:HX c ds P E):ds.length=3:=by obtain⟨_,_,_,rfl,_⟩:=h;rfl
theorem zk8{c:Cls}{ds P E}(h:Cz c ds P E):ds.length=2:=by obtain⟨_,_,rfl,_⟩:=h;rfl
theorem znl{c:Cls}{ds P E}(h:HS c ds P E):ds.length=1:=by obtain⟨_,_,_,rfl,_⟩:=h;rfl
def uo(x:Str ->Rat)(r:Rw):D:= .tup [.str r.1,.str r.2.1,qD ((r.2.2:Rat) - x r.2.1)]
def iW(rows:List Rw)(x:Str ->Rat):D:= .lst (rows.map (uo x))
def HY(_:Cls):cG:=fun ds P _=>∃(rows:List Rw) (U:List Str),ds= [aM rows]/\Uq rows/\LB rows/\U.length<=12/\ (∀r∈rows,r.2.1∈U)/\∀ms x,Lean rows ms x ->P (iW rows x)
def Ia(_:Cls):cG:=fun ds P _=>∃i j:Int,ds= [.int i,.int j]/\bA i<=9000/\bA j<=9000/\j≠0/\P (qD ((i:Rat)/ (j:Rat)))
def Ib(_:Cls):cG:=fun ds P _=>∃(rows:List Rw) (x:Str ->Rat),ds= [iW rows x]/\rows.length<=40/\ (∀r∈rows,Sz 8900 ((r.2.2:Rat) - x r.2.1))/\
 ∀B:Int,0<B ->(∀r∈rows,(((r.2.2:Rat) - x r.2.1).den:Int)∣B) ->bA B<=600000 ->P (.int B)
def Ie(_:Cls):cG:=fun ds P _=>∃(rows:List Rw) (x:Str ->Rat) (m:List Str),ds= [aM rows,iW rows x,gl m]/\rows.length<=40/\ (∀r∈rows,Sz 8900 ((r.2.2:Rat) - x r.2.1))/\ (∀r∈rows,r.2.2.natAbs<2^40)/\Ae rows x m/\P (.bl true)
def Ig(_:Cls):cG:=fun ds P _=>∃(rows:List Rw) (U:List Str) (ms:List (List Str)) (x:Str ->Rat),ds= [aM rows,iW rows x]/\Uq rows/\LB rows/\U.length<=12/\ (∀r∈rows,r.2.1∈U)/\ (∀r∈rows,r.2.2.natAbs<2^40)/\Lean rows ms x/\P (.bl true)
theorem zrt{c:Cls}{ds P E}(h:HY c ds P E):ds.length=1:=by obtain⟨_,_,rfl,_⟩:=h;rfl
theorem zvt{c:Cls}{ds P E}(h:Ia c ds P E):ds.length=2:=by obtain⟨_,_,rfl,_⟩:=h;rfl
theorem zl4{c:Cls}{ds P E}(h:Ib c ds P E):ds.length=1:=by obtain⟨_,_,rfl,_⟩:=h;rfl
theorem zn0{c:Cls}{ds P E}(h:Ie c ds P E):ds.length=3:=by obtain⟨_,_,_,rfl,_⟩:=h;rfl
theorem zou{c:Cls}{ds P E}(h:Ig c ds P E):ds.length=2:=by obtain⟨_,_,_,_,rfl,_⟩:=h;rfl
def T7(K:W.Frag)(c:Cls):au:=(aO 7 (cB gB (cV 7) (cB dX (cV 2) (cB dI (cB gB (cV 9) (cB cZ (cV 6) (jK FZ (aj (qu (cB oF (cV 8) (cV 4)) (cB rQ (cB dI (cV 0) (cC (.int 3))) (cC (.int 1)))) aq)))) (cC (.int 26))))))
def T8(K:W.Frag)(c:Cls):au:=(aC (aO 9 (cB dI (cB gB (cB gB (cB cZ (cB gZ (cV 0) (cC (.int 24))) (cC (.int 48271))) (cB cZ (cB cZ (cV 8) (cV 8)) (cC (.int 69621)))) (cB cZ (cV 8) (cC (.int 7)))) (cC (.int 2147483647))))
 (T7 K c))
def zgu(K:W.Frag)(c:Cls):au:=(FP 5 FN (aj (cV 7) aq))
def zc7(K:W.Frag)(c:Cls):au:=(aC (mH (aj (cB gB (cV 3) (cB cZ (cV 6) (jK FZ (aj (cB oF (cB dI (cV 0) (cC (.int 3))) (cC (.int 1))) aq)))) aq) (hName 8)
 (T8 K c))
 (zgu K c))
def T9(K:W.Frag)(c:Cls):au:=(aC (aO 7 (cC (.str (Str.ofString ""))))
 (zc7 K c))
def zji(K:W.Frag)(c:Cls):au:=(bD (cV 5))
def ze1(K:W.Frag)(c:Cls):au:=(aC (mH (aj (cV 1) aq) (hName 6)
 (T9 K c))
 (zji K c))
def ze4(K:W.Frag)(c:Cls):au:=(aC (jG 5 (iK aq))
 (ze1 K c))
def Ua(K:W.Frag)(c:Cls):au:=(aC (aO 4 (cB dI (cB gZ (cV 0) (cC (.int 24))) (cV 3)))
 (ze4 K c))
def ze5(K:W.Frag)(c:Cls):au:=(aC (eE (cT (cB oF (cB dI (cV 0) (cC (.int 3))) (cC (.int 1))))
 (aO 3 (cC (.int 1)))
 bZ)
 (Ua K c))
def zex(K:W.Frag)(c:Cls):au:=(aC (aO 3 (cB gB (cC (.int 1)) (cB dI (cB gZ (cV 0) (cC (.int 3))) (cC (.int 8)))))
 (ze5 K c))
def K1(K:W.Frag)(c:Cls):au:=(aC (aO 2 (cC (.str (Str.ofString "abcdefghijklmnopqrstuvwxyz"))))
 (zex K c))
def zlm(K:W.Frag)(c:Cls):au:=(bD (cB dI (cB cZ (cV 2) (cV 2)) (cC (.int 2147483629))))
def zla(K:W.Frag)(c:Cls):au:=(aC (eE (cT (cB Bc (jK pN (aj (cV 0) aq)) (cC (.int 0))))
 (aO 2 (cB dI (cB gB (cB cZ (cB dX (cV 0) (cB dI (cB cZ (cV 1) (cC (.int 7))) (jK pN (aj (cV 0) aq)))) (cC (.int 48271))) (cB cZ (cV 1) (cC (.int 7919)))) (cC (.int 2147483647))))
 bZ)
 (zlm K c))
def zkw(K:W.Frag)(c:Cls):au:=(aC (aO 2 (cB gB (cB cZ (cV 1) (cC (.int 7919))) (cC (.int 5))))
 (zla K c))
def zh4(K:W.Frag)(c:Cls):au:=(aC (eE (cT (cB Fe (cV 1) (jK pN (aj (cV 0) aq))))
 (bD (cB dX (cV 0) (cV 1)))
 bZ)
 (zkw K c))
def ziv(K:W.Frag)(c:Cls):au:=(bD (cC (.bl true)))
def zei(K:W.Frag)(c:Cls):au:=(aC (eE (cT (cB oF (cV 0) (cC (.int 2))))
 (bD (qu (cB oF (cB dI (cV 1) (cC (.int 2))) (cB dI (cV 2) (cC (.int 2)))) (cB Bc (cB dI (cV 4) (cC (.int 4))) (cC (.int 0)))))
 bZ)
 (ziv K c))
def zd0(K:W.Frag)(c:Cls):au:=(aC (eE (cT (cB oF (cV 0) (cC (.int 1))))
 (bD (yw (cB oF (cV 2) (cB dI (cV 1) (cV 3))) (cB oF (cV 2) (cB dI (cB gB (cV 1) (cC (.int 1))) (cV 3)))))
 bZ)
 (zei K c))
def K3(K:W.Frag)(c:Cls):au:=(aC (eE (cT (cB oF (cV 0) (cC (.int 0))))
 (bD (cB Bc (cB dI (cV 4) (cC (.int 3))) (cC (.int 0))))
 bZ)
 (zd0 K c))
def zdu(K:W.Frag)(c:Cls):au:=(eE (cT (aD (HW c) (aj (cV 3) (aj (cV 8) (aj (cV 9) (aj (cV 1) (aj (cV 10) aq)))))))
 (FP 7 FN (aj (ju (aj (cB dX (cV 5) (cV 8)) (aj (cB dX (cV 6) (cV 9)) (aj (cB dI (cB gZ (cV 10) (cC (.int 12))) (cV 4)) aq)))) aq))
 bZ)
def Ub(K:W.Frag)(c:Cls):au:=(aC (aO 10 (aD (rY c) (aj (cV 0) (aj (cB gB (cB gB (cC (.int 6)) (cB cZ (cV 8) (cV 1))) (cV 9)) aq))))
 (zdu K c))
def Uc(K:W.Frag)(c:Cls):au:=(mH (aj (cV 1) aq) (hName 9)
 (Ub K c))
def zft(K:W.Frag)(c:Cls):au:=(bD (dg (mC (dg (Bq (cV 7) (wK (cV 11)) wJ)) (dg (Bq (cV 7) wJ (wK (cV 11)))))))
def zfn(K:W.Frag)(c:Cls):au:=(aC (aO 11 (cB dI (cB gZ (aD (rY c) (aj (cV 0) (aj (cC (.int 3)) aq))) (cC (.int 4))) (cB gB (tK (jK pN (aj (cV 7) aq))) (cC (.int 1)))))
 (zft K c))
def zfq(K:W.Frag)(c:Cls):au:=(aC (mH (aj (cV 2) aq) (hName 8)
 (Uc K c))
 (zfn K c))
def zfj(K:W.Frag)(c:Cls):au:=(aC (jG 7 (iK aq))
 (zfq K c))
def zf4(K:W.Frag)(c:Cls):au:=(aC (aO 6 (aD (Cy c) (aj (aD (rY c) (aj (cV 0) (aj (cC (.int 5)) aq))) (aj (cV 1) aq))))
 (zfj K c))
def Ud(K:W.Frag)(c:Cls):au:=(aC (aO 5 (aD (Cy c) (aj (aD (rY c) (aj (cV 0) (aj (cC (.int 4)) aq))) (aj (cV 2) aq))))
 (zf4 K c))
def zf2(K:W.Frag)(c:Cls):au:=(aC (aO 4 (cB dX (dg (iK (aj (cC (.int 10)) (aj (cC (.int 4)) (aj (cC (.int 10)) (aj (cB yG (cC (.int 10)) (cC (.int 12))) aq)))))) (cB dI (aD (rY c) (aj (cV 0) (aj (cC (.int 3)) aq))) (cC (.int 4)))))
 (Ud K c))
def K4(K:W.Frag)(c:Cls):au:=(aC (aO 3 (cB dI (aD (rY c) (aj (cV 0) (aj (cC (.int 2)) aq))) (cC (.int 4))))
 (zf2 K c))
def zw3(K:W.Frag)(c:Cls):au:=(bD (jK QC (aj (dg (bM 1 [0] (iL (cV 1)) (hName 0) gC (cB (rW false) (cV 0) (cV 1)))) aq)))
def zmp(K:W.Frag)(c:Cls):au:=(eE (cT (aD (Cu c) (aj (cV 4) (aj (cV 1) aq))))
 (FP 3 QK (aj (cV 4) aq))
 bZ)
def ziz(K:W.Frag)(c:Cls):au:=(bD (dg (mC (cV 2) (dg (iK (aj (dg (qX BX (aj (cV 3) aq))) aq))))))
def zo4(K:W.Frag)(c:Cls):au:=(aC (j8 (cV 0) (hName 4)
 (zmp K c))
 (ziz K c))
def zoh(K:W.Frag)(c:Cls):au:=(aC (jG 3 (qX Bm (aj (cV 1) aq)))
 (zo4 K c))
def znt(K:W.Frag)(c:Cls):au:=(aC (aO 2 (dg (bM 1 [1] (iL (cV 0)) (hName 0) (lY (cT (aD (Cu c) (aj (cV 0) (aj (cV 1) aq))))) (cV 0))))
 (zoh K c))
def zdy(K:W.Frag)(c:Cls):au:=(Gy 1 2 3 (cV 4))
def zlb(K:W.Frag)(c:Cls):au:=(aC (eE (Gw 1 (cV 2))
 (Gx 1 2 Ko)
 bZ)
 (zdy K c))
def zg5(K:W.Frag)(c:Cls):au:=(qF (nV 1))
def zm1(K:W.Frag)(c:Cls):au:=(aC (j8 (cV 0) (gq 3 (aP (hName 2) (aP (hName 3) (aP (hName 4) gk))))
 (zlb K c))
 (zg5 K c))
def zj1(K:W.Frag)(c:Cls):au:=(aC (tU 1 Ko)
 (zm1 K c))
def znw(K:W.Frag)(c:Cls):au:=(aO 1 (aD (Hw c) (aj (cV 1) (aj (dg (qX R7 (aj (cV 2) aq))) aq))))
def zom(K:W.Frag)(c:Cls):au:=(qF (Y9 (qX Kr (aj (cV 1) aq))))
def zoy(K:W.Frag)(c:Cls):au:=(aC (oG (ZM (nD (Cr c) (aj (cV 0) aq))) (hName 2)
 (znw K c))
 (zom K c))
def zmf(K:W.Frag)(c:Cls):au:=(aC (aO 1 (dg (iK aq)))
 (zoy K c))
def zii(K:W.Frag)(c:Cls):au:=(aO 1 (cV 2))
def zh6(K:W.Frag)(c:Cls):au:=(aC (aO 0 (cV 1))
 (zii K c))
def zkc(K:W.Frag)(c:Cls):au:=(aC (aO 2 (cB dI (cV 0) (cV 1)))
 (zh6 K c))
def znv(K:W.Frag)(c:Cls):au:=(bD (jK Bf (aj (cV 0) aq)))
def zjp(K:W.Frag)(c:Cls):au:=(aC (pK (cT (cB rQ (cV 1) (cC (.int 0))))
 (zkc K c))
 (znv K c))
def zi3(K:W.Frag)(c:Cls):au:=(aO 1 (cB cZ (cV 1) (cB gZ (cB dX (cV 2) (cC (.int 1))) (aD (Ck c) (aj (cV 1) (aj (cB dX (cV 2) (cC (.int 1))) aq))))))
def zi8(K:W.Frag)(c:Cls):au:=(bD (dg (bM 1 [1] (iL (cV 0)) (hName 0) gC (cB cZ (cB dX (cV 0) (cC (.int 0))) (cB gZ (cV 1) (cB dX (cV 0) (cC (.int 1))))))))
def zje(K:W.Frag)(c:Cls):au:=(aC (j8 (cV 0) (hName 2)
 (zi3 K c))
 (zi8 K c))
def zg9(K:W.Frag)(c:Cls):au:=(aC (aO 1 (cC (.int 1)))
 (zje K c))
def zjn(K:W.Frag)(c:Cls):au:=(bD (dg (bM 2 [0,1,2,3] (Bu (aj (cV 0) (aj (cV 1) aq))) (gq 2 (aP (hName 0) (aP (hName 1) gk))) gC (cB gZ (cB n8 (cB cZ (cB dX (cV 3) (cV 4)) (cV 0)) (cB cZ (cB dX (cV 2) (cV 4)) (cV 1))) (cV 5)))))
def zmo(K:W.Frag)(c:Cls):au:=(bD (dg (bM 2 [1,2,3] (FW (aj (cV 0) aq)) (gq 2 (aP (hName 0) (aP (hName 1) gk))) gC (JF (cT (cB oF (cV 0) (cV 2))) (cV 1) (aD (Hr c) (aj (cV 1) (aj (cV 4) (aj (cV 2) (aj (cV 3) aq)))))))))
def zjy(K:W.Frag)(c:Cls):au:=(aC (aO 3 (cB dX (cV 0) (cV 1)))
 (zmo K c))
def zkz(K:W.Frag)(c:Cls):au:=(bD (ju (aj (cB gZ (cV 0) (cV 2)) (aj (cB gZ (cV 1) (cV 2)) aq))))
def zke(K:W.Frag)(c:Cls):au:=(aC (eE (cT (cB Fe (cV 1) (cC (.int 0))))
 (aO 2 (cU tD (cV 2)))
 bZ)
 (zkz K c))
def zlg(K:W.Frag)(c:Cls):au:=(aC (aO 2 (aD (Ck c) (aj (cV 0) (aj (cV 1) aq))))
 (zke K c))
def zi4(K:W.Frag)(c:Cls):au:=(aC (eE (cT (cB oF (cV 1) (cC (.int 0))))
 (nj c.bN (aj (cC (.str (Str.ofString "the bottom of a fraction is not 0"))) aq))
 bZ)
 (zlg K c))
def zjd(K:W.Frag)(c:Cls):au:=(bD (cV 3))
def zja(K:W.Frag)(c:Cls):au:=(aC (yX 3 (cV 2) (cB dX (cV 0) (cV 1)))
 (zjd K c))
def zi9(K:W.Frag)(c:Cls):au:=(aC (yX 3 (cV 1) (cB dX (cV 0) (cV 2)))
 (zja K c))
def zg2(K:W.Frag)(c:Cls):au:=(aC (jG 3 (qX Bm (aj (cV 0) aq)))
 (zi9 K c))
def zvn(K:W.Frag)(c:Cls):au:=(eE (cT (cB rQ (cB dX (cB dX (cV 0) (cV 2)) (cV 1)) (cC (.int 0))))
 (bD (aD (Ht c) (aj (cV 0) (aj (cV 1) (aj (cV 2) aq)))))
 bZ)
def zzd(K:W.Frag)(c:Cls):au:=(nj c.dM (aj (cC (.str (Str.ofString "the system has no answer, or several"))) aq))
def zzz(K:W.Frag)(c:Cls):au:=(aC (wC (aj (cV 1) (aj (jK pN (aj (cV 0) aq)) aq)) (hName 2)
 (zvn K c))
 (zzd K c))
def zjh(K:W.Frag)(c:Cls):au:=(aO 3 (cB dX (cB dX (cV 2) (cV 4)) (cV 4)))
def zl6(K:W.Frag)(c:Cls):au:=(aC (aO 2 (aD (Hs c) (aj (aD (Hu c) (aj (cV 2) (aj (cV 4) aq))) (aj (cV 4) (aj (cV 3) aq)))))
 (zjh K c))
def zor(K:W.Frag)(c:Cls):au:=(bD (dg (bM 2 [] (FW (aj (cV 2) aq)) (gq 2 (aP (hName 0) (aP (hName 1) gk))) gC (aD (xq c) (aj (cB dX (cV 1) (cU tD (cC (.int 1)))) (aj (cB dX (cV 1) (cV 0)) aq))))))
def zpc(K:W.Frag)(c:Cls):au:=(aC (mH (aj (jK pN (aj (cV 2) aq)) aq) (hName 4)
 (zl6 K c))
 (zor K c))
def zh8(K:W.Frag)(c:Cls):au:=(aC (aO 3 (cC (.int 1)))
 (zpc K c))
def zmx(K:W.Frag)(c:Cls):au:=(aC (aO 2 (dg (bM 2 [] (Bu (aj (cV 0) (aj (cV 1) aq))) (gq 2 (aP (hName 0) (aP (hName 1) gk))) gC (aD (Hq c) (aj (dg (mC (cV 0) (dg (iK (aj (cV 1) aq))))) aq)))))
 (zh8 K c))
def zey(K:W.Frag)(c:Cls):au:=(bD (dg (bM 1 [0] (iL (cV 1)) (hName 0) (cT (cB (GP false) (cV 1) (cV 0))) (cV 0))))
def zwq(K:W.Frag)(c:Cls):au:=(bD (aD (xq c) (aj (cB gB (cB cZ (cB dX (cV 0) (cC (.int 0))) (cB dX (cV 1) (cC (.int 1)))) (cB cZ (cB dX (cV 1) (cC (.int 0))) (cB dX (cV 0) (cC (.int 1))))) (aj (cB cZ (cB dX (cV 0) (cC (.int 1))) (cB dX (cV 1) (cC (.int 1)))) aq))))
def zpv(K:W.Frag)(c:Cls):au:=(aO 1 (aD (Cm c) (aj (cV 1) (aj (cV 2) aq))))
def zrw(K:W.Frag)(c:Cls):au:=(bD (cV 1))
def zr2(K:W.Frag)(c:Cls):au:=(aC (j8 (cV 0) (hName 2)
 (zpv K c))
 (zrw K c))
def zqf(K:W.Frag)(c:Cls):au:=(aC (aO 1 (ju (aj (cC (.int 0)) (aj (cC (.int 1)) aq))))
 (zr2 K c))
def zj5(K:W.Frag)(c:Cls):au:=(bD (JF (cT (cB oF (cV 0) (cV 1))) (aD (Cm c) (aj (ju (aj (jK pN (aj (cV 3) aq)) (aj (cC (.int 1)) aq))) (aj (cV 4) aq))) (cV 4)))
def Ue(K:W.Frag)(c:Cls):au:=(aC (aO 4 (aD (Cq c) (aj (dg (bM 1 [] (iL (cV 3)) (hName 0) gC (ju (aj (cU tD (cC (.int 1))) (aj (jK Kv (aj (cV 0) aq)) aq))))) aq)))
 (zj5 K c))
def zq2(K:W.Frag)(c:Cls):au:=(aC (aO 3 (aD (xr c) (aj (cV 1) (aj (aD (xr c) (aj (cV 0) (aj (cV 2) aq))) aq))))
 (Ue K c))
def zl8(K:W.Frag)(c:Cls):au:=(bD (dg (bM 1 [0,2] (iL (cV 1)) (hName 0) gC (aD (HB c) (aj (cV 1) (aj (cV 0) (aj (cV 2) aq)))))))
def zro(K:W.Frag)(c:Cls):au:=(bD (aD (xq c) (aj (cB n8 (cB cZ (cB dX (cV 0) (cC (.int 0))) (cB dX (cV 1) (cC (.int 1)))) (cB cZ (cB dX (cV 1) (cC (.int 0))) (cB dX (cV 0) (cC (.int 1))))) (aj (cB cZ (cB dX (cV 0) (cC (.int 1))) (cB dX (cV 1) (cC (.int 1)))) aq))))
def zha(K:W.Frag)(c:Cls):au:=(bD (aD (xq c) (aj (wX (cV 0)) (aj (jK Kv (aj (cV 0) aq)) aq))))
def Ug(K:W.Frag)(c:Cls):au:=(bD (aD (Cq c) (aj (dg (bM 1 [0] (iL (aD (xr c) (aj (cV 0) (aj (cV 1) aq)))) (hName 0) gC (aD (Cp c) (aj (ju (aj (cB pQ (cV 0) (cV 1)) (aj (cC (.int 1)) aq))) (aj (aD (HF c) (aj (cV 0) aq)) aq))))) aq)))
def zci(K:W.Frag)(c:Cls):au:=(bD (aD (Hv c) (aj (dg (mC (dg (iK (aj (cV 4) aq))) (cV 2))) (aj (dg (mC (dg (iK (aj (ju (aj (cC (.int 0)) (aj (cC (.int 1)) aq))) aq))) (cV 3))) aq))))
def zcl(K:W.Frag)(c:Cls):au:=(aC (aO 4 (dg (bM 1 [1] (iL (cV 0)) (hName 0) gC (ju (aj (jK pN (aj (aD (xr c) (aj (cV 0) (aj (cV 1) aq))) aq)) (aj (cC (.int 1)) aq))))))
 (zci K c))
def ze9(K:W.Frag)(c:Cls):au:=(aC (aO 3 (dg (bM 1 [1] (iL (dg (Bq (cV 0) (wK (cC (.int 1))) wJ))) (hName 0) gC (aD (HJ c) (aj (cV 0) (aj (cV 1) aq))))))
 (zcl K c))
def zc8(K:W.Frag)(c:Cls):au:=(aC (aO 2 (dg (bM 1 [0,1] (iL (dg (Bq (cV 0) (wK (cC (.int 1))) wJ))) (hName 0) gC (aD (HD c) (aj (cV 0) (aj (cV 1) (aj (cV 2) aq)))))))
 (ze9 K c))
def zet(K:W.Frag)(c:Cls):au:=(GQ 1 (cV 4) (cV 5))
def zdv(K:W.Frag)(c:Cls):au:=(oG (Bu (aj (cV 2) (aj (aD (HN c) (aj (cV 2) (aj (cV 3) aq))) aq))) (gq 2 (aP (hName 4) (aP (hName 5) gk)))
 (zet K c))
def ze3(K:W.Frag)(c:Cls):au:=(aC (aO 3 (dg (uf (aD (vM (Cr c)) (aj (dg (bM 1 [2] (iL (cV 0)) (hName 0) (cT (cB (rW false) (cB dX (cV 0) (cC (.int 1))) (cV 1))) (cV 0))) aq)))))
 (zdv K c))
def zlz(K:W.Frag)(c:Cls):au:=(qF (nV 1))
def zfr(K:W.Frag)(c:Cls):au:=(aC (j8 (aD (vM (Hy c)) (aj (cV 0) aq)) (hName 2)
 (ze3 K c))
 (zlz K c))
def zim(K:W.Frag)(c:Cls):au:=(aC (tU 1 Ko)
 (zfr K c))
def zfy(K:W.Frag)(c:Cls):au:=(bD (dg (bM 3 [1] (iL (cV 0)) (gq 3 (aP (hName 0) (aP (hName 1) (aP (hName 2) gk)))) gC (ju (aj (cV 0) (aj (cV 1) (aj (aD (Cp c) (aj (ju (aj (cV 2) (aj (cC (.int 1)) aq))) (aj (cB pQ (cV 3) (cV 1)) aq))) aq)))))))
def zid(K:W.Frag)(c:Cls):au:=(aC (aO 1 (ug (nD (Cw c) (aj (cV 0) aq))))
 (zfy K c))
def zhi(K:W.Frag)(c:Cls):au:=(eE (cT (cB rQ (dg (bM 1 [5] (iL (cV 6)) (hName 0) (cT (cB (rW false) (cV 0) (cV 1))) (cV 0))) (dg (iK aq))))
 (aO 5 (dg (mC (cV 5) (cV 6))))
 bZ)
def zcs(K:W.Frag)(c:Cls):au:=(aO 1 (dg (mC (dg (bM 1 [5] (iL (cV 1)) (hName 0) (cT (cB oF (dg (bM 1 [1] (iL (cV 0)) (hName 0) (cT (cB (rW false) (cV 0) (cV 1))) (cV 0))) (dg (iK aq)))) (cV 0))) (dg (iK (aj (cV 5) aq))))))
def zfv(K:W.Frag)(c:Cls):au:=(aC (j8 (cV 1) (hName 6)
 (zhi K c))
 (zcs K c))
def zhe(K:W.Frag)(c:Cls):au:=(aC (aO 5 (dg (mC (dg (iK (aj (cV 3) aq))) (dg (bM 3 [2] (iL (cV 0)) (gq 3 (aP (hName 0) (aP (hName 1) (aP (hName 2) gk)))) (cT (cB oF (cV 0) (cV 3))) (cV 1))))))
 (zfv K c))
def zi6(K:W.Frag)(c:Cls):au:=(bD (dg (qX Kr (aj (dg (bM 1 [] (iL (cV 1)) (hName 0) gC (dg (qX BX (aj (cV 0) aq))))) aq))))
def zi5(K:W.Frag)(c:Cls):au:=(aC (j8 (cV 0) (gq 3 (aP (hName 2) (aP (hName 3) (aP (hName 4) gk))))
 (zhe K c))
 (zi6 K c))
def zf7(K:W.Frag)(c:Cls):au:=(aC (aO 1 (dg (iK aq)))
 (zi5 K c))
def zg6(K:W.Frag)(c:Cls):au:=(eE (vD (lY (cT (pO "int" (cV 2)))) (cT (pO "bool" (cV 2))))
 (bD (cC (.bl false)))
 bZ)
def zpx(K:W.Frag)(c:Cls):au:=(bD (cC (.bl true)))
def zo2(K:W.Frag)(c:Cls):au:=(aC (j8 (cV 0) (hName 2)
 (zg6 K c))
 (zpx K c))
def CG(K:W.Frag)(c:Cls):au:=(aC (eE (vD (lY (cT (pO "tuple" (cV 0)))) (vD (cT (cB rQ (jK pN (aj (cV 0) aq)) (cC (.int 2)))) (cT (cB rQ (cV 0) (cV 1)))))
 (bD (cC (.bl false)))
 bZ)
 (zo2 K c))
def zgj(K:W.Frag)(c:Cls):au:=(yE 0 1 (aj (cV 1) (aj (cB dI (cV 0) (cV 1)) aq)))
def zhg(K:W.Frag)(c:Cls):au:=(bD (cV 0))
def zhk(K:W.Frag)(c:Cls):au:=(aC (pK (cT (cB Bc (cV 1) (cC (.int 0))))
 (zgj K c))
 (zhg K c))
def zhf(K:W.Frag)(c:Cls):au:=(aC (aO 1 (jK Bf (aj (cV 1) aq)))
 (zhk K c))
def ze0(K:W.Frag)(c:Cls):au:=(aC (aO 0 (jK Bf (aj (cV 0) aq)))
 (zhf K c))
def zl1(K:W.Frag)(c:Cls):au:=(bD (ju (aj (cB gZ (cV 0) (cV 2)) (aj (cB gZ (cV 1) (cV 2)) aq))))
def zmk(K:W.Frag)(c:Cls):au:=(aC (eE (cT (cB Fe (cV 1) (cC (.int 0))))
 (aO 2 (cB n8 (cC (.int 0)) (cV 2)))
 bZ)
 (zl1 K c))
def zj6(K:W.Frag)(c:Cls):au:=(aC (aO 2 (aD (Cz c) (aj (cV 0) (aj (cV 1) aq))))
 (zmk K c))
def zgt(K:W.Frag)(c:Cls):au:=(eE (lY (cT (aD (Hl c) (aj (cB dX (cV 4) (cC (.int 2))) (aj (aD (Ia c) (aj (cB n8 (cB cZ (cB dX (cV 3) (cC (.int 2))) (cB dX (cV 5) (cC (.int 1)))) (cB dX (cV 5) (cC (.int 0)))) (aj (cB dX (cV 5) (cC (.int 1))) aq))) aq)))))
 (bD (cC (.bl false)))
 bZ)
def zgl(K:W.Frag)(c:Cls):au:=(aC (aO 5 (cB pQ (cV 2) (cB dX (cV 3) (cC (.int 1)))))
 (zgt K c))
def K5(K:W.Frag)(c:Cls):au:=(aC (eE (vD (lY (cT (pO "tuple" (cV 4)))) (vD (cT (cB rQ (jK pN (aj (cV 4) aq)) (cC (.int 3)))) (cT (cB rQ (yV (cV 4) wJ (wK (cC (.int 2)))) (yV (cV 3) wJ (wK (cC (.int 2))))))))
 (bD (cC (.bl false)))
 bZ)
 (zgl K c))
def zjc(K:W.Frag)(c:Cls):au:=(bD (cC (.bl true)))
def zez(K:W.Frag)(c:Cls):au:=(aC (oG (Bu (aj (cV 0) (aj (cV 1) aq))) (gq 2 (aP (hName 3) (aP (hName 4) gk)))
 (K5 K c))
 (zjc K c))
def zjb(K:W.Frag)(c:Cls):au:=(aC (aO 2 (ug (nD (Cw c) (aj (cV 0) aq))))
 (zez K c))
def K6(K:W.Frag)(c:Cls):au:=(aC (eE (vD (lY (cT (pO "list" (cV 1)))) (cT (cB rQ (jK pN (aj (cV 1) aq)) (jK pN (aj (cV 0) aq)))))
 (bD (cC (.bl false)))
 bZ)
 (zjb K c))
def zdw(K:W.Frag)(c:Cls):au:=(aO 1 (cB cZ (cV 1) (cB gZ (cB dX (cV 4) (cC (.int 1))) (aD (Cz c) (aj (cV 1) (aj (cB dX (cV 4) (cC (.int 1))) aq))))))
def ziq(K:W.Frag)(c:Cls):au:=(bD (cV 1))
def zif(K:W.Frag)(c:Cls):au:=(aC (j8 (cV 0) (gq 3 (aP (hName 2) (aP (hName 3) (aP (hName 4) gk))))
 (zdw K c))
 (ziq K c))
def zfo(K:W.Frag)(c:Cls):au:=(aC (aO 1 (cC (.int 1)))
 (zif K c))
def zd4(K:W.Frag)(c:Cls):au:=(bD (cB oF (jK J3 (aj (dg (bM 3 [2,3] (iL (cV 1)) (gq 3 (aP (hName 0) (aP (hName 1) (aP (hName 2) gk)))) (cT (cB (rW false) (cV 1) (cV 3))) (cB cZ (cB dX (cV 2) (cC (.int 0))) (cB gZ (cV 4) (cB dX (cV 2) (cC (.int 1))))))) aq)) (cB cZ (cV 4) (cV 3))))
def zec(K:W.Frag)(c:Cls):au:=(aC (aO 4 (jK J3 (aj (dg (bM 3 [2] (iL (cV 0)) (gq 3 (aP (hName 0) (aP (hName 1) (aP (hName 2) gk)))) (cT (cB (rW false) (cV 1) (cV 3))) (cV 2))) aq)))
 (zd4 K c))
def zfp(K:W.Frag)(c:Cls):au:=(aC (aO 3 (aD (Ib c) (aj (cV 1) aq)))
 (zec K c))
def ztw(K:W.Frag)(c:Cls):au:=(eE (lY (cT (aD (Ie c) (aj (cV 1) (aj (cV 3) (aj (cV 4) aq))))))
 (bD (cC (.bl false)))
 bZ)
def zy4(K:W.Frag)(c:Cls):au:=(bD (cC (.bl true)))
def zqt(K:W.Frag)(c:Cls):au:=(aC (j8 (aD (HS c) (aj (cV 1) aq)) (hName 4)
 (ztw K c))
 (zy4 K c))
def zqa(K:W.Frag)(c:Cls):au:=(aC (eE (vD (cT (cB rQ (cV 2) (cV 1))) (lY (cT (aD (Ig c) (aj (cV 1) (aj (cV 3) aq))))))
 (bD (cC (.bl false)))
 bZ)
 (zqt K c))
def zqd(K:W.Frag)(c:Cls):au:=(aC (aO 3 (aD (HY c) (aj (cV 2) aq)))
 (zqa K c))
def zp1(K:W.Frag)(c:Cls):au:=(aC (aO 2 (dg (qX Bm (aj (cV 1) aq))))
 (zqd K c))
def Ih(K:W.Frag)(c:Cls):au:=(aC (aO 1 (aD (HX c) (aj (cV 0) (aj (cB gB (cC (.int 1)) (cB dI (aD (rY c) (aj (cV 0) (aj (cC (.int 0)) aq))) (cC (.int 4)))) (aj (cB dI (aD (rY c) (aj (cV 0) (aj (cC (.int 1)) aq))) (cC (.int 9))) aq)))))
 (zp1 K c))
theorem ztd{c:Cls}{ds P E}(h:Ck c ds P E):ds.length=2:=by obtain⟨_,_,rfl,_⟩:=h;rfl
theorem zsn{c:Cls}{ds P E}(h:xq c ds P E):ds.length=2:=by obtain⟨_,_,rfl,_⟩:=h;rfl
theorem z3y{c:Cls}{ds P E}(h:Cm c ds P E):ds.length=2:=by obtain⟨_,_,rfl,_⟩:=h;rfl
theorem z06{c:Cls}{ds P E}(h:Cp c ds P E):ds.length=2:=by obtain⟨_,_,rfl,_⟩:=h;rfl
abbrev fin(Q:D ->Prop):j6:={nx:=fun _=>Q .non,rt:=Q}
theorem zs8{K:W.Frag}{c:Cls}{ds Q Ex}(h:Ck c ds Q Ex):zjp K c (fin Q) (aG 3 ds) fun _=>Ex:=by
 obtain⟨i,j,rfl,h⟩:=h;refine⟨fun m Γ=>∃a b r,Γ= [.pu (.int a),.pu (.int b),r]/\m=b.natAbs/\Int.gcd a b=Int.gcd i j,⟨_,i,j,.no,rfl,rfl,rfl⟩,?_⟩;rintro m _ ⟨a,b,r,rfl,rfl,hg⟩;refine⟨rfl,?_⟩;by_cases hb:b=0
 ·subst hb;have:(!bV (.int 0) (.int 0))=false:=by simp [bV]
  rw[this];show Q (.int (if a<0 then -a else a));have e:(if a<0 then -a else a)=((Int.gcd i j:Nat):Int):=by
   rw[<- hg,Int.gcd_zero_right];split<;>omega
  rw[e];exact h
 ·have:(!bV (.int b) (.int 0))=true:=by simp [bV,hb]
  rw[this];exact⟨hb,_,Te hb,b,a.fmod b,.pu (.int (a.fmod b)),rfl,rfl,by rw[zqo,hg]⟩
theorem zmn{i j:Int}(hj:j≠0):dv i j≠0/\∀n,bA i<=n ->bA j<=n ->bA (dv i j)<=n:=by
 refine⟨GX hj,fun n h1 h2=>zP (qU ?_) h2⟩;obtain⟨k,e⟩:=zv3 i j;have h:=congrArg Int.natAbs e;rw[Int.natAbs_mul] at h;rw[h];have:k≠0:=fun z=>hj (by rw[e,z,Int.mul_zero])
 exact Nat.le_mul_of_pos_right _ (by omega)
theorem zsj{K:W.Frag}{c:Cls}{ds Q Ex}(h:xq c ds Q Ex):zi4 K c (fin Q) (aG 3 ds) fun _=>Ex:=by
 obtain⟨i,j,rfl,b1,b2,h⟩:=h;refine⟨rfl,?_⟩;by_cases hj:j=0
 ·subst hj;have:bV (.int 0) (.int 0)=true:=by simp [bV]
  rw[this];exact⟨by decide,h⟩
 ·have:bV (.int j) (.int 0)=false:=by simp [bV,hj]
  rw[this];rw[if_neg hj,<- z3e hj] at h;refine⟨i,j,rfl,?_⟩;obtain⟨d0,d1⟩:=zmn (i:=i) hj;show if decide (j<0)=true then _ else _;by_cases hn:j<0
  ·rw[if_pos (by simpa using hn)]
   have e:dv i j= -((Int.gcd i j:Nat):Int):=by unfold dv;rw[if_pos hn]
   exact⟨⟨by rw[<- e];exact d0,by rw[<- e];exact d1 _ b1 b2⟩,⟨by rw[<- e];exact d0,by rw[<- e];exact d1 _ b1 b2⟩,by show(2:Nat)<=sizeLine;decide,by rw[<- e];exact h⟩
  ·rw[if_neg (by simpa using hn)]
   have e:dv i j=((Int.gcd i j:Nat):Int):=by unfold dv;rw[if_neg hn]
   exact⟨⟨by rw[<- e];exact d0,by rw[<- e];exact d1 _ b1 b2⟩,⟨by rw[<- e];exact d0,by rw[<- e];exact d1 _ b1 b2⟩,by show(2:Nat)<=sizeLine;decide,by rw[<- e];exact h⟩
theorem at0{x y:D}:jl [x,y] 0=some x:=uQ (j:=0) rfl
theorem at1{x y:D}:jl [x,y] 1=some y:=uQ (j:=1) rfl
theorem Ag{i j:Int}(h1:bA i<=4000)(h2:bA j<=4000):pL i j:= .inr (.inr (by omega))
theorem Ah{i j:Int}(h1:bA i<=4000)(h2:bA j<=4000):bA (i*j)<=8000:=by have:=wD i j;omega
theorem Uh{i j:Int}(h1:bA i<=8000)(h2:bA j<=8000):bA (i+j)<=9000:=by have:=Ph i j;omega
theorem up9{i:Int}(h1:bA i<=8000):bA i<=9000:=by omega
theorem z4t{K:W.Frag}{c:Cls}{ds Q Ex}(h:Cm c ds Q Ex):zwq K c (fin Q) (aG 2 ds) fun _=>Ex:=by
 obtain⟨a,b,rfl,⟨a1,a2⟩,⟨b1,b2⟩,h⟩:=h;refine⟨_,at0,_,at1,Ag a1 b2,_,at0,_,at1,Ag b1 a2,_,at1,_,at1,Ag a2 b2,_,_,rfl,Uh (Ah a1 b2) (Ah b1 a2),up9 (Ah a2 b2),?_⟩;rw[if_neg (zj7 a b),<- z3v];exact h
theorem z1d{K:W.Frag}{c:Cls}{ds Q Ex}(h:Cp c ds Q Ex):zro K c (fin Q) (aG 2 ds) fun _=>Ex:=by
 obtain⟨a,b,rfl,hz,h⟩:=h;have k1:=wD a.num b.den;have k2:=wD b.num a.den;have k3:=wD (a.den:Int) b.den;have k4:=Xh (a.num*b.den) (b.num*a.den);have m1:bA a.num+bA (b.den:Int)<=8900:=by rcases hz with ⟨h1,h2⟩ | ⟨h1,h2⟩<;>(have:=h1.1;have:=h2.2;omega)
 have m2:bA b.num+bA (a.den:Int)<=8900:=by rcases hz with ⟨h1,h2⟩ | ⟨h1,h2⟩<;>(have:=h1.2;have:=h2.1;omega)
 have m3:bA (a.den:Int)+bA (b.den:Int)<=8900:=by rcases hz with ⟨h1,h2⟩ | ⟨h1,h2⟩<;>(have:=h1.2;have:=h2.2;omega)
 refine⟨_,at0,_,at1,.inr (.inr (by omega)),_,at0,_,at1,.inr (.inr (by omega)),_,at1,_,at1,.inr (.inr (by omega)),_,_,rfl,by omega,by omega,?_⟩
 rw[if_neg (zj7 a b),<- z0f];exact h
theorem zth{n:Nat}(a:List D):gQ (n+1) (.lst a) (.lst []):=by
 simp only [gQ];intro i x y h1 h2;simp at h2
theorem xu:(1000:Nat)<sizeLine:=by decide
theorem Ii{i m:Int}(hm:0<m):0<=i.fmod m/\i.fmod m<m:=by
 rw[Int.fmod_eq_emod_of_nonneg _ (by omega)]
 exact⟨Int.emod_nonneg _ (by omega),Int.emod_lt_of_pos _ hm⟩
theorem CJ(i j:Int):bV (.int i) (.int j)=decide (i=j):=by
 simp only [bV];by_cases h:i=j<;>simp [h]
theorem CK{i:Int}{n:Nat}(h:0<n):∃k:Nat,i.fmod (n:Int)=(k:Int)/\k<n:=by
 have:=Ii (i:=i) (m:=(n:Int)) (by omega)
 exact⟨(i.fmod (n:Int)).toNat,by omega,by omega⟩
theorem zrr{c:Cls}{ds P E}(h:rY c ds P E):ds.length=2:=by obtain⟨_,_,rfl,_⟩:=h;rfl
theorem zxu{c:Cls}{ds P E}(h:Hl c ds P E):ds.length=2:=by obtain⟨_,_,rfl,_⟩:=h;rfl
theorem z6n{c:Cls}{ds P E}(h:KY c ds P E):ds.length=1:=by obtain⟨_,rfl,_⟩:=h;rfl
theorem zrs{K:W.Frag}{c:Cls}{ds Q Ex}(h:rY c ds Q Ex):zh4 K c (fin Q) (aG 3 ds) fun _=>Ex:=by
 obtain⟨ns,k,rfl,hl,hk,h⟩:=h;show if decide ((k:Int)< ((ns.map D.int).length:Int))=true then _ else _;rw[List.length_map];by_cases hlt:k<ns.length
 ·rw[if_pos (by simpa using hlt)]
  refine⟨.int ns[k],uQ (by simp [hlt]),?_⟩
  unfold iC at h;rw[dif_pos hlt] at h;exact h
 ·rw[if_neg (by simpa using hlt)]
  unfold iC at h;rw[dif_neg hlt] at h;have bk:bA (k:Int)<=10:=iM (by simp only [Int.natAbs_natCast];omega)
  refine⟨.inr (.inl (iM (by decide))),?_⟩
  show if decide ((0:Int)< ((ns.map D.int).length:Int))=true then _ else _;rw[List.length_map];have fin2:∀m:Int,m.natAbs<2^40 ->Q (.int ((m*m).fmod 2147483629)) ->pL m m/\ (2147483629:Int)≠0/\Q (.int ((m*m).fmod 2147483629)):=fun m hm hq=>
   ⟨.inl (zP (iM hm) (by decide)),by decide,hq⟩
  by_cases he:ns= []
  ·subst he;rw[if_neg (by simp)]
   rw[if_pos rfl] at h;exact fin2 _ (by omega) h
  ·have hp:0<ns.length:=(by cases ns with | nil=>exact absurd rfl he | cons _ _=>exact Nat.succ_pos _)
   rw[if_pos (by simpa using hp)]
   rw[if_neg he] at h;refine⟨.inr (.inl (iM (by decide))),show((ns.map D.int).length:Int)≠0 by rw[List.length_map];omega,?_⟩
   have hm:((k:Int)*7).fmod ((ns.map D.int).length:Int)=((k*7 % ns.length:Nat):Int):=by
    rw[List.length_map,Int.fmod_eq_emod_of_nonneg _ (by omega),Int.natCast_emod,Int.natCast_mul]
    rfl
   and_intros
   rw[hm];have hlt2:k*7 % ns.length<ns.length:=Nat.mod_lt _ hp;refine⟨.int (ns.getD (k*7 % ns.length) 0),uQ (by simp [List.getElem?_map,List.getD_eq_getElem?_getD,hlt2]),?_⟩
   refine⟨.inr (.inl (iM (by decide))),.inr (.inl (iM (by decide))),by decide,?_⟩
   refine fin2 _ ?_ h;have h1:=Te (a:=ns.getD (k*7 % ns.length) 0*48271+ (k:Int)*7919) (b:=2147483647) (by decide)
   exact Nat.lt_trans h1 (by decide)
theorem zs2(xs:List D):iR (.tup xs) "tuple" =some true:=by unfold iR wG;show W.kitOne [] _ _=_;decide+kernel
theorem z2q:iR .non "tuple" =some false:=by unfold iR wG;show W.kitOne [] _ _=_;decide+kernel
theorem zv5(i:Int):iR (.int i) "int" =some true/\iR (.int i) "bool" =some false:=⟨by unfold iR wG;show W.kitOne [] _ _=_;decide+kernel,by unfold iR wG;show W.kitOne [] _ _=_;decide+kernel⟩
theorem zyh{K:W.Frag}{c:Cls}{ds Q Ex}(h:Hl c ds Q Ex):CG K c (fin Q) (aG 3 ds) fun _=>Ex:=by
 obtain⟨x,f,rfl,hx,h⟩:=h
 change CG K c (fin Q) [.pu x,.pu (qD f),.no] fun _=>Ex
 unfold CG;rcases hx with rfl | ⟨g,rfl⟩
 ·and_intros
  simp only [z2q];exact h false ⟨fun z=>by(cases z),fun z=>by unfold qD at z;cases z⟩
 ·have e1:(!bV (.int ((0+1+1:Nat):Int)) (.int 2))=false:=by simp [bV]
  have cm:gQ 20 (qD g) (qD f):=by
   unfold qD;simp only [gQ];intro i x y h1 h2
   match i with
   | 0=>simp at h1 h2;subst h1 h2;simp [gQ]
   | 1=>simp at h1 h2;subst h1 h2;simp [gQ]
   | i+2=>simp at h1
  change CG K c (fin Q) [.pu (.tup [.int g.num,.int g.den]),.pu (qD f),.no] fun _=>Ex
  unfold CG
  and_intros
  simp only [zs2,Bool.not_true,Bool.false_eq_true,if_false];refine⟨by simp [gQ],?_⟩
  rw[e1,if_neg (by decide)]
  refine⟨cm,?_⟩;cases hq:bV (.tup [.int g.num,.int g.den]) (qD f) with
  | false=>
   simp only [Bool.not_false,if_true];exact h false ⟨fun z=>by(cases z),fun z=>by rw[show D.tup [.int g.num,.int g.den]=qD g from rfl,z,vH] at hq;cases hq⟩
  | true=>
   simp only [Bool.not_true,Bool.false_eq_true,if_false];refine⟨fun _ Γ=>∃z,Γ= [.pu (.tup [.int g.num,.int g.den]),.pu (qD f),z],⟨_,rfl⟩,?_,?_⟩
   ·rintro i x _ hi ⟨z,rfl⟩;have:∃n,x= .int n:=by
     match i with
     | 0=>simp at hi;exact⟨_,hi.symm⟩
     | 1=>simp at hi;exact⟨_,hi.symm⟩
     | i+2=>simp at hi
    obtain⟨n,rfl⟩:=this;unfold zg6
    and_intros
    simp only [(zv5 n).1,(zv5 n).2,Bool.not_true,Bool.false_eq_true,if_false];exact⟨_,rfl⟩
   ·rintro _ ⟨z,rfl⟩;exact h true ⟨fun _=>Xi _ _ hq,fun _=>rfl⟩
theorem z1k{c:Cls}{ds P E}(h:Cq c ds P E):ds.length=1:=by obtain⟨_,rfl,_⟩:=h;rfl
theorem z07{K:W.Frag}{c:Cls}{ds Q Ex}(h:Cq c ds Q Ex):zqf K c (fin Q) (aG 3 ds) fun _=>Ex:=by
 obtain⟨qs,rfl,s1,s2,h⟩:=h;refine⟨by show(2:Nat)<=sizeLine;decide,fun i Γ=>∃x,Γ= [.pu (.lst (qs.map qD)),.pu (qD (dR (qs.take i))),x],⟨_,rfl⟩,?_,?_⟩
 ·rintro i x _ hi ⟨y,rfl⟩;rw[List.getElem?_map] at hi;cases q:qs[i]? with
  | none=>rw[q] at hi;cases hi
  | some a=>
   rw[q] at hi;cases hi;refine⟨_,_,rfl,s2 i,s1 a (zB q),.pu (qD a),?_⟩;rw[List.take_add_one,q,zpo];simp only [Option.toList_some,dR,Rat.add_zero]
   rfl
 ·rintro _ ⟨y,rfl⟩;have h' :=h;rw[List.length_map,List.take_length];exact h'
theorem Ij{n:Nat}{f:Nat ->D}{i:Nat}(h:i<n):((List.range n).map f)[i]?=some (f i):=by simp [h]
theorem zev{n:Nat}{f:Nat ->D}{i:Nat}(h:i<n):jl ((List.range n).map f) (i:Int)=some (f i):=uQ (Ij h)
theorem zs5{n:Nat}(f g:Nat ->D):iT ((List.range n).map f) ((List.range n).map g)=(List.range n).map fun i=> .tup [f i,g i]:=by
 unfold iT;apply List.ext_getElem
 ·simp
 ·intro i h1 h2;simp
theorem zz8{n:Nat}(f:Nat ->D):uX 0 ((List.range n).map f)=(List.range n).map fun i=> .tup [.int (i:Nat),f i]:=by
 apply List.ext_getElem?;intro i;rw[Q8];by_cases h:i<n
 ·rw[Ij h,Ij h];simp
 ·simp [h]
theorem znk{one:D ->(List D ->Prop) ->Prop}{f g:Nat ->D}:∀{is:List Nat} {P:List D ->Prop},(∀i∈is,∀P:List D ->Prop,P [g i] ->one (f i) P) ->P (is.map g) ->aQ one (is.map f) P
 | [],_,_,h=>h
 | i::is,P,k,h=>k i zY _ (znk (fun y hy=>k y (zX _ hy)) h)
theorem K7{one:D ->(List D ->Prop) ->Prop}{f g:Nat ->D}{n:Nat}{P:List D ->Prop}(k:∀i,i<n ->∀P:List D ->Prop,P [g i] ->one (f i) P)(h:P ((List.range n).map g)):aQ one ((List.range n).map f) P:=
 znk (fun i hi=>k i (List.mem_range.mp hi)) h
theorem Ui{m:Nat}{f g:Nat ->Int}(h:∀j,j<m ->f j=g j):cA m f=cA m g:=by
 unfold cA
 congr 1
 exact List.map_congr_left fun j hj=>by rw[h j (List.mem_range.mp hj)]
theorem zr1{n m:Nat}{a b:Mx}(h:∀i j,i<n ->j<m ->a i j=b i j):ig n m a=ig n m b:=by
 unfold ig
 congr 1
 exact List.map_congr_left fun i hi=>Ui fun j hj=>h i j (List.mem_range.mp hi) hj
theorem zoz{c:Cls}{ds P E}(h:Hq c ds P E):ds.length=1:=by obtain⟨_,_,rfl,_⟩:=h;rfl
theorem zox{c:Cls}{ds P E}(h:Ht c ds P E):ds.length=3:=by obtain⟨_,_,_,_,_,rfl,_⟩:=h;rfl
theorem z51{c:Cls}{ds P E}(h:Hu c ds P E):ds.length=2:=by obtain⟨_,_,_,_,rfl,_⟩:=h;rfl
theorem zvf{c:Cls}{ds P E}(h:Hr c ds P E):ds.length=4:=by obtain⟨_,_,_,_,_,rfl,_⟩:=h;rfl
theorem zut{c:Cls}{ds P E}(h:Hs c ds P E):ds.length=3:=by obtain⟨_,_,_,_,_,rfl,_⟩:=h;rfl
theorem zyi{c:Cls}{ds P E}(h:Hv c ds P E):ds.length=2:=by obtain⟨_,_,⟨rfl,_⟩,_⟩:=h;rfl
theorem zu8{K:W.Frag}{c:Cls}{ds Q Ex}(h:Hr c ds Q Ex):zjn K c (fin Q) (aG 4 ds) fun _=>Ex:=by
 obtain⟨m,k,f,g,p,rfl,hk,p0,bp,bf,bg,h⟩:=h;show aQ _ (iT ((List.range m).map fun j=> .int (f j)) ((List.range m).map fun j=> .int (g j))) _;rw[zs5];refine K7 (g:=fun j=> .int ((g k*f j - f k*g j).fdiv p)) (fun j hj P hP=> ?_) h;have b1:=bg k;have b2:=bf j;have b3:=bf k;have b4:=bg j;exact⟨rfl,rfl,.int (g k),zev hk,.inr (.inr (by omega)),.int (f k),zev hk,.inr (.inr (by omega)),⟨p0,bp⟩,hP⟩
theorem zu6{K:W.Frag}{c:Cls}{ds Q Ex}(h:Hs c ds Q Ex):zjy K c (fin Q) (aG 4 ds) fun _=>Ex:=by
 obtain⟨a,n,m,k,p,rfl,hk,hkm,p0,bp,ba,h⟩:=h;refine⟨cA m (a k),zev hk,?_⟩;show aQ _ (uX 0 ((List.range n).map fun i=>cA m (a i))) _;rw[zz8];refine K7 (g:=fun i=>cA m (rD k p a i)) (fun i hi P hP=> ?_) h;refine⟨rfl,rfl,rfl,?_⟩;rw[CJ];by_cases e:i=k
 ·subst e;rw[decide_eq_true rfl];have:cA m (rD i p a i)=cA m (a i):=Ui fun j _=>if_pos rfl;rw[this] at hP;exact hP
 ·rw[decide_eq_false (by omega)]
  have:cA m (rD k p a i)=cA m fun j=>(a k k*a i j - a i k*a k j).fdiv p:=Ui fun j _=>if_neg e;rw[this] at hP;exact⟨m,k,a i,a k,p,rfl,hkm,p0,bp,fun j=>ba i j hi,fun j=>ba k j hk,hP⟩
theorem z2y{n:Nat}(f:Nat ->D){k s:Nat}(hk:k<n)(hs:s<n):(((List.range n).map f).set k (f s)).set s (f k)=(List.range n).map fun i=>f (jA k s i):=by
 apply List.ext_getElem
 ·simp
 ·intro i h1 h2;simp only [List.getElem_set,List.getElem_map,List.getElem_range];unfold jA;by_cases e1:s=i
  ·subst e1;by_cases e2:k=s
   ·subst e2;simp
   ·rw[if_pos rfl,if_neg (by omega),if_pos rfl]
  ·rw[if_neg e1];by_cases e2:k=i
   ·subst e2;rw[if_pos rfl,if_pos rfl]
   ·rw[if_neg e2,if_neg (by omega),if_neg (by omega)]
theorem ztn{n k:Nat}(h:k<n):qO n (k:Int)=some k:=by
 unfold qO;rw[if_pos (by omega),if_pos (by omega)];simp
theorem zoj{K:W.Frag}{c:Cls}{ds Q Ex}(h:Ht c ds Q Ex):zg2 K c (fin Q) (aG 4 ds) fun _=>Ex:=by
 obtain⟨a,n,m,k,s,rfl,hk,hs,h⟩:=h;refine⟨cA m (a s),zev hs,⟨_,rfl⟩,k,ztn (by simp [hk]),cA m (a k),zev hk,⟨_,rfl⟩,s,ztn (by simp [hs]),?_⟩
 have e:=z2y (fun i=>cA m (a i)) hk hs;show Q (.lst ((((List.range n).map fun i=>cA m (a i)).set k (cA m (a s))).set s (cA m (a k))));rw[e];exact h
theorem z5s{K:W.Frag}{c:Cls}{ds Q Ex}(h:Hu c ds Q Ex):zzz K c (fin Q) (aG 3 ds) fun _=>Ex:=by
 obtain⟨a,n,m,k,rfl,hn,hk,hm,h1,h2⟩:=h;have el:((List.range n).map fun i=>cA m (a i)).length=n:=by simp
 show((-(2^62):Int)<=(k:Int)/\ (k:Int)<2^62/\ (-(2^62):Int)<=((((List.range n).map fun i=>cA m (a i)).length:Nat):Int)/\ ((((List.range n).map fun i=>cA m (a i)).length:Nat):Int)<2^62)/\sY (k:Int) (((((List.range n).map fun i=>cA m (a i)).length:Nat):Int) - (k:Int)).toNat _ _ _ _ _;rw[el,show((n:Int) - (k:Int)).toNat=n - k by omega]
 refine⟨⟨by omega,by omega,by omega,by omega⟩,fun i Γ=>∃y:Slot,Γ= [.pu (ig n m a),.pu (.int k),y]/\∀s,k<=s ->s<k+i ->a s k=0,⟨_,rfl,fun s hs hs' =>by omega⟩,?_,?_⟩
 ·rintro i _ hi ⟨y,rfl,hz⟩;have e0:(k:Int)+ (i:Int)=((k+i:Nat):Int):=by omega
  have hlt:k+i<n:=by omega
  refine⟨cA m (a (k+i)),?_,.int (a (k+i) k),zev hm,rfl,?_⟩
  ·show jl ((List.range n).map fun i=>cA m (a i)) ((k:Int)+ (i:Int))=_;rw[e0];exact zev hlt
  rw[CJ];by_cases ez:a (k+i) k=0
  ·rw[decide_eq_true ez];refine⟨_,rfl,fun s hs hs' => ?_⟩;by_cases es:s=k+i
   ·rw[es];exact ez
   ·exact hz s hs (by omega)
  ·rw[decide_eq_false ez];refine⟨a,n,m,k,k+i,?_,hk,hlt,h1 _ (by omega) hlt ez⟩
   show [ig n m a,.int k,.int ((k:Int)+ (i:Int))]=_;rw[e0]
 ·rintro _ ⟨y,rfl,hz⟩;exact⟨by show(1:Nat)<=sizeLine;decide,h2 fun s hs hs' =>hz s hs (by omega)⟩
theorem zu9(q:Rat):((q.num:Int):Rat)=q* ((q.den:Int):Rat)/\ ((q.den:Int):Rat)≠0:=by
 have hd:((q.den:Int):Rat)≠0:=by
  have:=q.den_pos
  exact_mod_cast (show(q.den:Int)≠0 by omega)
 have e:((q.num:Int):Rat)/ ((q.den:Int):Rat)=q:=by
  have:=Rat.num_divInt_den q;rw[Rat.divInt_eq_div] at this;exact this
 refine⟨?_,hd⟩;rw[Rat.div_def] at e;have:=congrArg (· * ((q.den:Int):Rat)) e;simp only [Rat.mul_assoc,Rat.inv_mul_cancel _ hd,Rat.mul_one] at this;exact this
theorem zqp{μ d:Int}(hμ:0<μ)(hd:0<d):(Int.gcd μ d:Int)≠0/\0<μ*d.fdiv (Int.gcd μ d:Int)/\μ∣μ*d.fdiv (Int.gcd μ d:Int)/\d∣μ*d.fdiv (Int.gcd μ d:Int)/\ (d.fdiv (Int.gcd μ d:Int)).natAbs<=d.natAbs/\ (Int.gcd μ d:Int).natAbs<=d.natAbs:=by
 have g0:Int.gcd μ d≠0:=fun z=>by have:=(Int.gcd_eq_zero_iff.mp z).2;omega
 have gd:(Int.gcd μ d:Int)∣d:=Int.gcd_dvd_right ..;have gm:(Int.gcd μ d:Int)∣μ:=Int.gcd_dvd_left ..;have e:=Aa gd;obtain⟨u,eu⟩:=gm;have gp:(0:Int)< (Int.gcd μ d:Int):=by omega
 generalize (Int.gcd μ d:Int)=g at*;generalize d.fdiv g=t at*;have tp:0<t:=by
  rcases Int.lt_or_le 0 t with h | h
  ·exact h
  ·have:=Int.mul_nonpos_of_nonneg_of_nonpos (by omega:0<=g) h
   omega
 refine⟨by omega,Int.mul_pos hμ tp,⟨t,rfl⟩,⟨u,?_⟩,?_,?_⟩
 ·rw[eu,<- e];ac_rfl
 ·rw[<- e,Int.natAbs_mul];exact Nat.le_mul_of_pos_left _ (by omega)
 ·rw[<- e,Int.natAbs_mul];exact Nat.le_mul_of_pos_right _ (by omega)
theorem zo1{K:W.Frag}{c:Cls}{ds Q Ex}(h:Hq c ds Q Ex):zg9 K c (fin Q) (aG 3 ds) fun _=>Ex:=by
 obtain⟨m,f,rfl,hm,hz,h⟩:=h;refine⟨fun i Γ=>∃(μ:Int) (y:Slot),Γ= [.pu (gD m f),.pu (.int μ),y]/\0<μ/\bA μ<=16*i+1/\∀j,j<i ->j<m ->((f j).den:Int)∣μ,⟨1,_,rfl,by decide,by decide,fun j hj=>by omega⟩,?_,?_⟩
 ·rintro i d _ hi ⟨μ,y,rfl,hμ,bμ,hd⟩;have him:i<m:=by
   have:=(zW.mp hi).1
   simpa using this
  rw[Ij him] at hi;cases hi;have dp:(0:Int)< (f i).den:=by have:=(f i).den_pos;omega
  obtain⟨g0,p1,p2,p3,p4,p5⟩:=zqp hμ dp;have zi:=(hz i him).2;have b4:=zP (qU p4) zi;have b5:=zP (qU p5) zi;have bm:=wD μ ((f i).den.cast (R:=Int) |>.fdiv (Int.gcd μ (f i).den:Int))
  refine⟨_,at1,_,at1,μ,(f i).den,rfl,⟨g0,by omega⟩,.inr (.inr (by omega)),_,_,rfl,p1,by omega,fun j hj hjm=> ?_⟩
  by_cases e:j=i
  ·subst e;exact p3
  ·exact Int.dvd_trans (hd j (by omega) hjm) p2
 ·rintro _ ⟨μ,y,rfl,hμ,bμ,hd⟩;have el:((List.range m).map fun j=>qD (f j)).length=m:=by simp
  rw[el] at bμ hd
  let g:Nat ->Int:=fun j=>if j<m then(f j).num*μ.fdiv ((f j).den:Int) else 0
  have gv:∀j,j<m ->g j=(f j).num*μ.fdiv ((f j).den:Int):=fun j hj=>by show(if j<m then _ else _)=_;rw[if_pos hj]
  have bt:∀j,j<m ->bA (μ.fdiv ((f j).den:Int))<=bA μ:=fun j hj=>by
   refine qU ?_;have e:=congrArg Int.natAbs (Aa (hd j hj hj));rw[Int.natAbs_mul] at e;rw[<- e];exact Nat.le_mul_of_pos_left _ (by have:=(f j).den_pos;omega)
  show aQ _ ((List.range m).map fun j=>qD (f j)) _;refine K7 (g:=fun j=> .int (g j)) (fun j hj P hP=> ?_) (h μ g hμ (fun j hj=> ?_) fun j=> ?_)
  ·have z:=hz j hj;have b:=bt j hj;refine⟨_,at0,_,at1,⟨by have:=(f j).den_pos;omega,by have:=z.2;omega⟩,.inr (.inr (by have:=z.1;omega)),?_⟩
   show P [.int ((f j).num*μ.fdiv ((f j).den:Int))];rw[<- gv j hj];exact hP
  ·rw[gv j hj];have e:=Aa (hd j hj hj);obtain⟨n1,n2⟩:=zu9 (f j);have e' :(μ:Rat)=((f j).den:Int)* (μ.fdiv ((f j).den:Int):Int):=by exact_mod_cast e.symm
   rw[Rat.intCast_mul,n1,e']
   grind
  ·by_cases hj:j<m
   ·rw[gv j hj];have:=wD (f j).num (μ.fdiv ((f j).den:Int));have:=bt j hj;have:=(hz j hj).1;omega
   ·show bA (if j<m then _ else 0)<=_;rw[if_neg hj];exact Nat.zero_le _
theorem zmm{α:Type}[Inhabited α]{one:D ->(List D ->Prop) ->Prop}{f:Nat ->D}(F:Nat ->α ->D)(Good:Nat ->α ->Prop):∀{n s:Nat} {P:List D ->Prop},(∀i,s<=i ->i<s+n ->∀P:List D ->Prop,(∀a,Good i a ->P [F i a]) ->one (f i) P) ->(∀as:Nat ->α,(∀i,s<=i ->i<s+n ->Good i (as i)) ->P ((List.range' s n).map fun i=>F i (as i))) ->aQ one ((List.range' s n).map f) P
 | 0,s,P,_,h=>h (fun _=>default) fun i h1 h2=>by omega
 | n+1,s,P,k,h=>by
  rw[List.range'_succ];refine k s (by omega) (by omega) _ fun a ha=> ?_
  refine zmm F Good (fun i h1 h2=>k i (by omega) (by omega)) fun as has=> ?_
  have:=h (fun i=>if i=s then a else as i) fun i h1 h2=>by
   by_cases e:i=s
   ·subst e;simpa using ha
   ·simp only [if_neg e];exact has i (by omega) (by omega)
  rw[List.range'_succ,List.map_cons,if_pos rfl] at this;have e:(List.range' (s+1) n).map (fun i=>F i (if i=s then a else as i))=(List.range' (s+1) n).map fun i=>F i (as i):=List.map_congr_left fun i hi=>by
   have:=List.mem_range'_1.mp hi;rw[if_neg (by omega)]
  rw[e] at this;exact this
theorem zsa{α:Type}[Inhabited α]{one:D ->(List D ->Prop) ->Prop}{f:Nat ->D}(F:Nat ->α ->D)(Good:Nat ->α ->Prop){n:Nat}{P:List D ->Prop}(k:∀i,i<n ->∀P:List D ->Prop,(∀a,Good i a ->P [F i a]) ->one (f i) P)(h:∀as:Nat ->α,(∀i,i<n ->Good i (as i)) ->P ((List.range n).map fun i=>F i (as i))):aQ one ((List.range n).map f) P:=by
 rw[List.range_eq_range'];refine zmm F Good (fun i _ h2=>k i (by omega)) fun as has=> ?_
 rw[<- List.range_eq_range'];exact h as fun i hi=>has i (by omega) (by omega)
theorem z3l{n:Nat}{f:Nat ->D}:jl ((List.range (n+1)).map f) (-1)=some (f n):=by
 have e:qO ((List.range (n+1)).map f).length (-1)=some n:=by
  rw[List.length_map,List.length_range];unfold qO;rw[if_neg (by decide),if_pos (by omega)]
  congr 1;omega
 unfold jl;rw[e];exact Ij (by omega)
theorem K8{z:Int}{e k:Nat}(h:z.natAbs<=(16*2^e)^k):bA z<=(e+4)*k+1:=by
 refine iM (zM h ?_);rw[show(16:Nat)*2^e=2^ (e+4) by rw[Nat.pow_add,Nat.mul_comm],<- Nat.pow_mul]
 exact Nat.pow_lt_pow_right (by decide) (by omega)
theorem Uj{f g:Nat ->Rat}(t:Rat):∀{m:Nat},(∀j,j<m ->f j=t*g j) ->bF m f=t*bF m g
 | 0,_=>by unfold bF;grind
 | m+1,h=>by unfold bF;rw[Uj t fun j hj=>h j (by omega),h m (by omega)];grind
theorem zyd{K:W.Frag}{c:Cls}{ds Q Ex}(h:Hv c ds Q Ex):zmx K c (fin Q) (aG 5 ds) fun _=>Ex:=by
 obtain⟨n,A,⟨rfl,hn,hz⟩,hE,hP⟩:=h;have s1:=xu;show aQ _ (iT ((List.range n).map fun i=>gD n (A i)) ((List.range n).map fun i=>qD (A i n))) _;rw[zs5];refine zsa (α:=Nat ->Int) (fun _ g=>cA (n+1) g) (fun i g=>(∀j,bA (g j)<=640)/\∃μ:Int,0<μ/\∀j,j<n+1 ->(g j:Rat)=(μ:Rat)*A i j) (fun i hi P hP=> ?_) (fun as has=> ?_)
 ·refine⟨rfl,rfl,by show(1:Nat)<=sizeLine;decide,?_,n+1,A i,?_,by omega,fun j hj=>hz i j hi (by omega),fun μ g h0 h1 h2=>hP g ⟨h2,μ,h0,h1⟩⟩
  ·show((List.range n).map fun j=>qD (A i j)).length+1<=sizeLine;simp only [List.length_map,List.length_range];omega
  ·show [D.lst (((List.range n).map fun j=>qD (A i j))++ [qD (A i n)])]= [gD (n+1) (A i)];unfold gD;rw[List.range_succ,List.map_append];rfl
 change zh8 K c (fin Q) [.pu (um n n A),.pu (gD n fun i=>A i n),.pu (ig n (n+1) as),.no,.no] fun _=>Ex
 have ba:∀k,k<n ->∀j,(as k j).natAbs<=2^640:=fun k hk j=>Nat.le_of_lt (yF ((has k hk).1 j));have hμ:∃μ:Nat ->Rat,∀i,i<n ->μ i≠0/\∀j,j<n+1 ->(as i j:Rat)=μ i*A i j:=by
  refine⟨fun i=>if h:i<n then((has i h).2.choose:Int) else 1,fun i hi=> ?_⟩;simp only [dif_pos hi];have sp:=(has i hi).2.choose_spec;refine⟨?_,fun j hj=>sp.2 j hj⟩;have:=sp.1;intro z;have:(has i hi).2.choose=0:=by exact_mod_cast z
  omega
 obtain⟨μ,hμ⟩:=hμ;have el:((List.range n).map fun i=>cA (n+1) (as i)).length=n:=by simp
 show((-(2^62):Int)<=((((List.range n).map fun i=>cA (n+1) (as i)).length:Nat):Int)/\_)/\sY 0 (Int.toNat ((((List.range n).map fun i=>cA (n+1) (as i)).length:Nat):Int)) _ _ _ _ _;rw[el,Int.toNat_natCast];have mx:∀k,k<=13 ->(640+4)*k+1<=8500:=fun k hk=>by omega
 have h1:1<=16*2^640:=Nat.mul_pos (by decide) (Nat.pow_pos (by decide))
 refine⟨⟨by omega,by omega⟩,fun k Γ=>∃(d:Int) (tb:Mx) (rs:List Row) (fs:Nat ->Row) (ix:Nat ->Nat) (y:Slot),Γ= [.pu (um n n A),.pu (gD n fun i=>A i n),.pu (ig n (n+1) tb),.pu (.int d),y]/\BT n as k d tb rs fs ix,⟨1,as,_,_,_,_,rfl,zzm n as⟩,?_,?_⟩
 ·rintro k _ hk ⟨d,tb,rs,fs,ix,y,rfl,bt⟩;have e0:(0+ (k:Int))=((k:Nat):Int):=by omega
  have bd:bA d<=8500:=zP (K8 (bt.lead (N:=16) ba (by omega))) (mx k (by omega))
  have be:∀i j,i<n ->bA (tb i j)<=8500:=fun i j hi=>zP (K8 (bt.small (N:=16) ba (by omega) h1 hi j)) (mx (k+1) (by omega))
  refine⟨tb,n,n+1,k,?_,by omega,hk,by omega,fun s hs hsn hne=> ?_,fun hall=> ?_⟩
  ·show [ig n (n+1) tb,.int (0+ (k:Int))]=_;rw[e0]
  ·obtain⟨rs',fs',Ad,bt'⟩:=bt.step hs hsn hne;have sk:jA k s k=s:=by unfold jA;rw[if_pos rfl]
   have et:ig n (n+1) (rD k d (Ho k s tb))=ig n (n+1) (nextT k s d tb):=zr1 fun i j _ _=>by
    unfold rD Ho nextT;rw[sk]
   refine⟨Ho k s tb,n,n+1,k,d,?_,hk,by omega,bt.nz,zP bd (by decide),fun i j hi=>zP (be (jA k s i) j ?_) (by decide),?_⟩
   ·show [_,D.int (0+ (k:Int)),_]=_;rw[e0]
   ·unfold jA;split
    ·exact hsn
    ·split<;>omega
   ·rw[et];refine⟨cA (n+1) (nextT k s d tb k),?_,.int (nextT k s d tb k k),?_,tb s k,nextT k s d tb,rs',fs',Ad,.pu (.int (0+ (k:Int))),?_,bt'⟩
    ·show jl ((List.range n).map fun i=>cA (n+1) (nextT k s d tb i)) (0+ (k:Int))=_;rw[e0];exact zev hk
    ·show jl ((List.range (n+1)).map fun j=>D.int (nextT k s d tb k j)) (0+ (k:Int))=_;rw[e0];exact zev (by omega)
    ·have:nextT k s d tb k k=tb s k:=by unfold nextT;rw[if_pos rfl]
     rw[this];rfl
  ·obtain⟨x,x1,hx⟩:=bt.stuck hk hall;refine hE x k hk x1 fun r hr=> ?_;have q:=hx r hr;rw[Uj (g:=fun j=>A r j*x j) (μ r) fun j hj=>by
    show(as r j:Rat)*x j=_;rw[(hμ r hr).2 j (by omega)];grind] at q
   rcases Rat.mul_eq_zero.mp q with q | q
   ·exact absurd q (hμ r hr).1
   ·exact q
 ·rintro _ ⟨d,tb,rs,fs,ix,y,rfl,bt⟩;have d0:(d:Rat)≠0:=fun z=>bt.nz (by exact_mod_cast z)
  have bd:bA d<=8500:=zP (K8 (bt.lead (N:=16) ba (by omega))) (mx n (by omega))
  have be:∀i j,i<n ->bA (tb i j)<=8500:=fun i j hi=>zP (K8 (bt.small (N:=16) ba (by omega) h1 hi j)) (mx (n+1) (by omega))
  have ex:∀i,i<n ->fs i n=(tb i n:Rat)/ (d:Rat):=fun i hi=>by
   rw[bt.t i hi n,Rat.div_def,Rat.mul_comm,<- Rat.mul_assoc,Rat.inv_mul_cancel _ d0,Rat.one_mul]
  have hs:Slv n A fun i=>fs i n:=fun r hr=>by
   have q:=bt.sol hr n;have q' :(as r n:Rat)=bF n fun c=>(as r c:Rat)*fs c n:=q;rw[Uj (g:=fun j=>A r j*fs j n) (μ r) fun j hj=>by rw[(hμ r hr).2 j (by omega)];grind,(hμ r hr).2 n (by omega)] at q'
   have m0:=(hμ r hr).1;have:=congrArg (fun z=>(μ r)⁻¹*z) q';simp only [<- Rat.mul_assoc,Rat.inv_mul_cancel _ m0,Rat.one_mul] at this;exact this
  show aQ _ (uX 0 ((List.range n).map fun i=>cA (n+1) (tb i))) _;rw[zz8];refine K7 (g:=fun i=>qD (fs i n)) (fun i hi P hp=> ?_) (hP _ hs fun i hi=>by rw[ex i hi];exact z35 bt.nz (be i n hi) bd)
  refine⟨rfl,rfl,.int (tb i n),z3l,.int (tb i i),zev (by omega),tb i n,tb i i,rfl,zP (be i n hi) (by decide),zP (be i i hi) (by decide),?_⟩
  rw[bt.diag hi hi,if_neg bt.nz,<- ex i hi];exact hp
abbrev ur(Q:T ->Prop):j6:={nx:=fun _=>False,rt:=fun _=>False,rT:=Q}
theorem zt2(x y:Str):bV (.str x) (.str y)=decide (x=y):=by
 simp only [bV];by_cases h:x=y<;>simp [h]
theorem CN{x:Str}:∀{g:List Str},inD (.str x) (g.map .str)=decide (x∈g)
 | []=>by simp [inD]
 | y::g=>by
  have ih:=CN (x:=x) (g:=g);unfold inD at ih⊢;rw[List.map_cons,List.any_cons,ih];by_cases h:y=x
  ·subst h;simp [J5]
  ·have h' :¬x=y:=fun z=>h z.symm;simp [J5,h,h']
theorem Ik(g:List Str):(g.map D.str).all tL=true:=by
 rw[List.all_map];exact List.all_eq_true.mpr fun _ _=>rfl
theorem zjs{α:Type}(f:α ->Bool):∀l:List α,oH (l.map fun x=> .bl (f x))=some (l.map f)
 | []=>rfl
 | a::l=>by simp [oH,zjs f l]
theorem vR{α:Type}{one:D ->(List D ->Prop) ->Prop}(f:α ->D)(g:α ->D):∀{l:List α} {P:List D ->Prop},(∀a∈l,∀P,P [g a] ->one (f a) P) ->P (l.map g) ->aQ one (l.map f) P
 | [],_,_,h=>h
 | a::l,P,k,h=>k a zY _ (vR f g (fun b hb=>k b (zX _ hb)) h)
theorem vU{α:Type}{one:D ->(List D ->Prop) ->Prop}(f g:α ->D)(p:α ->Bool):∀{l:List α} {P:List D ->Prop},(∀a∈l,∀P,P (if p a=true then [g a] else []) ->one (f a) P) ->P ((l.filter p).map g) ->aQ one (l.map f) P
 | [],_,_,h=>h
 | a::l,P,k,h=>k a zY _ (vU f g p (fun b hb=>k b (zX _ hb)) (by
   rw[List.filter_cons] at h;by_cases q:p a=true
   ·rw[if_pos q] at h⊢;exact h
   ·rw[if_neg q] at h⊢;exact h))
theorem z4v{K:W.Frag}{c:Cls}{ds Q Ex}(h:Cu c ds Q Ex):zw3 K c (fin Q) (aG 2 ds) fun _=>Ex:=by
 obtain⟨g,hs,rfl,h⟩:=h;show aQ _ (hs.map D.str) _;refine vR D.str (fun x=> .bl (decide (x∈g))) (fun x hx P hp=> ?_) ?_
 ·refine⟨rfl,Ik g,?_⟩;show P [.bl (if false then _ else inD (.str x) (g.map .str))];rw[CN];exact hp
 ·refine⟨_,zjs _ hs,?_⟩;have e:(hs.map fun x=>decide (x∈g)).any id=aF g hs:=by rw[List.any_map];rfl
  rw[e];exact h
def jf(hs:List Str)(h:Str):List Str:=if h∈hs then hs else hs++ [h]
theorem zym{hs:List Str}{h x:Str}:x∈jf hs h↔x∈hs\/x=h:=by
 unfold jf;split
 ·exact⟨.inl,fun q=>by rcases q with q | rfl;exact q;assumption⟩
 ·rw[List.mem_append,List.mem_singleton]
theorem zry{hs:List Str}{h:Str}(nd:hs.Nodup):(jf hs h).Nodup:=by
 unfold jf;split
 ·exact nd
 ·rename_i q;rw[List.nodup_append];exact⟨nd,by simp,fun a ha b hb e=>q (by rw[List.mem_singleton.mp hb] at e;exact e ▸ ha)⟩
theorem zzg{hs:List Str}{h:Str}:(jf hs h).length<=hs.length+1:=by
 unfold jf;split
 ·omega
 ·simp
theorem qJ{α β:Type}{x:β}{l:List β}:(Sum.inr x:Sum α β)∈l.map Sum.inr↔x∈l:=by
 rw[List.mem_map];exact⟨fun⟨y,h,e⟩=>by injection e with e;exact e ▸ h,fun h=>⟨x,h,rfl⟩⟩
theorem Ai{hs:List Str}{h:Str}:je (hs.map .inr) (.inr h)=decide (h∈hs):=by
 by_cases q:h∈hs
 ·rw[decide_eq_true q];exact kO.mpr (qJ.mpr q)
 ·rw[decide_eq_false q];cases z:je (hs.map Sum.inr) (Sum.inr h:Key) with
  | false=>rfl
  | true=>exact absurd (qJ.mp (kO.mp z)) q
theorem zny{hs:List Str}{h:Str}:eV (hs.map .inr) (.inr h)=(jf hs h).map .inr:=by
 unfold eV jf;rw[Ai];by_cases q:h∈hs
 ·rw[decide_eq_true q,if_pos rfl,if_pos q]
 ·rw[decide_eq_false q,if_neg (by decide),if_neg q,List.map_append];rfl
theorem zvg{hs:List Str}{xs:List D}{h:Str}{d:D}(e:hs.length=xs.length):(jf hs h).length=(cP (hs.map .inr) xs (.inr h) d).length:=by
 unfold cP jf;rw[Ai];by_cases q:h∈hs
 ·rw[decide_eq_true q,if_pos rfl,if_pos q,List.length_zipWith,List.length_map,e,Nat.min_self]
 ·rw[decide_eq_false q,if_neg q,if_neg Bool.false_ne_true];simp [e]
structure CP (rows:List Rw) (n:Nat) (ws:List Str) (ps:List (List Str×List D)):Prop where
 len:ws.length=ps.length
 nd:ws.Nodup
 lw:ws.length<=n
 pt:∀(q:Nat) w p,ws[q]?=some w ->ps[q]?=some p ->p.1.length=p.2.length/\p.1.Nodup/\p.1.length<=rows.length/\∀h,h∈p.1↔h∈fO rows w
 ex:Uq rows ->∀(q:Nat) w p,ws[q]?=some w ->ps[q]?=some p ->p=(kW rows w,(cF rows w).map fun r=> .int r.2.2)
theorem Uk{rows:List Rw}{r:Rw}{w:Str}:cF (rows++ [r]) w=cF rows w++ (if r.1=w then [r] else []):=by
 unfold cF;rw[List.filter_append]
 congr 1
 by_cases q:r.1=w<;>simp [q]
theorem zs1{rows:List Rw}{r:Rw}{w:Str}:kW (rows++ [r]) w=kW rows w++ (if r.1=w then [r.2.1] else []):=by
 unfold kW;rw[Uk,List.map_append]
 congr 1
 by_cases q:r.1=w<;>simp [q]
theorem zyb{rows:List Rw}{w:Str}(h:¬∃r∈rows,r.1=w):cF rows w= []:=by
 unfold cF;exact List.filter_eq_nil_iff.mpr fun r hr z=>h ⟨r,hr,of_decide_eq_true z⟩
theorem zob{rows:List Rw}{r:Rw}{w:Str}:fO (rows++ [r]) w=fO rows w++ (if r.1=w then [r.2.1] else []):=by
 unfold fO;rw[List.filter_append,List.map_append]
 congr 1
 by_cases q:r.1=w<;>simp [q]
theorem aW{rows:List Rw}{w h:Str}:h∈fO rows w↔∃r∈rows,r.1=w/\r.2.1=h:=by
 unfold fO;rw[List.mem_map];constructor
 ·rintro⟨r,hr,e⟩;obtain⟨h1,h2⟩:=zF.mp hr;exact⟨r,h1,of_decide_eq_true h2,e⟩
 ·rintro⟨r,h1,h2,e⟩;exact⟨r,zF.mpr ⟨h1,decide_eq_true h2⟩,e⟩
theorem CP.new{rows:List Rw}{ws:List Str}{ps:List (List Str×List D)}{w:Str}(B:Af rows ws ps)(hw:w∉ws):CP rows (rows.length+1) (ws++ [w]) (ps++ [([],[])]):=by
 refine⟨by simp [B.len],?_,by simpa using B.lw,fun q v p h1 h2=> ?_,fun u q v p h1 h2=> ?_⟩
 ·rw[List.nodup_append];exact⟨B.nd,by simp,fun a ha b hb e=>hw (by rw[List.mem_singleton.mp hb] at e;exact e ▸ ha)⟩
 ·by_cases hq:q<ws.length
  ·rw[List.getElem?_append_left hq] at h1;rw[List.getElem?_append_left (by rw[<- B.len];exact hq)] at h2
   exact B.pt q v p h1 h2
  ·have hl:q< (ws++ [w]).length:=(zW.mp h1).1;rw[List.length_append,List.length_singleton] at hl;have hq' :q=ws.length:=by omega
   subst hq';rw[List.getElem?_append_right (Nat.le_refl _)] at h1;rw[List.getElem?_append_right (by rw[B.len];exact Nat.le_refl _)] at h2
   simp at h1;simp [B.len] at h2;subst h1 h2;refine⟨rfl,by simp,Nat.zero_le _,fun h=>⟨fun z=>by(cases z),fun z=> ?_⟩⟩
   obtain⟨r,hr,e,_⟩:=aW.mp z;exact absurd ((B.wm w).mpr ⟨r,hr,e⟩) hw
 ·by_cases hq:q<ws.length
  ·rw[List.getElem?_append_left hq] at h1;rw[List.getElem?_append_left (by rw[<- B.len];exact hq)] at h2
   exact B.ex u q v p h1 h2
  ·have hl:q< (ws++ [w]).length:=(zW.mp h1).1;rw[List.length_append,List.length_singleton] at hl;have hq' :q=ws.length:=by omega
   subst hq';rw[List.getElem?_append_right (Nat.le_refl _)] at h1;rw[List.getElem?_append_right (by rw[B.len];exact Nat.le_refl _)] at h2
   simp at h1;simp [B.len] at h2;subst h1 h2;have:=zyb (rows:=rows) (w:=w) fun⟨r,hr,e⟩=>hw ((B.wm w).mpr ⟨r,hr,e⟩);unfold kW;rw[this];rfl
theorem K9{ws:List Str}(nd:ws.Nodup){i j:Nat}(hi:i<ws.length)(hj:j<ws.length)(e:ws[i]=ws[j]):i=j:=by
 have key:=List.pairwise_iff_getElem.mp nd;rcases Nat.lt_trichotomy i j with q | q | q
 ·exact absurd e (key i j hi hj q)
 ·exact q
 ·exact absurd e.symm (key j i hj hi q)
theorem CP.put{rows:List Rw}{ws:List Str}{ps:List (List Str×List D)}{r:Rw}{q:Nat}{p:List Str×List D}(B:CP rows (rows.length+1) ws ps)(wm:∀v,v∈ws↔ (∃r∈rows,r.1=v)\/v=r.1)(h1:ws[q]?=some r.1)(h2:ps[q]?=some p)(d:D)(hd:d= .int r.2.2):
  Af (rows++ [r]) ws (ps.set q (jf p.1 r.2.1,cP (p.1.map .inr) p.2 (.inr r.2.1) d)):=by
 obtain⟨b1,b2,b3,b4⟩:=B.pt q r.1 p h1 h2;have hq:q<ps.length:=(zW.mp h2).1;refine⟨by rw[List.length_set];exact B.len,B.nd,by simpa using B.lw,fun v=> ?_,fun q' v p' e1 e2=> ?_,fun u q' v p' e1 e2=> ?_⟩
 ·rw[wm v];constructor
  ·rintro(⟨r',h,e⟩ | e)
   ·exact⟨r',zQ _ h,e⟩
   ·exact⟨r,by simp,e.symm⟩
  ·rintro⟨r',h,e⟩;rcases zU.mp h with h | h
   ·exact .inl ⟨r',h,e⟩
   ·rw[List.mem_singleton.mp h] at e;exact .inr e.symm
 ·by_cases sZ:q=q'
  ·subst sZ;rw[h1] at e1;cases e1;rw[List.getElem?_set_self hq] at e2;cases e2;refine⟨zvg b1,zry b2,zP zzg (by simpa using b3),fun h=> ?_⟩
   show h∈jf p.1 r.2.1↔_;rw[zym,zob,if_pos rfl,List.mem_append,b4 h,List.mem_singleton]
  ·rw[List.getElem?_set_ne sZ] at e2;obtain⟨c1,c2,c3,c4⟩:=B.pt q' v p' e1 e2;have hv:¬r.1=v:=fun z=>by
    have l1:=(zW.mp h1);have l2:=(zW.mp e1);obtain⟨l1,l1'⟩:=l1;obtain⟨l2,Ul⟩:=l2;exact sZ (K9 B.nd l1 l2 (by rw[l1',Ul,z]))
   refine⟨c1,c2,by simpa using Nat.le_succ_of_le c3,fun h=> ?_⟩
   rw[c4 h,zob,if_neg hv,List.append_nil]
 ·have u0:Uq rows:=(List.pairwise_append.mp u).1;by_cases sZ:q=q'
  ·subst sZ;rw[h1] at e1;cases e1;rw[List.getElem?_set_self hq] at e2;cases e2;have ep:=B.ex u0 q r.1 p h1 h2;have hn:r.2.1∉p.1:=fun z=>by
    rw[ep] at z;obtain⟨r',hr',g1,g2⟩:=fJ.mp z;exact(List.pairwise_append.mp u).2.2 r' hr' r (by simp) ⟨g1,g2⟩
   rw[zs1,Uk,if_pos rfl,if_pos rfl];unfold jf cP;rw[if_neg hn,Ai,decide_eq_false hn,if_neg Bool.false_ne_true,ep,hd,List.map_append]
   rfl
  ·rw[List.getElem?_set_ne sZ] at e2;have hv:¬r.1=v:=fun z=>by
    have l1:=(zW.mp h1);have l2:=(zW.mp e1);obtain⟨l1,l1'⟩:=l1;obtain⟨l2,Ul⟩:=l2;exact sZ (K9 B.nd l1 l2 (by rw[l1',Ul,z]))
   rw[zs1,Uk,if_neg hv,if_neg hv,List.append_nil,List.append_nil];exact B.ex u0 q' v p' e1 e2
theorem zlf{ws:List Str}(nd:ws.Nodup):(ws.map (Sum.inr:Str ->Key)).Nodup:=by
 unfold List.Nodup;rw[List.pairwise_map];exact nd.imp fun h z=>h (by injection z)
theorem zwt{K:W.Frag}{c:Cls}{ds Q Ex}(h:Cr c ds Q Ex):zj1 K c (ur Q) (aG 5 ds) fun _=>Ex:=by
 obtain⟨rows,rfl,hl,h⟩:=h;have s1:=xu;intro as;refine⟨fun i Γ=>∃as ws ps x y z,Af (rows.take i) ws ps/\Γ= [.pu (aM rows),.tr as (.dic (ws.map .inr) (ps.map qI)),x,y,z],?_,?_,?_⟩
 ·exact⟨as,[],[],_,_,_,⟨rfl,by simp,by simp,fun w=>⟨fun z=>by(cases z),fun⟨r,hr,_⟩=>by(simp at hr)⟩,fun q w p e=>(by simp at e),fun _ q w p e=>by simp at e⟩,rfl⟩
 ·rintro i d _ hi ⟨as,ws,ps,x,y,z,B,rfl⟩;have hi' :i<rows.length:=by
   have:=(zW.mp hi).1
   rwa [List.length_map] at this
  rw[List.getElem?_map,List.getElem?_eq_getElem hi'] at hi;cases hi;have tk:rows.take (i+1)=rows.take i++ [rows[i]]:=by rw[List.take_add_one,List.getElem?_eq_getElem hi'];rfl
  have hlt:(rows.take i).length=i:=by rw[List.length_take];omega
  have fin:∀as ws ps,CP (rows.take i) ((rows.take i).length+1) ws ps ->(∀v,v∈ws↔ (∃r∈rows.take i,r.1=v)\/v=rows[i].1) ->
    zdy K c {nx:=fun Γ=>∃as ws ps x y z,Af (rows.take (i+1)) ws ps/\Γ= [.pu (aM rows),.tr as (.dic (ws.map .inr) (ps.map qI)),x,y,z],ct:=fun Γ=>∃as ws ps x y z,Af (rows.take (i+1)) ws ps/\Γ= [.pu (aM rows),.tr as (.dic (ws.map .inr) (ps.map qI)),x,y,z],bk:=fun Γ=>zg5 K c (ur Q) Γ fun _=>Ex,rt:=fun _=>False,rT:=Q}
     [.pu (aM rows),.tr as (.dic (ws.map .inr) (ps.map qI)),.pu (.str rows[i].1),.pu (.str rows[i].2.1),.pu (.int rows[i].2.2)] fun _=>Ex:=by
   intro as ws ps B wm;have hm:rows[i].1∈ws:=(wm _).mpr (.inr rfl);obtain⟨q,hq,eq⟩:=List.mem_iff_getElem.mp hm;have hq2:q<ps.length:=by rw[<- B.len];exact hq
   have e1:ws[q]?=some rows[i].1:=by rw[List.getElem?_eq_getElem hq,eq]
   have e2:ps[q]?=some ps[q]:=zZ hq2;obtain⟨b1,b2,b3,b4⟩:=B.pt q _ _ e1 e2;have BW:=B.put wm e1 e2 (.int rows[i].2.2) rfl;rw[<- tk] at BW;refine⟨.inr rows[i].1,.inr rows[i].2.1,as,ws.map .inr,ps.map qI,q,ps[q].1.map .inr,ps[q].2,rfl,rfl,rfl,zlf B.nd,by rw[List.getElem?_map,e1];rfl,by rw[List.getElem?_map,e2];rfl,by rw[List.length_map];omega,?_⟩
   refine⟨as,ws,_,.pu (.str rows[i].1),.pu (.str rows[i].2.1),.pu (.int rows[i].2.2),BW,?_⟩;rw[zny,List.map_set]
   rfl
  refine⟨rfl,rfl,.inr rows[i].1,as,ws.map .inr,ps.map qI,rfl,rfl,?_⟩;rw[Ai];by_cases hw:rows[i].1∈ws
  ·rw[decide_eq_true hw];refine fin as ws ps ⟨B.len,B.nd,Nat.le_succ_of_le B.lw,B.pt,B.ex⟩ fun v=> ?_;rw[B.wm v];exact⟨.inl,fun z=>by rcases z with z | rfl;exact z;exact(B.wm _).mp hw⟩
  ·rw[decide_eq_false hw];refine⟨.inr rows[i].1,as,ws.map .inr,ps.map qI,rfl,rfl,by rw[Ai,decide_eq_false hw],by rw[List.length_map];have:=B.lw;omega,fun cs=> ?_⟩
   have:=fin (as++cs) (ws++ [rows[i].1]) (ps++ [([],[])]) (CP.new B hw) fun v=>by
    rw[List.mem_append,B.wm v,List.mem_singleton]
   rw[List.map_append,List.map_append] at this;exact this
 ·rintro _ ⟨as,ws,ps,x,y,z,B,rfl⟩;have e:rows.take (rows.map jL).length=rows:=by rw[List.length_map,List.take_length]
  rw[e] at B;exact h ws ps B
theorem znr:∀xs:List Str,kY (xs.map .str)=some xs
 | []=>rfl
 | x::xs=>by rw[List.map_cons];unfold kY;rw[znr xs];rfl
theorem z1o{xs U:List Str}(h:∀x∈xs,x∈U):(jz xs).length<=U.length:=Ab (Zz xs) fun x hx=>h x (oN.mp hx)
theorem zwb{xs U:List Str}{P:List D ->Prop}(h1:xs.length<4095)(h2:U.length<60)(h3:∀x∈xs,x∈U)(h:∀ms:List Str,ms.Pairwise (fun a b=>fZ a b=true) ->(∀i,i∈ms↔i∈xs) ->P (ms.map .str)):BX [gl xs] P:=
 ⟨xs,znr xs,h1,zM (z1o h3) (by omega),h⟩
theorem La{p:List Str ->Bool}:∀fs:List (List Str),(fs.filter p).flatten.length<=fs.flatten.length
 | []=>by simp
 | f::fs=>by
  have:=La (p:=p) fs;rw[List.filter_cons];split<;>simp only [List.flatten_cons,List.length_append]<;>omega
theorem zg1(fs:List (List Str))(i:Nat):(fs.take i).flatten.length<=fs.flatten.length:=by
 conv=>rhs;rw[<- List.take_append_drop i fs,List.flatten_append,List.length_append]
 omega
theorem zzi{K:W.Frag}{c:Cls}{ds Q Ex}(h:Hw c ds Q Ex):znt K c (fin Q) (aG 5 ds) fun _=>Ex:=by
 obtain⟨fs,hs,U,rfl,hl,hfl,hU,u1,u2,h⟩:=h;have line:(8000:Nat)<=sizeLine:=by decide
 show aQ _ (fs.map gl) _;refine vU gl gl (fun f=> !aF f hs) (fun f hf P hp=> ?_) ?_
 ·refine⟨f,hs,rfl,?_⟩;show if (!aF f hs)=true then P [gl f] else P [];by_cases q:(!aF f hs)=true
  ·rw[if_pos q] at hp⊢;exact hp
  ·rw[if_neg q] at hp⊢;exact hp
 ·refine⟨fun i Γ=>∃x,Γ= [.pu (.lst (fs.map gl)),.pu (gl hs),.pu (.lst ((fs.filter fun f=> !aF f hs).map gl)),.ow ((hs++ ((fs.take i).filter fun f=>aF f hs).flatten).map .str),x],⟨.no,by simp [gl];rfl⟩,?_,?_⟩
  ·rintro i d _ hi ⟨x,rfl⟩;have hi' :i<fs.length:=by
    have:=(zW.mp hi).1
    rwa [List.length_map] at this
   rw[List.getElem?_map,List.getElem?_eq_getElem hi'] at hi;cases hi;have tk:fs.take (i+1)=fs.take i++ [fs[i]]:=by rw[List.take_add_one,List.getElem?_eq_getElem hi'];rfl
   refine⟨fs[i],hs,rfl,?_⟩;show if aF fs[i] hs=true then _ else _;by_cases q:aF fs[i] hs=true
   ·rw[if_pos q];refine⟨⟨_,rfl⟩,?_,.pu (gl fs[i]),?_⟩
    ·have h1:=La (p:=fun f=>aF f hs) (fs.take (i+1));have h2:=zg1 fs (i+1);rw[tk,List.filter_append,List.flatten_append,List.length_append] at h1;simp only [List.filter_cons,q,if_true,List.filter_nil,List.flatten_cons,List.flatten_nil,List.append_nil] at h1;rw[tk] at h2;rw[List.length_map,List.length_append,List.length_map];omega
    ·rw[tk,List.filter_append,List.flatten_append];simp only [List.filter_cons,q,if_true,List.filter_nil,List.flatten_cons,List.flatten_nil,List.append_nil];rw[<- List.append_assoc,List.map_append (l₂:=fs[i])]
     rfl
   ·rw[if_neg q];refine⟨.pu (gl fs[i]),?_⟩;rw[tk,List.filter_append,List.flatten_append];simp only [List.filter_cons,q,Bool.false_eq_true,if_false,List.filter_nil,List.flatten_nil,List.append_nil]
    rfl
  ·rintro _ ⟨x,rfl⟩;have e:fs.take (fs.map gl).length=fs:=by rw[List.length_map,List.take_length]
   rw[e];have hx:∀x,x∈hs++ (fs.filter fun f=>aF f hs).flatten↔x∈hs\/∃f∈fs,aF f hs=true/\x∈f:=fun x=>by
    rw[List.mem_append,List.mem_flatten];constructor
    ·rintro(a | ⟨f,hf,a⟩)
     ·exact .inl a
     ·obtain⟨h1,h2⟩:=zF.mp hf;exact .inr ⟨f,h1,h2,a⟩
    ·rintro(a | ⟨f,h1,h2,a⟩)
     ·exact .inl a
     ·exact .inr ⟨f,zF.mpr ⟨h1,h2⟩,a⟩
   dsimp only;unfold ziz
   and_intros
   refine zwb (U:=U) ?_ hU (fun x q=> ?_) fun ms s1 s2=> ?_
   ·have:=La (p:=fun f=>aF f hs) fs;rw[List.length_append];omega
   ·rcases(hx x).mp q with a | ⟨f,h1,_,a⟩
    ·exact u1 x a
    ·exact u2 f h1 x a
   ·refine⟨by show(1:Nat)<=sizeLine;omega,?_,?_⟩
    ·have:=List.length_filter_le (fun f=> !aF f hs) fs;show((fs.filter fun f=> !aF f hs).map gl).length+1<=sizeLine;rw[List.length_map];omega
    ·have:=h ms s1 fun x=>(s2 x).trans (hx x);rw[List.map_append] at this;exact this
theorem CQ{g:List Str}(h:g.Pairwise fun a b=>fZ a b=true):g.Nodup:=h.imp fun{a b} q z=>by rw[z,Zr] at q;cases q
theorem asT(a b:Str)(h:fZ a b=true):¬fZ b a=true:=by rw[Zu h];exact zK
theorem zp9{rows jM :List Rw}{Ss u5 :List (List Str)}(F:T6 rows Ss)(F' :T6 jM u5)(e:∀r,r∈rows↔r∈jM):∀S∈Ss,∃S' ∈u5,∀x,x∈S↔x∈S' :=fun S hS=>by
 obtain⟨r,hr,k⟩:=F.of S hS;obtain⟨S',hS',k'⟩:=F'.to r ((e r).mp hr);refine⟨S',hS',fun x=> ?_⟩;rw[k x,k' x,aW,aW];exact⟨fun⟨r,h,q⟩=>⟨r,(e r).mp h,q⟩,fun⟨r,h,q⟩=>⟨r,(e r).mpr h,q⟩⟩
theorem rE.sub{rows jM :List Rw}{ms nG :List (List Str)}(h:rE rows ms)(h' :rE jM nG)(e:∀r,r∈rows↔r∈jM):∀m∈ms,m∈nG :=fun m hm=>by
 obtain⟨Ss,F,p⟩:=h.pi;obtain⟨u5,F',p'⟩:=h'.pi;obtain⟨m',hm',k⟩:=p.same p' (zp9 F F' e) (zp9 F' F fun r=>(e r).symm) hm;rw[Tt asT (h.sr m hm) (h'.sr m' hm') k];exact hm'
theorem rE.uniq{rows jM :List Rw}{ms nG :List (List Str)}(h:rE rows ms)(h' :rE jM nG)(e:∀r,r∈rows↔r∈jM):ms=nG :=
 Tt (R:=fun a b=>fZ (hdS a) (hdS b)=true) (fun a b q=>asT _ _ q) h.up h'.up fun m=>⟨h.sub h' e m,h'.sub h (fun r=>(e r).symm) m⟩
theorem zz4{f:List Str}(h:f≠ []):hdS f∈f:=by
 cases f with
 | nil=>exact absurd rfl h
 | cons x f=>exact zY
theorem Um:∀{fs:List (List Str)},(∀f∈fs,f≠ []) ->fs.Pairwise (fun a b=>∀x∈a,x∉b) ->(fs.map hdS).Nodup
 | [],_,_=>by simp
 | f::fs,ne,d=>by
  rw[List.pairwise_cons] at d;rw[List.map_cons,List.nodup_cons];refine⟨fun z=> ?_,Um (fun g hg=>ne g (zX _ hg)) d.2⟩;obtain⟨g,hg,e⟩:=zG.mp z;exact d.1 g hg (hdS f) (zz4 (ne f zY)) (e ▸ zz4 (ne g (zX _ hg)))
theorem Il:∀{fs:List (List Str)},(∀f∈fs,f≠ []) ->fs.length<=fs.flatten.length
 | [],_=>by simp
 | f::fs,ne=>by
  have:=Il (fs:=fs) fun g hg=>ne g (zX _ hg);have h1:0<f.length:=List.length_pos_iff.mpr (ne f zY);rw[List.length_cons,List.flatten_cons,List.length_append];omega
theorem Uo{Ss fs:List (List Str)}{U:List Str}(p:dU Ss fs)(h:∀S∈Ss,∀x∈S,x∈U):∀f∈fs,∀x∈f,x∈U:=fun f hf x hx=>by
 obtain⟨S,hS,q⟩:=(p.co x).mp ⟨f,hf,hx⟩;exact h S hS x q
theorem Ur{Ss fs:List (List Str)}{U:List Str}(p:dU Ss fs)(nd:∀f∈fs,f.Nodup)(h:∀S∈Ss,∀x∈S,x∈U):fs.flatten.length<=U.length:=
 Ab (Tv p.dj nd) fun x hx=>by
  obtain⟨f,hf,q⟩:=List.mem_flatten.mp hx;exact Uo p h f hf x q
theorem Lb:∀l:List D,d8 (l.map .leaf)=l
 | []=>rfl
 | d::l=>by rw[List.map_cons];unfold d8;rw[Lb l];rfl
theorem Ld{α:Type}(f:α ->T):∀l:List α,d8 (l.map f)=l.map fun x=>toD (f x)
 | []=>rfl
 | d::l=>by rw[List.map_cons];unfold d8;rw[Ld f l];rfl
theorem zzo(hs:List Str):(hs.map (Sum.inr:Str ->Key)).map cX=hs.map .str:=by rw[List.map_map];rfl
theorem zxt{K:W.Frag}{c:Cls}{ds Q Ex}(h:Hy c ds Q Ex):zmf K c (ur Q) (aG 3 ds) fun _=>Ex:=by
 obtain⟨rows,U,rfl,hl,hU,hu,h⟩:=h;refine⟨Nat.zero_le _,rows,rfl,hl,fun ws ps B=> ?_⟩;have Us:∀p∈ps,(p.1.Nodup/\p.1≠ []/\∀x∈p.1,x∈U)/\∃r∈rows,∀x,x∈p.1↔x∈fO rows r.1:=fun p hp=>by
  obtain⟨q,hq,e⟩:=List.mem_iff_getElem.mp hp;have hq2:q<ws.length:=by rw[B.len];exact hq
  obtain⟨b1,b2,b3,b4⟩:=B.pt q _ p (zZ hq2) (by rw[List.getElem?_eq_getElem hq,e])
  obtain⟨r,hr,er⟩:=(B.wm ws[q]).mp (zA hq2);refine⟨⟨b2,fun z=> ?_,fun x hx=> ?_⟩,r,hr,fun x=>by rw[er];exact b4 x⟩
  ·have:=(b4 r.2.1).mpr (aW.mpr ⟨r,hr,er,rfl⟩);rw[z] at this;cases this
  ·obtain⟨r',h1,_,h3⟩:=aW.mp ((b4 x).mp hx);exact h3 ▸ hu r' h1
 have few:∀i,∀S∈ (ps.take i).map (·.1),∀x∈S,x∈U:=fun i S hS x hx=>by
  obtain⟨p,hp,rfl⟩:=zG.mp hS;exact(Us p (List.mem_of_mem_take hp)).1.2.2 x hx
 show j7 (d8 (ps.map qI)) _ _ _ _ _;refine⟨fun i Γ=>∃fs x,dU ((ps.take i).map (·.1)) fs/\ (∀f∈fs,f.Pairwise fun a b=>fZ a b=true)/\Γ= [.pu (aM rows),.pu (.lst (fs.map gl)),x],⟨[],_,by simpa using dU.nil,fun f hf=>by(cases hf),rfl⟩,?_,?_⟩
 ·rintro i d _ hi ⟨fs,x,p,sr,rfl⟩;rw[Ld] at hi;have hi' :i<ps.length:=by
   have:=(zW.mp hi).1
   rwa [List.length_map] at this
  rw[List.getElem?_map,List.getElem?_eq_getElem hi'] at hi;cases hi;have tk:ps.take (i+1)=ps.take i++ [ps[i]]:=by rw[List.take_add_one,List.getElem?_eq_getElem hi'];rfl
  obtain⟨⟨q1,q2,q3⟩,_⟩:=Us ps[i] (zA hi');have l1:=Ab q1 q3;have l2:=Ur p (fun f hf=>CQ (sr f hf)) (few i);have l3:=Il p.ne;refine⟨fs,ps[i].1,U,?_,by omega,by omega,hU,q3,Uo p (few i),fun g g1 g2=> ?_⟩
  ·show [D.lst (fs.map gl),D.lst ((ps[i].1.map Sum.inr).map cX)]=_;rw[zzo];rfl
  ·refine⟨fs.filter (fun f=> !aF f ps[i].1)++ [g],_,?_,fun f hf=> ?_,rfl⟩
   ·rw[tk,List.map_append];exact p.step q2 g2
   ·rcases zU.mp hf with hf | hf
    ·exact sr f (zF.mp hf).1
    ·rw[List.mem_singleton.mp hf];exact g1
 ·rintro _ ⟨fs,x,p,sr,rfl⟩;have e:ps.take (d8 (ps.map qI)).length=ps:=by rw[Ld,List.length_map,List.take_length]
  rw[e] at p;have uw :∀S∈ps.map (·.1),∀x∈S,x∈U:=by have:=few ps.length;rwa [List.take_length] at this
  have l2:=Ur p (fun f hf=>CQ (sr f hf)) uw;have l3:=Il p.ne;refine⟨fs,rfl,p.ne,Um p.ne p.dj,by omega,fun ms pm up=>h ms ⟨fun m hm=>sr m (pm.mem_iff.mp hm),up,_,⟨fun S hS=> ?_,fun r hr=> ?_⟩,p.perm pm⟩⟩
  ·obtain⟨p,hp,rfl⟩:=zG.mp hS;exact(Us p hp).2
  ·have hw:=(B.wm r.1).mpr ⟨r,hr,rfl⟩;obtain⟨q,hq,e⟩:=List.mem_iff_getElem.mp hw;have hq2:q<ps.length:=by rw[<- B.len];exact hq
   obtain⟨b1,b2,b3,b4⟩:=B.pt q r.1 ps[q] (by rw[List.getElem?_eq_getElem hq,e]) (zZ hq2)
   exact⟨ps[q].1,zG.mpr ⟨_,zA hq2,rfl⟩,b4⟩
def GZ(B:Nat)(q:Rat):Prop:=∃z:Int,q*27720=(z:Rat)/\z.natAbs<=B
theorem GZ.add{A B:Nat}{p q:Rat}(h1:GZ A p)(h2:GZ B q):GZ (A+B) (p+q):=by
 obtain⟨a,ea,ha⟩:=h1;obtain⟨b,eb,hb⟩:=h2;refine⟨a+b,?_,by omega⟩
 rw[Rat.intCast_add,<- ea,<- eb];grind
theorem GZ.sub{A B:Nat}{p q:Rat}(h1:GZ A p)(h2:GZ B q):GZ (A+B) (p - q):=by
 obtain⟨a,ea,ha⟩:=h1;obtain⟨b,eb,hb⟩:=h2;refine⟨a - b,?_,by omega⟩
 rw[Rat.intCast_sub,<- ea,<- eb];grind
theorem GZ.mono{A B:Nat}{q:Rat}(h:GZ A q)(l:A<=B):GZ B q:=by
 obtain⟨a,ea,ha⟩:=h;exact⟨a,ea,zP ha l⟩
theorem Ut{B:Nat}:∀{qs:List Rat},(∀q∈qs,GZ B q) ->GZ (qs.length*B) (dR qs)
 | [],_=>⟨0,by unfold dR;grind,by simp⟩
 | q::qs,h=>by
  refine((h q zY).add (Ut fun p hp=>h p (zX _ hp))).mono ?_;rw[List.length_cons,Nat.add_mul];omega
theorem Aj{n:Nat}(h1:1<=n)(h2:n<=12):n* (27720/n)=27720:=by
 match n,h1,h2 with
 | 1,_,_=>rfl
 | 2,_,_=>rfl
 | 3,_,_=>rfl
 | 4,_,_=>rfl
 | 5,_,_=>rfl
 | 6,_,_=>rfl
 | 7,_,_=>rfl
 | 8,_,_=>rfl
 | 9,_,_=>rfl
 | 10,_,_=>rfl
 | 11,_,_=>rfl
 | 12,_,_=>rfl
theorem Uu{t:Int}{n B:Nat}(h1:1<=n)(h2:n<=12)(ht:t.natAbs<=B):GZ (B*27720) ((t:Rat)/ ((n:Nat):Rat)):=by
 have e:=Aj h1 h2;have n0:((n:Nat):Rat)≠0:=fun z=>by
  have:n=0:=by exact_mod_cast z
  omega
 refine⟨t* ((27720/n:Nat):Int),?_,?_⟩
 ·have e' :(27720:Rat)=((n:Nat):Rat)* ((27720/n:Nat):Rat):=by exact_mod_cast e.symm
  rw[e',Rat.intCast_mul,Rat.div_def,Rat.mul_assoc,<- Rat.mul_assoc (((n:Nat):Rat)⁻¹),Rat.inv_mul_cancel _ n0,Rat.one_mul]
  rfl
 ·rw[Int.natAbs_mul];refine Nat.mul_le_mul ht ?_;rw[Int.natAbs_natCast];exact Nat.div_le_self _ _
theorem zz9{t:Int}{B:Nat}(ht:t.natAbs<=B):GZ (B*27720) (t:Rat):=by
 refine⟨t*27720,by rw[Rat.intCast_mul];rfl,?_⟩
 rw[Int.natAbs_mul];exact Nat.mul_le_mul ht (zO _)
theorem Le{B n:Nat}{q:Rat}(h:GZ B q)(hB:B<2^n):bA q.num<=n/\bA (q.den:Int)<=15:=by
 obtain⟨z,e,hz⟩:=h;have c0:((27720:Int):Rat)≠0:=by decide
 have eq:q=(z:Rat)/ ((27720:Int):Rat):=by
  rw[<- e,Rat.div_def,Rat.mul_assoc];have:(27720:Rat)* ((27720:Int):Rat)⁻¹=1:=by
   have:=Rat.mul_inv_cancel _ c0;exact this
  rw[this];grind
 have b1:bA z<=n:=iM (by omega)
 have f:=G4 (t:=z) (b:=27720) (by decide)
 have e1:(fr z 27720).1=_:=congrArg Prod.fst f;have e2:(fr z 27720).2=_:=congrArg Prod.snd f;dsimp only at e1 e2;rw[eq];refine⟨zP (qU ?_) b1,zP (qU (j:=27720) ?_) (iM (by decide))⟩
 ·rw[<- e1];exact Tj (by decide)
 ·rw[<- e2];exact Tn (by decide)
theorem CT{B n:Nat}{q:Rat}(h:GZ B q)(hB:B<2^n)(hn:15<=n):Sz n q:=⟨(Le h hB).1,zP (Le h hB).2 hn⟩
theorem vV{B n:Nat}{q:Rat}(h:GZ B q)(hB:B<2^n)(hn:n<=400):KZ q:=⟨zP (Le h hB).1 hn,zP (Le h hB).2 (by decide)⟩
theorem z1t{n:Nat}(h:1<=n):qD (((-1:Int):Rat)/ ((n:Nat):Rat))= .tup [.int (-1),.int n]:=by
 have f:=G4 (t:= -1) (b:=(n:Int)) (by omega)
 have e1:(fr (-1) (n:Int)).1=_:=congrArg Prod.fst f;have e2:(fr (-1) (n:Int)).2=_:=congrArg Prod.snd f;dsimp only at e1 e2;have g:dv (-1) (n:Int)=1:=by unfold dv;rw[if_neg (by omega)];simp
 have t1:=Kw (-1) (n:Int);have t2:=G3 (-1) (n:Int);rw[g,Int.one_mul] at t1 t2;unfold qD;have c:(((-1:Int):Rat)/ ((n:Nat):Rat))=((-1:Int):Rat)/ (((n:Nat):Int):Rat):=rfl;rw[c,<- e1,<- e2,t1,t2]
theorem Uv{α:Type}(f:α ->Rat):∀l:List α,dR (l.map f)=ao l f
 | []=>rfl
 | a::l=>by show f a+dR (l.map f)=f a+ao l f;rw[Uv f l]
theorem Im(rows:List Rw)(w:Str):vQ (vf rows w)=some ((kW rows w).map .inr,(cF rows w).map fun r=> .int r.2.2):=rfl
theorem zkj{K:W.Frag}{c:Cls}{ds Q Ex}(h:xr c ds Q Ex):zey K c (fin Q) (aG 2 ds) fun _=>Ex:=by
 obtain⟨rows,ws,h0,rfl,h⟩:=h;show aQ _ (ws.map (vf rows)) _;refine vU (vf rows) (vf rows) (fun w=>decide (h0∈kW rows w)) (fun w hw P hp=> ?_) h;refine⟨_,_,.inr h0,Im rows w,rfl,?_⟩;rw[Ai];simp only [Bool.false_eq_true,if_false];by_cases q:h0∈kW rows w
 ·rw[decide_eq_true q] at hp⊢;exact hp
 ·rw[decide_eq_false q] at hp⊢;exact hp
theorem uz{rows:List Rw}(L:LB rows){w:Str}(h:cF rows w≠ []):1<=(kW rows w).length/\ (kW rows w).length<=12:=by
 rw[Cj];exact⟨List.length_pos_iff.mpr h,L.wk w⟩
theorem z2o{K:W.Frag}{c:Cls}{ds Q Ex}(h:HB c ds Q Ex):zq2 K c (fin Q) (aG 5 ds) fun _=>Ex:=by
 obtain⟨rows,ws,h0,o0,rfl,L,⟨W1,W2⟩,h⟩:=h;have s1:=xu;refine⟨rows,ws,h0,rfl,rows,ws.filter (fun w=>decide (h0∈kW rows w)),o0,rfl,?_⟩
 let both:=(ws.filter fun w=>decide (h0∈kW rows w)).filter fun w=>decide (o0∈kW rows w)
 show Ue K c (fin Q) [.pu (.str h0),.pu (.str o0),.pu (jW rows ws),.pu (jW rows both),.no] fun _=>Ex;have hb:∀w∈both,cF rows w≠ []:=fun w hw=>W2 w (zF.mp (zF.mp hw).1).1;have hbl:both.length<=200:=zP (zP (List.length_filter_le _ _) (List.length_filter_le _ _)) W1
 let f:Str ->Rat:=fun w=>((-1:Int):Rat)/ (((kW rows w).length:Nat):Rat)
 have gz:∀w∈both,GZ 27720 (f w):=fun w hw=>by
  have:=Uu (t:= -1) (B:=1) (uz L (hb w hw)).1 (uz L (hb w hw)).2 (by decide)
  rw[Nat.one_mul] at this;exact this
 have gs:∀k,GZ (200*27720) (dR ((both.map f).take k)):=fun k=>by
  refine(Ut fun q hq=> ?_).mono (Nat.mul_le_mul_right _ (zP (by rw[List.length_take];omega) (show(both.map f).length<=200 by rw[List.length_map];exact hbl)))
  obtain⟨w,hw,rfl⟩:=zG.mp (List.mem_of_mem_take hq);exact gz w hw
 have e2:dR (both.map f)=ao ws fun w=>if h0∈kW rows w/\o0∈kW rows w then f w else 0:=by
  rw[Uv];show ao ((ws.filter fun w=>decide (h0∈kW rows w)).filter fun w=>decide (o0∈kW rows w)) f=_;rw[u9,u9];refine fG fun w _=> ?_;by_cases q1:h0∈kW rows w
  ·by_cases q2:o0∈kW rows w<;>simp [q1,q2]
  ·simp [q1]
 have e3:(ao (ws.map (kW rows)) fun s=>if h0∈s/\o0∈s then 1/ (s.length:Rat) else 0)= - dR (both.map f):=by
  rw[e2,vd];have: - (ao ws fun w=>if h0∈kW rows w/\o0∈kW rows w then f w else 0)=ao ws fun w=>(-1)* (if h0∈kW rows w/\o0∈kW rows w then f w else 0):=by rw[uh];grind
  rw[this];refine fG fun w _=> ?_;split
  ·show 1/ (((kW rows w).length:Nat):Rat)=(-1)* (((-1:Int):Rat)/ (((kW rows w).length:Nat):Rat));rw[Rat.div_def,Rat.div_def];have:((-1:Int):Rat)= -1:=rfl;rw[this];grind
  ·grind
 have pw:∀n,23<=n ->200*27720<2^n:=fun n hn=>zN (show 200*27720<2^23 by decide) (Nat.pow_le_pow_right (by decide) hn)
 unfold Ue
 and_intros
 refine vR (vf rows) (fun w=> .tup [.int (-1),.int (((kW rows w).length:Nat):Int)]) (fun w hw P hp=> ?_) ?_
 ·refine⟨_,_,Im rows w,by show(2:Nat)<=sizeLine;omega,?_⟩
  rw[List.length_map];exact hp
 refine⟨both.map f,?_,fun q hq=> ?_,fun k=>CT (gs k) (pw 4000 (by decide)) (by decide),?_⟩
 ·rw[List.map_map];refine congrArg (fun z=> [D.lst z]) (List.map_congr_left fun w hw=> ?_);exact(z1t (uz L (hb w hw)).1).symm
 ·obtain⟨w,hw,rfl⟩:=zG.mp hq;exact CT (gz w hw) (zM (by decide) (pw 4000 (by decide))) (by decide)
 have gt:=gs (both.map f).length;rw[List.take_length] at gt;unfold zj5
 and_intros
 refine⟨by simp [gQ],?_⟩
 rw[zt2];by_cases q:h0=o0
 ·subst q;rw[decide_eq_true rfl];have eb:both.length=(ws.filter fun w=>decide (h0∈kW rows w)).length:=by
   show((ws.filter fun w=>decide (h0∈kW rows w)).filter fun w=>decide (h0∈kW rows w)).length=_;rw[List.filter_filter];simp
  have ec:dN (ws.map (kW rows)) h0=((both.length:Nat):Rat):=by
   unfold dN;rw[vd,eb];have:=w6 (α:=Str) 1 (l:=ws.filter fun w=>decide (h0∈kW rows w));rw[u9] at this;rw[Rat.mul_one] at this;rw[<- this];exact fG fun w _=>by by_cases q:h0∈kW rows w<;>simp [q]
  refine⟨by show(2:Nat)<=sizeLine;omega,((both.length:Int):Rat),dR (both.map f),?_,?_,CT gt (pw 4000 (by decide)) (by decide),?_⟩
  ·rw[G5,List.length_map]
  ·exact Tq (iM (k:=4000) (zM (show((both.length:Nat):Int).natAbs<=200*27720 by omega) (pw 4000 (by decide)))) (by decide)
  ·have:((both.length:Int):Rat)+dR (both.map f)=bO (ws.map (kW rows)) h0 h0:=by
    unfold bO;rw[if_pos rfl,e3,ec];show((both.length:Nat):Rat)+_=_
    grind
   rw[this];exact h
 ·rw[decide_eq_false q];have:dR (both.map f)=bO (ws.map (kW rows)) h0 o0:=by
   unfold bO;rw[if_neg q,e3];grind
  show Q (qD (dR (both.map f)));rw[this];exact h
theorem zx9{K:W.Frag}{c:Cls}{ds Q Ex}(h:HD c ds Q Ex):zl8 K c (fin Q) (aG 3 ds) fun _=>Ex:=by
 obtain⟨rows,ws,m,h0,rfl,L,W,h⟩:=h;show aQ _ (m.map D.str) _;refine vR D.str (fun o=>qD (bO (ws.map (kW rows)) h0 o)) (fun o ho P hp=> ?_) h;exact⟨rows,ws,h0,o,rfl,L,W,hp⟩
theorem Lf{α:Type}(f:α ->Int):∀l:List α,fV (l.map fun a=> .int (f a))=some (l.map f)
 | []=>rfl
 | a::l=>by unfold List.map fV;rw[Lf f l];rfl
theorem Lg{α:Type}(f:α ->Int):∀l:List α,(((l.map f).sum:Int):Rat)=ao l fun a=>(f a:Rat)
 | []=>rfl
 | a::l=>by
  rw[List.map_cons,List.sum_cons,Rat.intCast_add,Lg f l];rfl
theorem Uw{α:Type}(f:α ->Int){B:Nat}:∀{l:List α},(∀a∈l,(f a).natAbs<=B) ->((l.map f).sum).natAbs<=l.length*B
 | [],_=>by simp
 | a::l,h=>by
  have h1:=h a zY;have h2:=Uw f (l:=l) fun b hb=>h b (zX _ hb);rw[List.map_cons,List.sum_cons,List.length_cons,Nat.add_mul];omega
theorem zow{K:W.Frag}{c:Cls}{ds Q Ex}(h:HF c ds Q Ex):zha K c (fin Q) (aG 1 ds) fun _=>Ex:=by
 obtain⟨rows,w,rfl,L,ne,h⟩:=h;have hp:=List.length_pos_iff.mpr ne;have h12:=L.wk w;refine⟨_,_,(cF rows w).map (fun r=>r.2.2),Im rows w,Lf _ _,_,_,Im rows w,_,_,rfl,?_,?_,?_⟩
 ·have:=Uw (fun r:Rw=>r.2.2) (B:=2^100) (l:=cF rows w) fun r hr=>Nat.le_of_lt (L.mm r (aY.mp hr).1);refine zP (iM (k:=104) (zM this ?_)) (by decide)
  exact zM (Nat.mul_le_mul_right _ h12) (by decide)
 ·rw[List.length_map,Cj];exact zP (iM (k:=4) (by omega)) (by decide)
 ·rw[List.length_map,Cj,if_neg (by omega),Lg]
  exact h
theorem zx8{L:List Rw}{h:Str}:eY (L.map fun r=> .inr r.2.1) (L.map fun r=> .int r.2.2) (.inr h)=(L.find? fun r=>decide (r.2.1=h)).map fun r=> .int r.2.2:=by
 induction L with
 | nil=>rfl
 | cons r L ih=>
  rw[List.map_cons,List.map_cons,List.find?_cons];unfold eY;by_cases q:r.2.1=h
  ·rw[if_pos (by rw[q]),decide_eq_true q];rfl
  ·rw[if_neg (fun z=>q (by injection z)),decide_eq_false q];exact ih
theorem zv1{rows:List Rw}(u:Uq rows){w h:Str}(hh:h∈kW rows w):∃r∈rows,r.1=w/\r.2.1=h/\eY ((kW rows w).map .inr) ((cF rows w).map fun r=> .int r.2.2) (.inr h)=some (.int r.2.2)/\yW rows w h=(r.2.2:Rat):=by
 obtain⟨r,hr,e1,e2⟩:=fJ.mp hh;refine⟨r,hr,e1,e2,?_,?_⟩
 ·unfold kW;rw[List.map_map];have:=zx8 (L:=cF rows w) (h:=h);show eY ((cF rows w).map fun r=> .inr r.2.1) _ _=_;rw[this];cases q:(cF rows w).find? fun r=>decide (r.2.1=h) with
  | none=>
   have:=List.find?_eq_none.mp q r (aY.mpr ⟨hr,e1⟩);simp [e2] at this
  | some s=>
   have s1:=aY.mp (List.mem_of_find?_eq_some q);have s2:s.2.1=h:=by simpa using List.find?_some q
   rw[T5 u s1.1 hr (s1.2.trans e1.symm) (s2.trans e2.symm)];rfl
 ·have:=KR u hr;rw[e1,e2] at this;exact this
theorem xG{rows:List Rw}(u:Uq rows)(w:Str):aX (kW rows w) (yW rows w)=ao (cF rows w) (fun r=>(r.2.2:Rat))/ ((cF rows w).length:Rat):=by
 unfold aX;rw[Cj,z0j]
 congr 1
 refine fG fun r hr=> ?_;have:=KR u (aY.mp hr).1;rw[(aY.mp hr).2] at this;rw[this]
theorem zvx{rows:List Rw}(L:LB rows){w:Str}(ne:cF rows w≠ []):GZ (2^104*27720) (ao (cF rows w) (fun r=>(r.2.2:Rat))/ ((cF rows w).length:Rat)):=by
 have hp:=List.length_pos_iff.mpr ne;have h12:=L.wk w;have:=Uw (fun r:Rw=>r.2.2) (B:=2^100) (l:=cF rows w) fun r hr=>Nat.le_of_lt (L.mm r (aY.mp hr).1);rw[<- Lg];refine Uu hp h12 (zP this (zP (Nat.mul_le_mul_right _ h12) (by decide)))
theorem Ux{rows:List Rw}(u:Uq rows)(L:LB rows){w h:Str}(hh:h∈kW rows w):GZ (2^105*27720) (yW rows w h - aX (kW rows w) (yW rows w)):=by
 obtain⟨r,hr,e1,e2,_,ey⟩:=zv1 u hh;rw[ey,xG u];have ne:cF rows w≠ []:=fun z=>by
  have:=aY.mpr ⟨hr,e1⟩;rw[z] at this;cases this
 exact((zz9 (B:=2^104) (zP (Nat.le_of_lt (L.mm r hr)) (by decide))).sub (zvx L ne)).mono (by decide)
theorem zyw{K:W.Frag}{c:Cls}{ds Q Ex}(h:HJ c ds Q Ex):Ug K c (fin Q) (aG 2 ds) fun _=>Ex:=by
 obtain⟨rows,ws,h0,rfl,u,L,⟨W1,W2⟩,h⟩:=h;have s1:=xu;have pw:∀n,128<=n ->200* (2^105*27720)<2^n:=fun n hn=>zN (show 200* (2^105*27720)<2^128 by decide) (Nat.pow_le_pow_right (by decide) hn)
 let wh:=ws.filter fun w=>decide (h0∈kW rows w)
 have xH:∀w∈wh,w∈ws/\h0∈kW rows w:=fun w hw=>⟨(zF.mp hw).1,of_decide_eq_true (zF.mp hw).2⟩
 let f:Str ->Rat:=fun w=>yW rows w h0 - aX (kW rows w) (yW rows w)
 unfold Ug
 and_intros
 refine⟨rows,ws,h0,rfl,?_⟩;show aQ _ (wh.map (vf rows)) _;refine vR (vf rows) (fun w=>qD (f w)) (fun w hw P hp=> ?_) ?_
 ·obtain⟨r,hr,e1,e2,lk,ey⟩:=zv1 u (xH w hw).2;refine⟨_,_,.inr h0,.int r.2.2,Im rows w,rfl,lk,by show(2:Nat)<=sizeLine;omega,rows,w,rfl,L,W2 w (xH w hw).1,?_⟩
  refine⟨((r.2.2:Int):Rat),_,by rw[G5],.inl ⟨?_,CT (zvx L (W2 w (xH w hw).1)) (zM (by decide) (pw 4000 (by decide))) (by decide)⟩,?_⟩
  ·exact Tq (zP (iM (L.mm r hr)) (by decide)) (by decide)
  ·rw[<- xG u,<- ey];exact hp
 ·have gs:∀k,GZ (200* (2^105*27720)) (dR ((wh.map f).take k)):=fun k=>by
   refine(Ut fun q hq=> ?_).mono (Nat.mul_le_mul_right _ (zP (by rw[List.length_take];omega) (show(wh.map f).length<=200 by rw[List.length_map];exact zP (List.length_filter_le _ _) W1)))
   obtain⟨w,hw,rfl⟩:=zG.mp (List.mem_of_mem_take hq);exact Ux u L (xH w hw).2
  refine⟨wh.map f,by rw[List.map_map];rfl,fun q hq=> ?_,fun k=>CT (gs k) (pw 4000 (by decide)) (by decide),?_⟩
  ·obtain⟨w,hw,rfl⟩:=zG.mp hq;exact CT (Ux u L (xH w hw).2) (zM (by decide) (pw 4000 (by decide))) (by decide)
  ·have:dR (wh.map f)=fH (kW rows) (yW rows) ws h0:=by
    rw[Uv];show ao (ws.filter fun w=>decide (h0∈kW rows w)) f=_;rw[u9];unfold fH;exact fG fun w _=>by by_cases q:h0∈kW rows w<;>simp [q,f]
   rw[this];exact h
theorem Lh{α:Type}{B:Nat}{f:α ->Rat}:∀{l:List α},(∀a∈l,GZ B (f a)) ->GZ (l.length*B) (ao l f)
 | [],_=>⟨0,by unfold ao;grind,by simp⟩
 | a::l,h=>by
  refine((h a zY).add (Lh fun b hb=>h b (zX _ hb))).mono ?_;rw[List.length_cons,Nat.add_mul];omega
theorem Io(B:Nat):GZ B 0:=⟨0,by grind,by simp⟩
theorem zzy{rows:List Rw}{ws:List Str}(W:oV rows ws)(h:Str):GZ (200*27720) (dN (ws.map (kW rows)) h):=by
 unfold dN;rw[vd];refine(Lh (B:=27720) fun w _=> ?_).mono (Nat.mul_le_mul_right _ W.1);split
 ·have:=zz9 (t:=1) (B:=1) (by decide)
  rw[Nat.one_mul] at this;exact this
 ·exact Io _
theorem zw6{rows:List Rw}{ws:List Str}(L:LB rows)(W:oV rows ws)(h o:Str):GZ (400*27720) (bO (ws.map (kW rows)) h o):=by
 unfold bO;have g1:GZ (200*27720) (if h=o then dN (ws.map (kW rows)) h else 0):=by
  split
  ·exact zzy W h
  ·exact Io _
 have g2:GZ (200*27720) (ao (ws.map (kW rows)) fun s=>if h∈s/\o∈s then 1/ (s.length:Rat) else 0):=by
  rw[vd];refine(Lh (B:=27720) fun w hw=> ?_).mono (Nat.mul_le_mul_right _ W.1);split
  ·have:=Uu (t:=1) (B:=1) (uz L (W.2 w hw)).1 (uz L (W.2 w hw)).2 (by decide)
   rw[Nat.one_mul] at this;exact this
  ·exact Io _
 exact(g1.sub g2).mono (by decide)
theorem z2v{rows:List Rw}{ws:List Str}(u:Uq rows)(L:LB rows)(W:oV rows ws)(h:Str):GZ (200* (2^105*27720)) (fH (kW rows) (yW rows) ws h):=by
 unfold fH;refine(Lh (B:=2^105*27720) fun w _=> ?_).mono (Nat.mul_le_mul_right _ W.1);split
 ·rename_i q;exact Ux u L q
 ·exact Io _
theorem Li{α β:Type}[Inhabited α](g:α ->β)(l:List α):l.map g=(List.range l.length).map fun j=>g (l.getD j default):=by
 apply List.ext_getElem
 ·simp
 ·intro i h1 h2;simp only [List.getElem_map,List.getElem_range];have hi:i<l.length:=by simpa using h1
  rw[List.getD_eq_getElem?_getD,List.getElem?_eq_getElem hi];rfl
theorem zxw(x:D)(xs:List D):cutD (x::xs) (some 1) none=xs:=by
 unfold cutD HT.sIx;simp
theorem zhh{K:W.Frag}{c:Cls}{ds Q Ex}(h:HN c ds Q Ex):zc8 K c (fin Q) (aG 5 ds) fun _=>Ex:=by
 obtain⟨rows,ws,m,rfl,S,L,W,ne,Uy,h⟩:=h;have s1:=xu;obtain⟨h0,hs,em⟩:∃h0 hs,m=h0::hs:=by
  cases m with
  | nil=>exact absurd rfl ne
  | cons a b=>exact⟨a,b,rfl⟩
 have hn:m.length=hs.length+1:=by rw[em];rfl
 have gs:∀i,m.getD (i+1) default=hs.getD i default:=fun i=>by rw[em];rfl
 have ct:cutD (m.map D.str) (some 1) none=hs.map D.str:=by rw[em];exact zxw _ _
 let A:=fY rows ws m
 show aQ _ (cutD (m.map D.str) (some 1) none) _;rw[ct];refine vR D.str (fun h=> .lst (m.map fun o=>qD (bO (ws.map (kW rows)) h o))) (fun h hh P hp=>⟨rows,ws,m,h,rfl,L,W,hp⟩) ?_;show aQ _ (cutD (m.map D.str) (some 1) none) _;rw[ct];refine vR D.str (fun h=>qD (fH (kW rows) (yW rows) ws h)) (fun h hh P hp=>⟨rows,ws,h,rfl,S.u,L,W,hp⟩) ?_;have ec:∀h,dN (ws.map (kW rows)) h=(((ws.filter fun w=>decide (h∈kW rows w)).length:Int):Rat):=fun h=>by
  unfold dN;rw[vd];have:=w6 (α:=Str) 1 (l:=ws.filter fun w=>decide (h∈kW rows w));rw[u9,Rat.mul_one] at this;refine Eq.trans ?_ this;exact fG fun w _=>by by_cases q:h∈kW rows w<;>simp [q]
 show zcl K c (fin Q) [.pu (gl m),.pu (jW rows ws),.pu (.lst (hs.map fun h=> .lst (m.map fun o=>qD (bO (ws.map (kW rows)) h o)))),.pu (.lst (hs.map fun h=>qD (fH (kW rows) (yW rows) ws h))),.no] fun _=>Ex;show aQ _ (m.map D.str) _;refine vR D.str (fun h=>qD (dN (ws.map (kW rows)) h)) (fun h hh P hp=> ?_) ?_
 ·refine⟨rows,ws,h,rfl,by show(2:Nat)<=sizeLine;omega,?_⟩
  rw[ec,G5] at hp;rw[List.length_map];exact hp
 unfold zci
 and_intros
 have l1:hs.length<=1000:=by omega
 refine⟨by show(1:Nat)<=sizeLine;omega,by rw[List.length_map];simp;omega,by show(2:Nat)<=sizeLine;omega,by show(1:Nat)<=sizeLine;omega,by rw[List.length_map];simp;omega,?_⟩
 have Ip:∀i,i<m.length ->gD m.length (A i)= .lst (m.map fun o=>qD (if i=0 then dN (ws.map (kW rows)) o else bO (ws.map (kW rows)) (m.getD i default) o)):=fun i hi=>by
  unfold gD;rw[Li (fun o=>qD (if i=0 then dN (ws.map (kW rows)) o else bO (ws.map (kW rows)) (m.getD i default) o)) m];refine congrArg D.lst (List.map_congr_left fun j hj=> ?_);show qD (fY rows ws m i j)=_;unfold fY;rw[if_pos (List.mem_range.mp hj)]
 have idx:∀j,j<m.length ->m.idxOf (m.getD j default)=j:=fun j hj=>by
  rw[List.getD_eq_getElem?_getD,List.getElem?_eq_getElem hj];exact S.nm.idxOf_getElem j hj
 have conv:∀(X:Nat ->Rat) i,bF m.length (fun j=>A i j*X j)=bF m.length fun j=>A i j*X (m.idxOf (m.getD j default)):=fun X i=>wY fun j hj=>by rw[idx j hj]
 refine⟨m.length,A,⟨?_,Uy,fun i j hi hj=> ?_⟩,fun y k hk y1 hy=> ?_,fun X hX hsz=> ?_⟩
 ·have t1:um m.length m.length A= .lst ([.lst (m.map fun h=>qD (dN (ws.map (kW rows)) h))]++hs.map fun h=> .lst (m.map fun o=>qD (bO (ws.map (kW rows)) h o))):=by
   unfold um;rw[hn,List.range_succ_eq_map,List.map_cons,List.map_map,<- hn,Ip 0 (by omega)]
   rw[Li (fun h=>D.lst (m.map fun o=>qD (bO (ws.map (kW rows)) h o))) hs];refine congrArg D.lst ?_;show _::_=_::_;refine List.cons_eq_cons.mpr ⟨rfl,List.map_congr_left fun i hi=> ?_⟩;have hi' :=List.mem_range.mp hi;show gD m.length (A (i+1))=_;rw[Ip (i+1) (by omega)]
   refine congrArg D.lst (List.map_congr_left fun o _=> ?_);rw[if_neg (by omega),gs]
  have t2:gD m.length (fun i=>A i m.length)= .lst ([.tup [.int 0,.int 1]]++hs.map fun h=>qD (fH (kW rows) (yW rows) ws h)):=by
   unfold gD;rw[hn,List.range_succ_eq_map,List.map_cons,List.map_map,<- hn];rw[Li (fun h=>qD (fH (kW rows) (yW rows) ws h)) hs];have a0:A 0 m.length=((0:Int):Rat):=by
    show fY rows ws m 0 m.length=_;unfold fY;rw[if_neg (Nat.lt_irrefl _),if_pos rfl];rfl
   refine congrArg D.lst ?_;show qD (A 0 m.length)::_=_::_;rw[a0,G5];refine List.cons_eq_cons.mpr ⟨rfl,List.map_congr_left fun i hi=> ?_⟩;show qD (fY rows ws m (i+1) m.length)=_;unfold fY;rw[if_neg (Nat.lt_irrefl _),if_neg (by omega),gs]
  rw[t1,t2]
  rfl
 ·show KZ (fY rows ws m i j);unfold fY;split
  ·split
   ·exact vV (zzy W _) (n:=23) (by decide) (by decide)
   ·exact vV (zw6 L W _ _) (n:=24) (by decide) (by decide)
  ·split
   ·exact vV (Io 0) (n:=1) (by decide) (by decide)
   ·exact vV (z2v S.u L W _) (n:=128) (by decide) (by decide)
 ·have z:=S.null (fun h=>y (m.idxOf h)) (fun i hi=>by
   have:=hy i hi;rw[conv] at this;exact this) (m.getD k default) (zu7 hk)
  rw[idx k hk,y1] at z;exact absurd z (by decide)
 ·have a:=S.ans (fun h=>X (m.idxOf h)) (fun i hi=>by
   have:=hX i hi;rw[conv] at this;exact this)
  have e:gD m.length X= .lst (m.map fun h=>qD (X (m.idxOf h))):=by
   unfold gD;rw[Li (fun h=>qD (X (m.idxOf h))) m];exact congrArg D.lst (List.map_congr_left fun j hj=>by rw[idx j (List.mem_range.mp hj)])
  rw[e];refine h _ a.1 a.2 fun g hg=>hsz _ ?_;exact List.idxOf_lt_length_of_mem hg
theorem zys{n:Nat}(a b:List Rw):gQ (n+2) (aM a) (aM b):=by
 unfold aM;simp only [gQ];intro i x y h1 h2;rw[List.getElem?_map] at h1 h2;cases q1:a[i]? with
 | none=>rw[q1] at h1;cases h1
 | some u=>
  cases q2:b[i]? with
  | none=>rw[q2] at h2;cases h2
  | some v=>
   rw[q1] at h1;rw[q2] at h2;cases h1;cases h2;unfold jL;simp only [gQ];intro j x y g1 g2
   match j with
   | 0=>simp at g1 g2;subst g1 g2;cases n<;>simp [gQ]
   | 1=>simp at g1 g2;subst g1 g2;cases n<;>simp [gQ]
   | 2=>simp at g1 g2;subst g1 g2;cases n<;>simp [gQ]
   | j+3=>simp at g1
theorem z1w(ms:List (List Str)):toD (.lst ((ms.map gl).map .leaf))= .lst (ms.map gl):=by unfold toD;rw[Lb]
theorem rE.sys{rows:List Rw}{ms:List (List Str)}(G:rE rows ms)(u:Uq rows){m:List Str}(hm:m∈ms):(∀r∈rows,r.2.1∈m ->∀h∈kW rows r.1,h∈m)/\∀ws:List Str,ws.Nodup ->(∀w,w∈ws↔∃r∈ofM rows m,r.1=w) ->lu (ofM rows m) ws m:=by
 obtain⟨Ss,F,p⟩:=G.pi;have cl:∀r∈rows,r.2.1∈m ->∀h∈kW rows r.1,h∈m:=fun r hr hh h hk=>by
  obtain⟨S,hS,e⟩:=F.to r hr;obtain⟨f,hf,sub⟩:=p.sub S hS;have h1:r.2.1∈f:=sub _ ((e _).mpr (aW.mpr ⟨r,hr,rfl,rfl⟩));have h2:h∈f:=sub _ ((e _).mpr hk);rw[Ca p.dj hm hf hh h1];exact h2
 refine⟨cl,fun ws nw hw=>⟨u.M m,nw,fun r hr=>(hw _).mpr ⟨r,hr,rfl⟩,CQ (G.sr m hm),fun r hr=>(dG.mp hr).2,fun h hh=> ?_,fun C hC hx=> ?_⟩⟩
 ·obtain⟨S,hS,hs⟩:=(p.co h).mp ⟨m,hm,hh⟩;obtain⟨r,hr,e⟩:=F.of S hS;obtain⟨r',hr',_,e2⟩:=aW.mp ((e h).mp hs);exact⟨r',dG.mpr ⟨hr',by rw[e2];exact hh⟩,e2⟩
 ·have key:=p.min (fun x=>x∈m ->C x) (fun S hS hx y hy ym=> ?_) m hm (by
   obtain⟨x,h1,h2⟩:=hx;exact⟨x,h1,fun _=>h2⟩)
  ·exact fun x hx=>key x hx hx
  ·obtain⟨r,hr,e⟩:=F.of S hS;obtain⟨f,hf,sub⟩:=p.sub S hS;have fm:m=f:=Ca p.dj hm hf ym (sub y hy);have inm:∀z∈S,z∈m:=fun z hz=>by rw[fm];exact sub z hz
   have same:∀z,z∈S↔z∈kW (ofM rows m) r.1:=fun z=>by
    rw[fJ];constructor
    ·intro hz;obtain⟨r',h1,h2,h3⟩:=aW.mp ((e z).mp hz);exact⟨r',dG.mpr ⟨h1,by rw[h3];exact inm z hz⟩,h2,h3⟩
    ·rintro⟨r',h1,h2,h3⟩;exact(e z).mpr (aW.mpr ⟨r',(dG.mp h1).1,h2,h3⟩)
   obtain⟨x,hx1,hx2⟩:=hx;obtain⟨r',h1,h2,h3⟩:=fJ.mp ((same x).mp hx1);exact hC r.1 ((hw _).mpr ⟨r',h1,h2⟩) ⟨x,(same x).mp hx1,hx2 (inm x hx1)⟩ y ((same y).mp hy)
theorem z38{rows:List Rw}{m:List Str}{w:Str}:cF (ofM rows m) w=(cF rows w).filter fun r=>decide (r.2.1∈m):=by
 unfold cF ofM;rw[List.filter_filter,List.filter_filter];exact List.filter_congr fun r _=>Bool.and_comm _ _
theorem z1j{rows:List Rw}{m:List Str}{w:Str}(h:∀x∈kW rows w,x∈m):cF (ofM rows m) w=cF rows w:=by
 rw[z38];refine List.filter_eq_self.mpr fun r hr=>decide_eq_true (h _ ?_);exact fJ.mpr ⟨r,(aY.mp hr).1,(aY.mp hr).2,rfl⟩
theorem z5u{rows:List Rw}{m:List Str}{h:Str}(hm:h∈m):pD (ofM rows m) h=pD rows h:=by
 unfold pD ofM;rw[List.filter_filter];refine List.filter_congr fun r _=> ?_;by_cases q:r.2.1=h
 ·simp [q,hm]
 ·simp [q]
theorem z6p{rows:List Rw}{m:List Str}{x:Str ->Rat}(cl:∀r∈rows,r.2.1∈m ->∀h∈kW rows r.1,h∈m){h:Str}(hm:h∈m)(e:mL (ofM rows m) x h):mL rows x h:=by
 unfold mL at e⊢;rw[z5u hm] at e;rw[<- e];refine fG fun r hr=> ?_;have hr' :=dF.mp hr;rw[z1j (cl r hr'.1 (by rw[hr'.2];exact hm))]
theorem zyn{rows:List Rw}{x y:Str ->Rat}{h:Str}(e:∀r∈pD rows h,∀s∈cF rows r.1,x s.2.1=y s.2.1)(q:mL rows x h):mL rows y h:=by
 unfold mL at q⊢;rw[<- q];refine fG fun r hr=> ?_;have hr' :=dF.mp hr;have e1:=e r hr r (aY.mpr ⟨hr'.1,rfl⟩);rw[e1];have e2:ao (cF rows r.1) (fun s=>(s.2.2:Rat) - y s.2.1)=ao (cF rows r.1) fun s=>(s.2.2:Rat) - x s.2.1:=fG fun s hs=>by rw[e r hr s hs]
 rw[e2]
theorem LB.M{rows:List Rw}(L:LB rows)(m:List Str):LB (ofM rows m):=by
 refine⟨zP (List.length_filter_le _ _) L.few,fun r hr=>L.mm r (dG.mp hr).1,fun w=> ?_⟩;rw[z38];exact zP (List.length_filter_le _ _) (L.wk w)
theorem z45{rows:List Rw}{ws:List Str}{ps:List (List Str×List D)}(B:Af rows ws ps)(u:Uq rows):ps=ws.map fun w=>(kW rows w,(cF rows w).map fun r=> .int r.2.2):=by
 apply List.ext_getElem
 ·rw[List.length_map];exact B.len.symm
 ·intro i h1 h2;have hw:i<ws.length:=by rw[B.len];exact h1
  rw[List.getElem_map];exact B.ex u i ws[i] ps[i] (zZ hw) (zZ h1)
theorem z2r(p:List Str×List D):toD (qI p)= .dic (p.1.map .inr) p.2:=by
 unfold qI toD;rw[Lb]
structure Gm (rows:List Rw) (m:List Str) (x:Str ->Rat):Prop where
 ev:∀h∈m,mL rows x h
 em:Ae rows x m
 sz:∀h∈m,Sz 8500 (x h)
theorem Gm.congr{rows:List Rw}{m:List Str}{x y:Str ->Rat}(cl:∀r∈rows,r.2.1∈m ->∀h∈kW rows r.1,h∈m)(g:Gm rows m x)(e:∀h∈m,x h=y h):Gm rows m y:=by
 refine⟨fun h hh=>zyn (fun r hr s hs=>e _ ?_) (g.ev h hh),?_,fun h hh=>by rw[<- e h hh];exact g.sz h hh⟩
 ·have hr' :=dF.mp hr;have hs' :=aY.mp hs;exact cl r hr'.1 (by rw[hr'.2];exact hh) _ (fJ.mpr ⟨s,hs'.1,hs'.2,rfl⟩)
 ·have:=g.em;unfold Ae at this⊢;rw[<- this];exact fG fun r hr=>(e _ (dG.mp hr).2).symm
theorem zsq{hs:List Str}{x y:Str ->Rat}(e:∀h∈hs,x h=y h):gF hs x=gF hs y:=by
 unfold gF;rw[List.map_congr_left (g:=fun h=>qD (y h)) fun h hh=>by rw[e h hh]]
theorem zxh{hs:List Str}{h:Str}{x:Str ->Rat}(n:h∉hs):T.dic (eV (hs.map .inr) (.inr h)) ((cP (hs.map .inr) (hs.map fun h=>qD (x h)) (.inr h) (qD (x h))).map .leaf)=gF (hs++ [h]) x:=by
 rw[zny];unfold jf cP gF;rw[if_neg n,Ai,decide_eq_false n,if_neg Bool.false_ne_true];simp
theorem Uz{α:Type}{l:List α}{i:Nat}(h:i<l.length):l.take (i+1)=l.take i++ [l[i]]:=by rw[List.take_add_one,List.getElem?_eq_getElem h];rfl
theorem rE.hand{rows:List Rw}{ms:List (List Str)}(G:rE rows ms){m:List Str}(hm:m∈ms){x:Str}(hx:x∈m):∃r∈rows,r.2.1=x:=by
 obtain⟨Ss,F,p⟩:=G.pi;obtain⟨S,hS,hs⟩:=(p.co x).mp ⟨m,hm,hx⟩;obtain⟨r,hr,e⟩:=F.of S hS;obtain⟨r',hr',_,e2⟩:=aW.mp ((e x).mp hs);exact⟨r',hr',e2⟩
theorem zr4{K:W.Frag}{c:Cls}{ds Q Ex}(h:Cw c ds Q Ex):zim K c (ur Q) (aG 6 ds) fun _=>Ex:=by
 obtain⟨rows,U,rfl,u,L,hU,hr,h⟩:=h;have s1:=xu;have few:=L.few;intro as;show zfr K c (ur Q) [.pu (aM rows),.tr as (.dic [] []),.no,.no,.no,.no] fun _=>Ex;refine⟨rows,U,rfl,by omega,by omega,hr,fun ms G=> ?_⟩
 simp only [z1w];obtain⟨Ss,F,p⟩:=G.pi;have nd:ms.flatten.Nodup:=Tv p.dj fun f hf=>CQ (G.sr f hf);refine⟨fun i Γ=>∃(as:List Addr) (x:Str ->Rat) (y2 y3 y4 y5:Slot),(∀m∈ms.take i,Gm rows m x)/\Γ= [.pu (aM rows),.tr as (gF (ms.take i).flatten x),y2,y3,y4,y5],⟨as,fun _=>0,_,_,_,_,fun m hm=>by simp at hm,rfl⟩,?_,?_⟩
 ·rintro i d _ hi ⟨as,x,y2,y3,y4,y5,hg,rfl⟩;have hi' :i<ms.length:=by
   have:=(zW.mp hi).1
   rwa [List.length_map] at this
  rw[List.getElem?_map,List.getElem?_eq_getElem hi'] at hi;cases hi;have hm:ms[i]∈ms:=zA hi';have apart:∀h∈ms[i],h∉ (ms.take i).flatten:=fun h hh z=>by
   have:=nd;rw[<- List.take_append_drop i ms,List.flatten_append,List.nodup_append] at this;refine this.2.2 h z h ?_ rfl;refine List.mem_flatten.mpr ⟨ms[i],?_,hh⟩;rw[List.drop_eq_getElem_cons hi'];exact zY
  have cl:=(G.sys u hm).1;have tk:ms.take (i+1)=ms.take i++ [ms[i]]:=Uz hi';have fl:(ms.take (i+1)).flatten=(ms.take i).flatten++ms[i]:=by rw[tk,List.flatten_append];simp
  generalize em:ms[i]=m at*;have sub:∀z∈m,z∈U:=fun z hz=>by
   obtain⟨r,h1,h2⟩:=G.hand hm hz;rw[<- h2];exact hr r h1
  have ndm:m.Nodup:=CQ (G.sr m hm);have Uy:m.length<=12:=zP (Ab ndm sub) hU;show ze3 K c _ [.pu (aM rows),.tr as (gF (ms.take i).flatten x),.pu (gl m),y3,y4,y5] _;show aQ _ (rows.map jL) _;refine vU jL jL (fun r=>decide (r.2.1∈m)) (fun r hr P hp=> ?_) ?_
  ·refine⟨.str r.2.1,uQ (j:=1) rfl,rfl,Ik m,?_⟩;show if (if false then _ else inD (.str r.2.1) (m.map .str))=true then _ else _;rw[CN];by_cases q:r.2.1∈m
   ·rw[decide_eq_true q] at hp⊢;exact hp
   ·rw[decide_eq_false q] at hp⊢;exact hp
  refine⟨ofM rows m,rfl,zP (List.length_filter_le _ _) (by omega),fun ws ps B=> ?_⟩
  have ep:=z45 B (u.M m);have ex:d8 (ps.map qI)=ws.map (vf (ofM rows m)):=by
   rw[Ld,ep,List.map_map];exact List.map_congr_left fun w _=>z2r _
  refine⟨ws.map .inr,d8 (ps.map qI),by simp only [toD];rfl,?_⟩
  rw[ex];have W:oV (ofM rows m) ws:=⟨zP B.lw (L.M m).few,fun w hw z=>by
   obtain⟨r,h1,h2⟩:=(B.wm w).mp hw;have:=aY.mpr ⟨h1,h2⟩;rw[z] at this;cases this⟩
  show zdv K c _ [.pu (aM rows),.tr as (gF (ms.take i).flatten x),.pu (gl m),.pu (jW (ofM rows m) ws),y4,y5] _;refine⟨ofM rows m,ws,m,rfl,(G.sys u hm).2 ws B.nd B.wm,L.M m,W,p.ne m hm,Uy,fun xm ev sm sz=> ?_⟩
  let x' :Str ->Rat:=fun z=>if z∈m then xm z else x z
  have ex1:∀z∈m,x' z=xm z:=fun z hz=>if_pos hz;have ex0:∀z∈ (ms.take i).flatten,x' z=x z:=fun z hz=>if_neg fun q=>apart z q hz;have gm:Gm rows m x' :=Gm.congr cl ⟨fun z hz=>z6p cl hz (ev z hz),sm,sz⟩ fun z hz=>(ex1 z hz).symm;have gms:∀f∈ms.take (i+1),Gm rows f x' :=fun f hf=>by
   rw[tk] at hf;rcases zU.mp hf with hf | hf
   ·exact Gm.congr (G.sys u (List.mem_of_mem_take hf)).1 (hg f hf) fun z hz=>(ex0 z (List.mem_flatten.mpr ⟨f,hf,hz⟩)).symm
   ·rw[List.mem_singleton.mp hf];exact gm
  have ez:iT (m.map D.str) (m.map fun h=>qD (xm h))=m.map fun h=> .tup [.str h,qD (x' h)]:=by
   unfold iT;apply List.ext_getElem
   ·simp
   ·intro j h1 h2;simp only [List.getElem_zipWith,List.getElem_map];rw[ex1 _ (List.getElem_mem _)]
  show j7 (iT (m.map D.str) (m.map fun h=>qD (xm h))) (gq 2 (aP (hName 4) (aP (hName 5) gk))) (zet K c) _ _ [.pu (aM rows),.tr as (gF (ms.take i).flatten x),.pu (gl m),.pu (jW (ofM rows m) ws),y4,y5];rw[ez];have fll:(ms.take i).flatten.length+m.length<=1000:=by
   have h1:((ms.take (i+1)).flatten).Nodup:=by
    rw[<- List.take_append_drop (i+1) ms,List.flatten_append,List.nodup_append] at nd;exact nd.1
   have:=Ab h1 (U:=U) fun z hz=>by
    obtain⟨f,hf,hzf⟩:=List.mem_flatten.mp hz;obtain⟨r,g1,g2⟩:=G.hand (List.mem_of_mem_take hf) hzf;rw[<- g2];exact hr r g1
   rw[fl,List.length_append] at this;omega
  refine⟨fun j Γ=>∃(as:List Addr) (y4 y5:Slot),Γ= [.pu (aM rows),.tr as (gF ((ms.take i).flatten++m.take j) x'),.pu (gl m),.pu (jW (ofM rows m) ws),y4,y5],⟨as,y4,y5,?_⟩,?_,?_⟩
  ·rw[List.take_zero,List.append_nil,zsq fun z hz=>ex0 z hz]
  ·rintro j d _ hj ⟨as,z4,z5,rfl⟩;have hj' :j<m.length:=by
    have:=(zW.mp hj).1
    rwa [List.length_map] at this
   rw[List.getElem?_map,List.getElem?_eq_getElem hj'] at hj;cases hj;have nn:m[j]∉ (ms.take i).flatten++m.take j:=fun z=>by
    rcases zU.mp z with z | z
    ·exact apart _ (zA hj') z
    ·have key:=List.pairwise_iff_getElem.mp ndm;obtain⟨q,hq,e⟩:=List.mem_iff_getElem.mp z;rw[List.length_take] at hq;rw[List.getElem_take] at e;exact key q j (by omega) hj' (by omega) e
   refine⟨rfl,rfl,⟨as,_,rfl⟩,.inr m[j],as,_,((ms.take i).flatten++m.take j).map fun h=>qD (x' h),rfl,rfl,?_,?_⟩
   ·rw[List.length_map,List.length_append,List.length_take];omega
   ·refine⟨as,.pu (.str m[j]),.pu (qD (x' m[j])),?_⟩;show [Slot.pu (aM rows),Slot.tr as (T.dic (eV (((ms.take i).flatten++m.take j).map .inr) (.inr m[j])) ((cP (((ms.take i).flatten++m.take j).map .inr) (((ms.take i).flatten++m.take j).map fun h=>qD (x' h)) (.inr m[j]) (qD (x' m[j]))).map .leaf)),_,_,_,_]=_;rw[zxh nn,List.append_assoc,<- Uz hj']
  ·rintro _ ⟨as,z4,z5,rfl⟩;rw[List.length_map,List.take_length,<- fl];exact⟨as,x',_,_,_,_,gms,rfl⟩
 ·rintro _ ⟨as,x,y2,y3,y4,y5,hg,rfl⟩;rw[List.length_map,List.take_length] at hg⊢;exact h ms x ⟨G,fun m hm=>(hg m hm).ev,fun m hm=>(hg m hm).em,fun m hm=>(hg m hm).sz⟩
theorem Lean.uniq{rows:List Rw}{ms nG :List (List Str)}{x x' :Str ->Rat}(A:Lean rows ms x)(B:Lean rows nG x'):ms=nG /\∀h∈ms.flatten,x h=x' h:=by
 have e:=A.g.uniq B.g (fun _=>Iff.rfl);subst e;refine⟨rfl,fun h hh=> ?_⟩;obtain⟨m,hm,hx⟩:=List.mem_flatten.mp hh;obtain⟨Ss,F,p⟩:=A.g.pi;have all:∀r∈rows,∃m∈ms,r.2.1∈m:=fun r hr=>by
  obtain⟨S,hS,e⟩:=F.to r hr;exact(p.co r.2.1).mpr ⟨S,hS,(e _).mpr (aW.mpr ⟨r,hr,rfl,rfl⟩)⟩
 refine zty (fun r hr=> ?_) (fun r hr=> ?_) (A.em m hm) (B.em m hm) (fun C hC hx=> ?_) (fun g hg=>A.g.hand hm hg) h hx
 ·obtain⟨m,hm,h⟩:=all r hr;exact A.ev m hm _ h
 ·obtain⟨m,hm,h⟩:=all r hr;exact B.ev m hm _ h
 ·refine p.min C (fun S hS hx b hb=> ?_) m hm hx;obtain⟨a,ha,ca⟩:=hx;obtain⟨r,hr,e⟩:=F.of S hS;obtain⟨r1,h1,h2,h3⟩:=aW.mp ((e a).mp ha);obtain⟨r2,g1,g2,g3⟩:=aW.mp ((e b).mp hb);rw[<- g3];exact hC r1 h1 r2 g1 (h2.trans g2.symm) (by rw[h3];exact ca)
theorem zri(xs:List Str):bV (gl xs) (.lst [])=xs.isEmpty:=by
 unfold gl;cases xs with
 | nil=>rfl
 | cons x xs=>simp [bV,cI]
theorem zog{g one:List Str}:(g.filter fun x=>decide (x∈one)).isEmpty= !aF g one:=by
 cases q:aF g one with
 | true=>
  obtain⟨x,h1,h2⟩:=cj.mp q;have:x∈g.filter fun x=>decide (x∈one):=zF.mpr ⟨h1,decide_eq_true h2⟩;cases z:g.filter fun x=>decide (x∈one) with
  | nil=>rw[z] at this;cases this
  | cons _ _=>rfl
 | false=>
  have:(g.filter fun x=>decide (x∈one))= []:=List.filter_eq_nil_iff.mpr fun x hx z=>by
   rw[cj.mpr ⟨x,hx,of_decide_eq_true z⟩] at q;cases q
  rw[this];rfl
theorem zvv{g one:List Str}{P:List D ->Prop}{ti:jH}(h:P ((g.filter fun x=>decide (x∈one)).map .str)):aQ (pP (hName 0) (cT (cB (rW false) (cV 0) (cV 1))) (cV 0) [.no,.pu (gl one)]) (g.map D.str) P:=by
 refine vU D.str D.str (fun x=>decide (x∈one)) (fun x hx P hp=> ?_) h;refine⟨rfl,Ik one,?_⟩;show if (if false then _ else inD (.str x) (one.map .str))=true then P [.str x] else P [];rw[CN];by_cases q:x∈one
 ·rw[decide_eq_true q,if_pos rfl] at hp;simpa [q] using hp
 ·rw[decide_eq_false q,if_neg (by decide)] at hp;simpa [q] using hp
theorem znd{one:D ->(List D ->Prop) ->Prop}:∀{fs:List (List Str)} {P:List D ->Prop},(∀f∈fs,∀P:List D ->Prop,(∀ms:List Str,ms.Pairwise (fun a b=>fZ a b=true) ->(∀x,x∈f↔x∈ms) ->P [gl ms]) ->one (gl f) P) ->
  (∀gs,Alike fs gs ->(∀g∈gs,g.Pairwise fun a b=>fZ a b=true) ->P (gs.map gl)) ->aQ one (fs.map gl) P
 | [],_,_,h=>h [] .nil fun _ z=>by cases z
 | f::fs,P,k,h=>k f zY _ fun ms s1 s2=>znd (fun g hg=>k g (zX _ hg)) fun gs al sr=>h (ms::gs) (.cons s2 al) fun g hg=>by
   rcases zV.mp hg with rfl | hg
   ·exact s1
   ·exact sr g hg
theorem zns{fs:List (List Str)}{S:List Str}(d:fs.Pairwise fun a b=>∀x∈a,x∉b){gs:List (List Str)}(hg:∀g∈gs,g∈fs/\aF g S=true){f:List Str}(hf:f∈fs):aF f (S++gs.flatten)=aF f S:=by
 cases q:aF f S with
 | true=>
  obtain⟨x,h1,h2⟩:=cj.mp q;exact cj.mpr ⟨x,h1,zQ _ h2⟩
 | false=>
  cases z:aF f (S++gs.flatten) with
  | false=>rfl
  | true=>
   obtain⟨x,h1,h2⟩:=cj.mp z;rcases zU.mp h2 with h2 | h2
   ·rw[cj.mpr ⟨x,h1,h2⟩] at q;cases q
   ·obtain⟨g,hg',xg⟩:=List.mem_flatten.mp h2;obtain⟨g1,g2⟩:=hg g hg';have:=Ca d hf g1 h1 xg;subst this;rw[g2] at q;cases q
theorem zj2{p:List Str ->Bool}:∀fs:List (List Str),(fs.filter p).flatten.length+ (fs.filter fun f=> !p f).flatten.length=fs.flatten.length
 | []=>by simp
 | f::fs=>by
  have:=zj2 (p:=p) fs;rw[List.filter_cons,List.filter_cons];cases q:p f<;>simp only [Bool.not_true,Bool.not_false,Bool.false_eq_true,if_true,if_false,List.flatten_cons,List.length_append]<;>omega
theorem zma{K:W.Frag}{c:Cls}{ds Q Ex}(h:HS c ds Q Ex):zf7 K c (fin Q) (aG 7 ds) fun _=>Ex:=by
 obtain⟨rows,U,m,rfl,hU,hu,hm,hl,h⟩:=h;have line:(10000:Nat)<=sizeLine:=by decide
 refine⟨Nat.zero_le _,?_⟩;have few:∀i,∀S∈ (rows.take i).map (fun r=>r.2.1::fO rows r.1),∀x∈S,x∈U:=fun i S hS x hx=>by
  obtain⟨r,hr,rfl⟩:=zG.mp hS;rcases zV.mp hx with rfl | hx
  ·exact hu r (List.mem_of_mem_take hr)
  ·obtain⟨r',h1,_,h3⟩:=aW.mp hx;exact h3 ▸ hu r' h1
 refine⟨fun i Γ=>∃fs x1 x2 x3 x4 x5,dU ((rows.take i).map fun r=>r.2.1::fO rows r.1) fs/\fs.flatten.length<=i* (1+m)/\Γ= [.pu (aM rows),.pu (.lst (fs.map gl)),x1,x2,x3,x4,x5],⟨[],_,_,_,_,_,by simpa using dU.nil,by simp,rfl⟩,?_,?_⟩
 ·rintro i d _ hi ⟨fs,x1,x2,x3,x4,x5,p,hfl,rfl⟩;have hi' :i<rows.length:=by
   have:=(zW.mp hi).1
   rwa [List.length_map] at this
  rw[List.getElem?_map,List.getElem?_eq_getElem hi'] at hi;cases hi;have tk:rows.take (i+1)=rows.take i++ [rows[i]]:=by rw[List.take_add_one,List.getElem?_eq_getElem hi'];rfl
  have hml:=hm rows[i].1;have hb:i* (1+m)+ (1+m)<4000:=by
   have h1:(i+1)* (1+m)<=rows.length* (1+m):=Nat.mul_le_mul_right _ hi';rw[Nat.succ_mul] at h1;omega
  have l3:=Il p.ne;refine⟨rfl,rfl,by show(1:Nat)<=sizeLine;omega,?_⟩
  show aQ _ (rows.map jL) _;refine vU jL (fun r=> .str r.2.1) (fun r=>decide (r.1=rows[i].1)) (fun r hr P hp=> ?_) ?_
  ·refine⟨rfl,rfl,by simp [gQ],?_⟩
   show if bV (.str r.1) (.str rows[i].1)=true then P [.str r.2.1] else P [];rw[zt2];by_cases q:r.1=rows[i].1
   ·rw[decide_eq_true q,if_pos rfl] at hp⊢;exact hp
   ·rw[decide_eq_false q,if_neg (by decide)] at hp⊢;exact hp
  ·have e0:(rows.filter fun r=>decide (r.1=rows[i].1)).map (fun r=>D.str r.2.1)=(fO rows rows[i].1).map .str:=by unfold fO;rw[List.map_map];rfl
   rw[e0];refine⟨by show 1+ ((fO rows rows[i].1).map D.str).length<=sizeLine;rw[List.length_map];omega,?_⟩
   let S:=rows[i].2.1::fO rows rows[i].1
   have hS:S.length<=1+m:=by show(fO rows rows[i].1).length+1<=_;omega
   have gsm:∀j,∀g∈ (fs.take j).filter (fun f=>aF f S),g∈fs/\aF g S=true:=fun j g hg=>by
    obtain⟨h1,h2⟩:=zF.mp hg;exact⟨List.mem_of_mem_take h1,h2⟩
   refine⟨fun j Γ=>∃x,Γ= [.pu (aM rows),.pu (.lst (fs.map gl)),.pu (.str rows[i].1),.pu (.str rows[i].2.1),.pu (.int rows[i].2.2),.pu (gl (S++ ((fs.take j).filter fun f=>aF f S).flatten)),x],⟨_,by simp [S,gl];rfl⟩,?_,?_⟩
   ·rintro j d _ hj ⟨x,rfl⟩;have hj' :j<fs.length:=by
     have:=(zW.mp hj).1
     rwa [List.length_map] at this
    rw[List.getElem?_map,List.getElem?_eq_getElem hj'] at hj;cases hj;have tj:fs.take (j+1)=fs.take j++ [fs[j]]:=by rw[List.take_add_one,List.getElem?_eq_getElem hj'];rfl
    show aQ (pP (hName 0) (cT (cB (rW false) (cV 0) (cV 1))) (cV 0) [.no,.pu (gl (S++ ((fs.take j).filter fun f=>aF f S).flatten))]) (fs[j].map D.str) _;refine zvv (ti:=hName 0) ⟨Nat.zero_le _,zth _,?_⟩;show if (!bV (gl (fs[j].filter fun x=>decide (x∈S++ ((fs.take j).filter fun f=>aF f S).flatten))) (.lst []))=true then _ else _;rw[zri,zog,Bool.not_not,zns p.dj (gsm j) (List.getElem_mem hj')];by_cases q:aF fs[j] S=true
    ·rw[if_pos q];have h1:=La (p:=fun f=>aF f S) (fs.take j);have h2:=zg1 fs (j+1);rw[tj,List.flatten_append,List.length_append] at h2;simp only [List.flatten_cons,List.flatten_nil,List.append_nil] at h2;refine⟨?_,.pu (gl fs[j]),?_⟩
     ·show((S++_).map D.str).length+ (fs[j].map D.str).length<=sizeLine;rw[List.length_map,List.length_append,List.length_map];omega
     ·rw[tj,List.filter_append,List.flatten_append];simp only [List.filter_cons,q,if_true,List.filter_nil,List.flatten_cons,List.flatten_nil,List.append_nil];unfold gl;rw[<- List.append_assoc,List.map_append (l₂:=fs[j])]
      rfl
    ·rw[if_neg q];refine⟨.pu (gl fs[j]),?_⟩;rw[tj,List.filter_append,List.flatten_append];simp only [List.filter_cons,q,Bool.false_eq_true,if_false,List.filter_nil,List.flatten_nil,List.append_nil]
     rfl
   ·rintro _ ⟨x,rfl⟩;have e:fs.take (fs.map gl).length=fs:=by rw[List.length_map,List.take_length]
    rw[e];have gsf:=gsm fs.length;rw[List.take_length] at gsf;dsimp only;unfold zcs;show aQ _ (fs.map gl) _;refine vU gl gl (fun f=> !aF f S) (fun f hf P hp=> ?_) ?_
    ·show aQ (pP (hName 0) (cT (cB (rW false) (cV 0) (cV 1))) (cV 0) [.no,.pu (gl (S++ (fs.filter fun f=>aF f S).flatten))]) (f.map D.str) _;refine zvv (ti:=hName 0) ⟨Nat.zero_le _,zth _,?_⟩;show if bV (gl (f.filter fun x=>decide (x∈S++ (fs.filter fun f=>aF f S).flatten))) (.lst [])=true then P [gl f] else P [];rw[zri,zog,zns p.dj gsf hf];exact(by
      by_cases q:(!aF f S)=true
      ·rw[if_pos q] at hp⊢;exact hp
      ·rw[if_neg q] at hp⊢;exact hp)
    ·have hlf:=List.length_filter_le (fun f=> !aF f S) fs;refine⟨by show(1:Nat)<=sizeLine;omega,by show((fs.filter fun f=> !aF f S).map gl).length+1<=sizeLine;rw[List.length_map];omega,?_⟩
     refine⟨fs.filter (fun f=> !aF f S)++ [S++ (fs.filter fun f=>aF f S).flatten],_,_,_,_,_,?_,?_,by rw[List.map_append];rfl⟩
     ·rw[tk,List.map_append];refine p.step (S:=S) (List.cons_ne_nil _ _) fun x=> ?_;rw[List.mem_append,List.mem_flatten];constructor
      ·rintro(a | ⟨f,hf,a⟩)
       ·exact .inl a
       ·obtain⟨h1,h2⟩:=zF.mp hf;exact .inr ⟨f,h1,h2,a⟩
      ·rintro(a | ⟨f,h1,h2,a⟩)
       ·exact .inl a
       ·exact .inr ⟨f,zF.mpr ⟨h1,h2⟩,a⟩
     ·have:=zj2 (p:=fun f=>aF f S) fs;rw[List.flatten_append,List.length_append];simp only [List.flatten_cons,List.flatten_nil,List.append_nil,List.length_append];rw[Nat.succ_mul];omega
 ·rintro _ ⟨fs,x1,x2,x3,x4,x5,p,hfl,rfl⟩;have e:rows.take (rows.map jL).length=rows:=by rw[List.length_map,List.take_length]
  rw[e] at p;rw[List.length_map] at hfl;have uw :=few rows.length;rw[List.take_length] at uw;show aQ _ (fs.map gl) _;refine znd (fun f hf P hp=> ?_) fun gs al sr=> ?_
  ·refine(show BX [gl f] fun es=>P [.lst es] from zwb (U:=U) ?_ hU (Uo p uw f hf) fun ms s1 s2=>hp ms s1 fun x=>(s2 x).symm);have:f.length<=fs.flatten.length:=by
    obtain⟨a,b,rfl⟩:=List.append_of_mem hf;simp only [List.flatten_append,List.flatten_cons,List.length_append];omega
   omega
  ·have p' :=p.alike al;have l2:=Ur p' (fun f hf=>CQ (sr f hf)) uw;have l3:=Il p'.ne;refine⟨gs,rfl,p'.ne,Um p'.ne p'.dj,by omega,fun ms pm up=>h ms ⟨fun m hm=>sr m (pm.mem_iff.mp hm),up,_,⟨fun S hS=> ?_,fun r hr=> ?_⟩,p'.perm pm⟩⟩
   ·obtain⟨r,hr,rfl⟩:=zG.mp hS;refine⟨r,hr,fun x=>⟨fun hx=> ?_,fun hx=>zX _ hx⟩⟩;rcases zV.mp hx with rfl | hx
    ·exact aW.mpr ⟨r,hr,rfl,rfl⟩
    ·exact hx
   ·refine⟨_,zG.mpr ⟨r,hr,rfl⟩,fun x=>⟨fun hx=> ?_,fun hx=>zX _ hx⟩⟩;rcases zV.mp hx with rfl | hx
    ·exact aW.mpr ⟨r,hr,rfl,rfl⟩
    ·exact hx
theorem rF{n:Nat}(i j:Int):gQ n (.int i) (.int j):=by cases n<;>simp [gQ]
theorem zmi{K:W.Frag}{c:Cls}{ds Q Ex}(h:HW c ds Q Ex):K3 K c (fin Q) (aG 5 ds) fun _=>Ex:=by
 obtain⟨a,b,d,e,n,rfl,he,h⟩:=h;show K3 K c (fin Q) [.pu (.int a),.pu (.int b),.pu (.int d),.pu (.int e),.pu (.int n)] fun _=>Ex;unfold K3
 and_intros
 refine⟨rF _ _,?_⟩;split
 ·exact⟨by decide,h _⟩
 ·unfold zd0
  and_intros
  refine⟨rF _ _,?_⟩;split
  ·refine⟨he,rF _ _,?_⟩;cases bV (.int d) (.int (b.fmod e)) with
   | true=>exact h true
   | false=>exact⟨he,rF _ _,h _⟩
  ·unfold zei
   and_intros
   refine⟨rF _ _,?_⟩;split
   ·refine⟨by decide,by decide,rF _ _,?_⟩
    cases bV (.int (b.fmod 2)) (.int (d.fmod 2)) with
    | true=>exact⟨by decide,h _⟩
    | false=>exact h false
   ·exact h true
theorem xJ:(Str.ofString "abcdefghijklmnopqrstuvwxyz").cps.toList= [97,98,99,100,101,102,103,104,105,106,107,108,109,110,111,112,113,114,115,116,117,118,119,120,121,122]:=by decide+kernel
theorem Ak:(Str.ofString "abcdefghijklmnopqrstuvwxyz").length=26:=by
 show(Str.ofString "abcdefghijklmnopqrstuvwxyz").cps.size=26;rw[<- Array.length_toList,xJ];rfl
def vg(b:Bool):Int:=if b then 1 else 0
theorem xK{i:Int}{k:Nat}(h:i.natAbs<2^k)(hk:k<=9000:=by decide):bA i<=9000:=zP (iM h) hk
theorem z0r(rs:List Rw){k:Nat}(h:k<=rs.length):cutD (rs.map jL) (some (k:Int)) none=(rs.drop k).map jL:=by
 unfold cutD HT.sIx;simp only [List.length_map];rw[if_neg (by omega),Int.toNat_natCast,Nat.min_eq_left h,<- List.map_drop,<- List.map_take,List.take_of_length_le (by rw[List.length_drop];omega)]
theorem z2h(rs:List Rw){k:Nat}(h:k<=rs.length):cutD (rs.map jL) none (some (k:Int))=(rs.take k).map jL:=by
 unfold cutD HT.sIx;simp only [List.length_map];rw[if_neg (by omega),Int.toNat_natCast,Nat.min_eq_left h,List.drop_zero,Nat.sub_zero,<- List.map_take]
theorem z0m{α:Type}{f:α ->D}{xs:List α}{k:Nat}(h:k<xs.length):jl (xs.map f) (k:Int)=some (f xs[k]):=uQ (by rw[List.getElem?_map,List.getElem?_eq_getElem h];rfl)
theorem Ir{k:Nat}(h:k<26):jl (Str.ofString "abcdefghijklmnopqrstuvwxyz").cps.toList (k:Int)=some (97+k):=by
 refine uQ ?_;rw[xJ];have:∀k:Fin 26,[97,98,99,100,101,102,103,104,105,106,107,108,109,110,111,112,113,114,115,116,117,118,119,120,121,122][k.1]?=some (97+k.1):=by decide
 exact this ⟨k,h⟩
theorem Iu{i:Int}(h:0<=i/\i<26):jl (Str.ofString "abcdefghijklmnopqrstuvwxyz").cps.toList i=some (97+i.toNat):=by
 have e:i=((i.toNat:Nat):Int):=by omega
 have:=Ir (k:=i.toNat) (by omega)
 rw[<- e] at this;exact this
def txt(n:Nat)(f:Nat ->Nat):Str:=⟨((List.range n).map f).toArray⟩
theorem zyr(n:Nat)(f:Nat ->Nat):txt n f++ (⟨#[f n]⟩:Str)=txt (n+1) f:=by
 show(⟨((List.range n).map f).toArray++ #[f n]⟩:Str)=⟨((List.range (n+1)).map f).toArray⟩
 congr 1
 rw[List.range_succ,List.map_append];simp
theorem z21{n m:Nat}{f g:Nat ->Nat}(h:txt n f=txt m g):n=m/\∀j,j<n ->f j=g j:=by
 have e:(List.range n).map f=(List.range m).map g:=by
  have:=congrArg (fun s:Str=>s.cps.toList) h
  simpa [txt] using this
 have l:n=m:=by simpa using congrArg List.length e
 subst l;refine⟨rfl,fun j hj=> ?_⟩;have:=congrArg (fun l=>l[j]?) e
 simpa [hj] using this
theorem z0v(n:Nat)(f:Nat ->Nat):(txt n f).length=n:=by
 show((List.range n).map f).toArray.size=n;simp
theorem zvj{α:Type}{g:Nat ->α}{m:Nat}(h:∀i j,i<m ->j<m ->g i=g j ->i=j):((List.range m).map g).Nodup:=by
 refine KQ (R:=fun a b=>a≠b) List.nodup_range fun a ha b hb n e=>n (h a b (List.mem_range.mp ha) (List.mem_range.mp hb) e)
theorem zpl{K:W.Frag}{c:Cls}{ds Q Ex}(h:Cy c ds Q Ex):K1 K c (fin Q) (aG 10 ds) fun _=>Ex:=by
 obtain⟨n,m,rfl,hm,h⟩:=h;have line:(1000:Nat)<=sizeLine:=by decide
 let L:Str:=Str.ofString "abcdefghijklmnopqrstuvwxyz"
 have main:∀sz:Nat,1<=sz/\sz<=8 ->Ua K c (fin Q) [.pu (.int n),.pu (.int m),.pu (.str L),.pu (.int sz),.no,.no,.no,.no,.no,.no] fun _=>Ex:=by
  intro sz hsz;unfold Ua
  and_intros
  refine⟨⟨by decide,zP (iM (k:=5) (by decide)) (by decide)⟩,by omega,?_⟩
  obtain⟨at_,ea,hat⟩:=CK (i:=n.fdiv 24) (n:=sz) (by omega)
  rw[ea]
  let one:Bool:=decide (n.fmod 3=1)
  let num:Nat ->Int:=fun j=>(n.fdiv 24*48271+ (j:Int)* (j:Int)*69621+ (j:Int)*7).fmod 2147483647
  let f:Nat ->Nat ->Nat:=fun k j=>97+ ((num j+ (k:Int)*vg (decide ((j:Int)=(at_:Int))&& !one)).fmod 26).toNat
  let ln:Nat ->Nat:=fun k=>sz+k* (if one=true then 1 else 0)
  have BP:∀k,k<20 ->ln k<=28:=fun k hk=>by
   show sz+k* (if one=true then 1 else 0)<=28;split<;>omega
  let nm:Nat ->Str:=fun k=>txt (ln k) (f k)
  have inj:∀i j,i<m ->j<m ->nm i=nm j ->i=j:=fun i j hi hj e=>by
   obtain⟨e1,e2⟩:=z21 e;have e1' :sz+i* (if one=true then 1 else 0)=sz+j* (if one=true then 1 else 0):=e1;by_cases o:one=true
   ·rw[if_pos o] at e1';omega
   ·have e3:=e2 at_ (by show at_<sz+_;omega)
    have e3' :97+ ((num at_+ (i:Int)*vg (decide ((at_:Int)=(at_:Int))&& !one)).fmod 26).toNat=97+ ((num at_+ (j:Int)*vg (decide ((at_:Int)=(at_:Int))&& !one)).fmod 26).toNat:=e3;rw[decide_eq_true rfl] at e3';have ob:one=false:=by simpa using o
    rw[ob] at e3';have l1:=Ii (i:=num at_+ (i:Int)*vg (true&& !false)) (m:=26) (by decide)
    have l2:=Ii (i:=num at_+ (j:Int)*vg (true&& !false)) (m:=26) (by decide)
    have b1:vg (true&& !false)=1:=rfl;rw[b1,Int.mul_one] at l1 l2;rw[b1,Int.mul_one,Int.mul_one] at e3';rw[Int.fmod_eq_emod_of_nonneg _ (by decide)] at e3' l1 l2
    rw[Int.fmod_eq_emod_of_nonneg _ (by decide)] at e3'
    omega
  unfold ze4
  and_intros
  refine⟨Nat.zero_le _,?_⟩;unfold ze1;refine⟨⟨by omega,by omega⟩,fun k Γ=>∃(x1 x2 x3 x4:Slot),Γ= [.pu (.int n),.pu (.int m),.pu (.str L),.pu (.int sz),.pu (.int at_),.ow (((List.range k).map nm).map .str),x1,x2,x3,x4],⟨_,_,_,_,rfl⟩,?_,?_⟩
  ·rintro k _ hk ⟨x1,x2,x3,x4,rfl⟩;have UG:k<20:=by omega
   show T9 K c _ [.pu (.int n),.pu (.int m),.pu (.str L),.pu (.int sz),.pu (.int at_),.ow (((List.range k).map nm).map .str),.pu (.int (0+ (k:Int))),x2,x3,x4] _;rw[Int.zero_add];unfold T9
   and_intros
   unfold zc7
   and_intros
   refine⟨by show(3:Int)≠0;decide,rF _ _,?_⟩
   and_intros
   rw[CJ];have hb:(if decide (n.fmod 3=1)=true then(1:Int) else 0)=((if one=true then 1 else 0:Nat):Int):=by
    show(if one=true then(1:Int) else 0)=_;split<;>rfl
   rw[hb];refine⟨.inl (zP (iM (k:=5) (by omega)) (by decide)),?_⟩
   have hr:(sz:Int)+ (k:Int)* ((if one=true then 1 else 0:Nat):Int)=((ln k:Nat):Int):=by
    show _=((sz+k* (if one=true then 1 else 0):Nat):Int);rw[Int.natCast_add,Int.natCast_mul]
   rw[hr];have abu:=BP k UG;refine⟨⟨by omega,by omega⟩,fun j Γ=>∃x3 x4,Γ= [.pu (.int n),.pu (.int m),.pu (.str L),.pu (.int sz),.pu (.int at_),.ow (((List.range k).map nm).map .str),.pu (.int k),.pu (.str (txt j (f k))),x3,x4],⟨_,_,rfl⟩,?_,?_⟩
   ·rintro j _ hj ⟨y3,y4,rfl⟩;have abv:j<28:=by omega
    show T8 K c _ [.pu (.int n),.pu (.int m),.pu (.str L),.pu (.int sz),.pu (.int at_),.ow (((List.range k).map nm).map .str),.pu (.int k),.pu (.str (txt j (f k))),.pu (.int (0+ (j:Int))),y4] _;rw[Int.zero_add];have bj:bA (j:Int)<=64:=zP (iM (k:=5) (by omega)) (by decide)
    unfold T8
    and_intros
    refine⟨⟨by decide,zP (iM (k:=5) (by decide)) (by decide)⟩,.inr (.inl (iM (by decide))),.inl bj,.inr (.inl (iM (by decide))),.inl bj,by decide,?_⟩
    show T7 K c _ [.pu (.int n),.pu (.int m),.pu (.str L),.pu (.int sz),.pu (.int at_),.ow (((List.range k).map nm).map .str),.pu (.int k),.pu (.str (txt j (f k))),.pu (.int j),.pu (.int (num j))] _;unfold T7
    and_intros
    refine⟨rF _ _,?_⟩;have step:∀t:Bool,t=(decide ((j:Int)=(at_:Int))&& !one) ->pL (k:Int) (vg t)/\ (26:Int)≠0/\∃ch:Nat,L.length<=sizeLine/\jl L.cps.toList ((num j+ (k:Int)*vg t).fmod 26)=some ch/\ (txt j (f k)).length+ (⟨#[ch]⟩:Str).length<=sizeLine/\∃z3 z4,[Slot.pu (.int n),.pu (.int m),.pu (.str L),.pu (.int sz),.pu (.int at_),.ow (((List.range k).map nm).map .str),.pu (.int k),.pu (.str (txt j (f k)++ (⟨#[ch]⟩:Str))),.pu (.int j),.pu (.int (num j))]= [.pu (.int n),.pu (.int m),.pu (.str L),.pu (.int sz),.pu (.int at_),.ow (((List.range k).map nm).map .str),.pu (.int k),.pu (.str (txt (j+1) (f k))),z3,z4]:=fun t et=>by
     have hch:=Iu (Ii (i:=num j+ (k:Int)*vg t) (m:=26) (by decide))
     refine⟨.inl (zP (iM (k:=5) (by omega)) (by decide)),by decide,_,by rw[show L.length=26 from Ak];omega,hch,by rw[z0v];show j+1<=sizeLine;omega,.pu (.int j),.pu (.int (num j)),?_⟩
     subst et;rw[show(97+ ((num j+ (k:Int)*vg (decide ((j:Int)=(at_:Int))&& !one)).fmod 26).toNat)=f k j from rfl,zyr]
    rw[CJ];by_cases q:(j:Int)=(at_:Int)
    ·rw[decide_eq_true q];rw[decide_eq_true q] at step;refine⟨by decide,rF _ _,?_⟩
     rw[CJ];exact step _ rfl
    ·rw[decide_eq_false q];rw[decide_eq_false q] at step;exact step false rfl
   ·rintro _ ⟨y3,y4,rfl⟩;rw[Int.toNat_natCast];refine⟨⟨_,rfl⟩,by rw[List.length_map,List.length_map,List.length_range];omega,.pu (.int k),.pu (.str (txt (ln k) (f k))),y3,y4,?_⟩
    rw[List.range_succ,List.map_append,List.map_append]
    rfl
  ·rintro _ ⟨x1,x2,x3,x4,rfl⟩;rw[Int.toNat_natCast];exact h _ (by simp) (zvj inj)
 show K1 K c (fin Q) [.pu (.int n),.pu (.int m),.no,.no,.no,.no,.no,.no,.no,.no] fun _=>Ex;unfold K1
 and_intros
 unfold zex
 and_intros
 refine⟨⟨by decide,zP (iM (k:=2) (by decide)) (by decide)⟩,by decide,?_⟩
 obtain⟨t8,e8,h8⟩:=CK (i:=n.fdiv 3) (n:=8) (by decide)
 rw[show(n.fdiv 3).fmod 8=(t8:Int) from e8];unfold ze5
 and_intros
 refine⟨by decide,rF _ _,?_⟩
 split
 ·exact main 1 (by omega)
 ·have:=main (1+t8) (by omega)
  rw[Int.natCast_add] at this;exact this
theorem z2u{a b:List Rw}(p:a.Perm b)(u:Uq b):Uq a:=(List.Perm.pairwise_iff (R:=fun(a b:Rw)=>¬(a.1=b.1/\a.2.1=b.2.1)) (fun h z=>h ⟨z.1.symm,z.2.symm⟩) p).mpr u
theorem zru{K:W.Frag}{c:Cls}{ds Q Ex}(h:HX c ds Q Ex):K4 K c (fin Q) (aG 12 ds) fun _=>Ex:=by
 obtain⟨ns,hands,works,rfl,hl,h1,h5,h8,h⟩:=h;have line:(1000:Nat)<=sizeLine:=by decide
 let S:D:= .lst (ns.map .int)
 have main:∀(way most:Int),0<most ->most<=10^12 ->Ud K c (fin Q) [.pu S,.pu (.int hands),.pu (.int works),.pu (.int way),.pu (.int most),.no,.no,.no,.no,.no,.no,.no] fun _=>Ex:=by
  intro way most hm0 hm1;have Iv:most≠0:=by omega
  unfold Ud
  and_intros
  refine⟨ns,4,rfl,hl,by omega,_,works,rfl,by omega,fun nms hnm nnd=> ?_⟩
  unfold zf4
  and_intros
  refine⟨ns,5,rfl,hl,by omega,_,hands,rfl,by omega,fun vW hpp pnd=> ?_⟩
  unfold zfj
  and_intros
  refine⟨Nat.zero_le _,?_⟩;unfold zfq;refine⟨⟨by omega,by omega⟩,fun w Γ=>∃(rows:List Rw) (x8 x9 x10:Slot),rows.length<=w*hands/\ (∀r∈rows,r.2.1∈vW)/\ (Uq rows/\ (∀r∈rows,r.2.2.natAbs<2^40)/\∀r∈rows,∃v,v<w/\nms[v]?=some r.1)/\Γ= [.pu S,.pu (.int hands),.pu (.int works),.pu (.int way),.pu (.int most),.pu (.lst (nms.map .str)),.pu (.lst (vW.map .str)),.ow (rows.map jL),x8,x9,x10,.no],⟨[],_,_,_,by simp,fun r hr=>by(cases hr),⟨List.Pairwise.nil,fun r hr=>by(cases hr),fun r hr=>by(cases hr)⟩,rfl⟩,?_,?_⟩
  ·rintro w _ hw ⟨rows,x8,x9,x10,hrl,xM,⟨uq,mk,wv⟩,rfl⟩;have hw8:w<works:=by omega
   have xH:w*hands<=8*5:=Nat.mul_le_mul (by omega) h5
   show Uc K c _ [.pu S,.pu (.int hands),.pu (.int works),.pu (.int way),.pu (.int most),.pu (.lst (nms.map .str)),.pu (.lst (vW.map .str)),.ow (rows.map jL),.pu (.int (0+ (w:Int))),x9,x10,.no] _;rw[Int.zero_add];unfold Uc;refine⟨⟨by omega,by omega⟩,fun q Γ=>∃(rows:List Rw) (x9 x10:Slot),rows.length<=w*hands+q/\ (∀r∈rows,r.2.1∈vW)/\ (Uq rows/\ (∀r∈rows,r.2.2.natAbs<2^40)/\∀r∈rows,∃v,nms[v]?=some r.1/\ (v<w\/v=w/\∃o,o<q/\vW[o]?=some r.2.1))/\Γ= [.pu S,.pu (.int hands),.pu (.int works),.pu (.int way),.pu (.int most),.pu (.lst (nms.map .str)),.pu (.lst (vW.map .str)),.ow (rows.map jL),.pu (.int (w:Int)),x9,x10,.no],⟨rows,_,_,hrl,xM,⟨uq,mk,fun r hr=>by obtain⟨v,h1,h2⟩:=wv r hr;exact⟨v,h2,.inl h1⟩⟩,rfl⟩,?_,?_⟩
   ·rintro q _ hq ⟨rows,x9,x10,hrl,xM,⟨uq,mk,wv⟩,rfl⟩;have wB:q<hands:=by omega
    show Ub K c _ [.pu S,.pu (.int hands),.pu (.int works),.pu (.int way),.pu (.int most),.pu (.lst (nms.map .str)),.pu (.lst (vW.map .str)),.ow (rows.map jL),.pu (.int (w:Int)),.pu (.int (0+ (q:Int))),x10,.no] _;rw[Int.zero_add];unfold Ub
    and_intros
    refine⟨.inl (zP (iM (k:=4) (by omega)) (by decide)),ns,6+w*hands+q,?_,hl,by omega,?_⟩
    ·rw[Int.natCast_add,Int.natCast_add,Int.natCast_mul];rfl
    generalize iC ns (6+w*hands+q)=cv;unfold zdu
    and_intros
    refine⟨way,(w:Int),(q:Int),(hands:Int),cv,rfl,by omega,fun t=> ?_⟩
    cases t with
    | false=>exact⟨rows,_,_,by omega,xM,⟨uq,mk,fun r hr=>by obtain⟨v,h1,h2⟩:=wv r hr;exact⟨v,h1,h2.imp id fun⟨a,o,b,c⟩=>⟨a,o,by omega,c⟩⟩⟩,rfl⟩
    | true=>
     refine⟨⟨_,rfl⟩,_,z0m (by omega),_,z0m (by omega),⟨by decide,xK (k:=4) (by decide)⟩,Iv,?_⟩
     refine⟨by show(3:Nat)<=sizeLine;omega,by rw[List.length_map];omega,rows++ [(nms[w],vW[q],(cv.fdiv 12).fmod most)],_,_,by rw[List.length_append,List.length_singleton];omega,fun r hr=> ?_,⟨?_,fun r hr=> ?_,fun r hr=> ?_⟩,by rw[List.map_append];rfl⟩
     ·rcases zU.mp hr with hr | hr
      ·exact xM r hr
      ·rw[List.mem_singleton.mp hr];exact zA _
     ·refine List.pairwise_append.mpr ⟨uq,List.pairwise_singleton _ _,fun a ha b hb z=> ?_⟩;rw[List.mem_singleton.mp hb] at z;obtain⟨v,h1,h2⟩:=wv a ha;rw[z.1] at h1;obtain⟨hv,ev⟩:=zW.mp h1;have evw:v=w:=K9 nnd hv (by omega) ev
      rcases h2 with h2 | ⟨_,o,ho,h3⟩
      ·omega
      ·rw[z.2] at h3;obtain⟨hv',ev'⟩:=zW.mp h3;have:=K9 pnd hv' (by omega) ev'
       omega
     ·rcases zU.mp hr with hr | hr
      ·exact mk r hr
      ·rw[List.mem_singleton.mp hr];have l:=Ii (i:=cv.fdiv 12) (m:=most) hm0;show((cv.fdiv 12).fmod most).natAbs<2^40;omega
     ·rcases zU.mp hr with hr | hr
      ·obtain⟨v,h1,h2⟩:=wv r hr;exact⟨v,h1,h2.imp id fun⟨a,o,b,c⟩=>⟨a,o,by omega,c⟩⟩
      ·rw[List.mem_singleton.mp hr];exact⟨w,zZ _,.inr ⟨rfl,q,by omega,zZ _⟩⟩
   ·rintro _ ⟨rows,x9,x10,hrl,xM,⟨uq,mk,wv⟩,rfl⟩;refine⟨rows,_,_,_,?_,xM,⟨uq,mk,fun r hr=> ?_⟩,rfl⟩
    ·rw[Nat.succ_mul];omega
    ·obtain⟨v,h1,h2⟩:=wv r hr;exact⟨v,by rcases h2 with h2 | h2<;>omega,h1⟩
  ·rintro _ ⟨rows,x8,x9,x10,hrl,xM,⟨uq,mk,wv⟩,rfl⟩;have xH:works*hands<=8*5:=Nat.mul_le_mul h8 h5;have abw:rows.length<=40:=zP hrl (by simpa using xH)
   dsimp only;unfold zfn
   and_intros
   refine⟨ns,3,rfl,hl,by omega,⟨by decide,xK (k:=3) (by decide)⟩,trivial,?_,?_⟩
   ·rw[List.length_map];omega
   obtain⟨t,et,ht⟩:=CK (i:=(iC ns 3).fdiv 4) (n:=rows.length+1) (Nat.succ_pos _);rw[show(((rows.map jL).length:Nat):Int)+1=((rows.length+1:Nat):Int) by rw[List.length_map];rfl,et]
   unfold zft
   and_intros
   rw[z0r rows (by omega),z2h rows (by omega)]
   refine⟨by rw[List.length_map,List.length_map,List.length_drop,List.length_take];omega,?_⟩
   rw[<- List.map_append];have pm:(rows.drop t++rows.take t).Perm rows:=by
    have:=List.perm_append_comm (l₁:=rows.drop t) (l₂:=rows.take t)
    rwa [List.take_append_drop] at this
   refine h (rows.drop t++rows.take t) vW (by rw[List.length_append,List.length_drop,List.length_take];omega) (by omega) (fun r hr=>xM r (pm.mem_iff.mp hr)) (z2u pm uq) fun r hr=>mk r (pm.mem_iff.mp hr)
 show K4 K c (fin Q) [.pu S,.pu (.int hands),.pu (.int works),.no,.no,.no,.no,.no,.no,.no,.no,.no] fun _=>Ex;unfold K4
 and_intros
 refine⟨ns,2,rfl,hl,by omega,by decide,?_⟩
 unfold zf2
 and_intros
 refine⟨show yg 10 12 from ⟨by decide,by decide,by decide⟩,by show(4:Nat)<=sizeLine;omega,ns,3,rfl,hl,by omega,by decide,?_⟩
 obtain⟨t,et,ht⟩:=CK (i:=iC ns 3) (n:=4) (by decide)
 rw[show(4:Int)=((4:Nat):Int) from rfl,et]
 match t,ht with
 | 0,_=>exact⟨_,rfl,main _ _ (by decide) (by decide)⟩
 | 1,_=>exact⟨_,rfl,main _ _ (by decide) (by decide)⟩
 | 2,_=>exact⟨_,rfl,main _ _ (by decide) (by decide)⟩
 | 3,_=>exact⟨_,rfl,main _ _ (by decide) (by decide)⟩
theorem zlk{K:W.Frag}{c:Cls}{ds Q Ex}(h:Cz c ds Q Ex):ze0 K c (fin Q) (aG 2 ds) fun _=>Ex:=by
 obtain⟨i,j,rfl,h⟩:=h;refine⟨fun m Γ=>∃a b:Int,Γ= [.pu (.int a),.pu (.int b)]/\0<=a/\0<=b/\m=b.natAbs/\Int.gcd a b=Int.gcd i j,⟨_,(if i<0 then -i else i),(if j<0 then -j else j),rfl,by split<;>omega,by split<;>omega,rfl,?_⟩,?_⟩
 ·have e1:(if i<0 then -i else i)=(i.natAbs:Int):=by split<;>omega
  have e2:(if j<0 then -j else j)=(j.natAbs:Int):=by split<;>omega
  rw[e1,e2];rfl
 rintro m _ ⟨a,b,rfl,ha,hb,rfl,hg⟩;show if decide (0<b)=true then _ else _;by_cases hz:0<b
 ·rw[if_pos (by simpa using hz)]
  have h0:b≠0:=by omega
  refine⟨h0,_,Te h0,b,a.fmod b,rfl,hb,?_,rfl,by rw[zqo,hg]⟩
  rw[Int.fmod_eq_emod_of_nonneg _ hb];exact Int.emod_nonneg _ h0
 ·rw[if_neg (by simpa using hz)]
  have:b=0:=by omega
  subst this;rw[Int.gcd_zero_right] at hg;show Q (.int a);have e:a=((Int.gcd i j:Nat):Int):=by omega
  rw[e];exact h
theorem zmv{x:Str ->D}{h:Str}:∀{hs:List Str},eY (hs.map .inr) (hs.map x) (.inr h)=if h∈hs then some (x h) else none
 | []=>rfl
 | g::hs=>by
  rw[List.map_cons,List.map_cons];unfold eY;by_cases q:g=h
  ·rw[if_pos (by rw[q]),if_pos (by rw[q];exact List.mem_cons_self),q]
  ·rw[if_neg (fun z=>q (by injection z)),zmv (hs:=hs)]
   by_cases p:h∈hs
   ·rw[if_pos p,if_pos (List.mem_cons_of_mem _ p)]
   ·rw[if_neg p,if_neg fun z=>by
     rcases zV.mp z with z | z
     ·exact q z.symm
     ·exact p z]
theorem zv7{hs:List Str}{x:Str ->Rat}{h:Str}(hh:h∈hs){P:D ->Prop}(hp:P (qD (x h))):pQ (mO hs x) (.str h) P:=
 ⟨_,_,.inr h,_,rfl,rfl,by rw[zmv (x:=fun h=>qD (x h)),if_pos hh],hp⟩
def leI(x:Str ->Rat)(B:Int)(h:Str):Int:=(x h).num*B.fdiv ((x h).den:Int)
theorem zxq{B d:Int}(h:d∣B)(h0:d≠0):(B.fdiv d).natAbs<=B.natAbs:=by
 have e:=congrArg Int.natAbs (Aa h);rw[Int.natAbs_mul] at e;rw[<- e];exact Nat.le_mul_of_pos_left _ (by omega)
def dcT(ws:List Str)(f:Str ->Int):T:= .dic (ws.map .inr) ((ws.map fun w=> .int (f w)).map .leaf)
def lA{α:Type}(l:List α)(f:α ->Int):Int:=(l.map f).sum
theorem zn7{α:Type}(l:List α)(f:α ->Int):(lA l f:Rat)=ao l fun a=>(f a:Rat):=Lg f l
structure Met (rows:List Rw) (k:Rw ->Str) (ws:List Str):Prop where
 nd:ws.Nodup
 mem:∀w,w∈ws↔∃r∈rows,k r=w
 len:ws.length<=rows.length
theorem zuh{α:Type}{f:α ->Int}{M:Nat}:∀{l:List α},(∀a∈l,bA (f a)<=M) ->bA ((l.map f).sum)<=M+l.length
 | [],_=>by
  have:bA 0=0:=by decide
  show bA 0<=_;omega
 | a::l,h=>by
  rw[List.map_cons,List.sum_cons,List.length_cons];have h1:=h a zY;have h2:=zuh (l:=l) fun b hb=>h b (zX _ hb);have:=Ph (f a) ((l.map f).sum);omega
theorem UJ(m:Int)(q:Rat):(m:Rat) - q=((m*q.den - q.num:Int):Rat)/ ((q.den:Int):Rat):=by
 have h:=z0f (m:Rat) q;have e1:((m:Rat)).num=m:=rfl;have e2:((m:Rat)).den=1:=rfl;rw[e1,e2] at h;have e3:m* (q.den:Int) - q.num* ((1:Nat):Int)=m*q.den - q.num:=by rw[Int.natCast_one,Int.mul_one]
 have e4:((1:Nat):Int)* (q.den:Int)=q.den:=by rw[Int.natCast_one,Int.one_mul]
 rw[e3,e4] at h;exact h
theorem z3q{m:Int}{q:Rat}(hm:m.natAbs<2^100)(hq:Sz 8500 q):bA (m*q.den - q.num)<=8900/\Sz 8900 ((m:Rat) - q):=by
 have dp:=q.den_pos;have d0:(q.den:Int)≠0:=by omega
 have k1:=wD m q.den;have k2:=Xh (m*q.den) q.num;have k3:=iM hm;obtain⟨z1,z2⟩:=hq;have b:bA (m*q.den - q.num)<=8900:=by omega
 have f:=G4 (t:=m*q.den - q.num) d0;have e1:=congrArg Prod.fst f;have e2:=congrArg Prod.snd f;dsimp only at e1 e2;refine⟨b,?_,?_⟩
 ·rw[UJ,<- e1];exact zP (qU (Tj d0)) b
 ·rw[UJ,<- e2];exact zP (qU (Tn d0)) (by omega)
theorem Lean.mem{rows:List Rw}{ms:List (List Str)}{x:Str ->Rat}(G:Lean rows ms x){r:Rw}(hr:r∈rows):r.2.1∈ms.flatten:=by
 obtain⟨Ss,F,p⟩:=G.g.pi;obtain⟨T,hT,e⟩:=F.to r hr;obtain⟨f,hf,hx⟩:=(p.co r.2.1).mpr ⟨T,hT,(e _).mpr (aW.mpr ⟨r,hr,rfl,rfl⟩)⟩;exact List.mem_flatten.mpr ⟨f,hf,hx⟩
theorem Lean.szr{rows:List Rw}{ms:List (List Str)}{x:Str ->Rat}(G:Lean rows ms x){r:Rw}(hr:r∈rows):Sz 8500 (x r.2.1):=by
 obtain⟨f,hf,hx⟩:=List.mem_flatten.mp (G.mem hr);exact G.sz f hf _ hx
theorem zm9(hs:List Str)(x:Str ->Rat):D.dik (hs.map .inr) (d8 ((hs.map fun h=>qD (x h)).map .leaf))=mO hs x:=by rw[Lb];rfl
theorem zsl{K:W.Frag}{c:Cls}{ds Q Ex}(h:HY c ds Q Ex):zid K c (fin Q) (aG 2 ds) fun _=>Ex:=by
 obtain⟨rows,U,rfl,u,L,b1,b2,h⟩:=h;have s1:=xu;refine⟨rows,U,rfl,u,L,b1,b2,fun ms x G=> ?_⟩;show zfy K c (fin Q) [.pu (aM rows),.pu (.dik (ms.flatten.map .inr) (d8 ((ms.flatten.map fun h=>qD (x h)).map .leaf)))] fun _=>Ex;rw[zm9];show aQ _ (rows.map jL) _;refine vR jL (uo x) (fun r hr P hp=>⟨rfl,rfl,?_⟩) (h ms x G);refine⟨by show(2:Nat)<=sizeLine;omega,?_⟩
 show pQ (mO ms.flatten x) (.str r.2.1) _;refine zv7 (G.mem hr) ⟨(r.2.2:Rat),x r.2.1,by rw[G5],.inr ⟨Tq (zP (iM (L.mm r hr)) (by decide)) (by decide),G.szr hr⟩,?_⟩
 exact⟨by show(3:Nat)<=sizeLine;omega,hp⟩
theorem zwg{K:W.Frag}{c:Cls}{ds Q Ex}(h:Ia c ds Q Ex):zj6 K c (fin Q) (aG 3 ds) fun _=>Ex:=by
 obtain⟨i,j,rfl,b1,b2,hj,h⟩:=h;rw[<- z3e hj] at h;refine⟨i,j,rfl,?_⟩;obtain⟨d0,d1⟩:=zmn (i:=i) hj;show if decide (j<0)=true then _ else _;by_cases hn:j<0
 ·rw[if_pos (by simpa using hn)]
  have e:dv i j=0 - ((Int.gcd i j:Nat):Int):=by unfold dv;rw[if_pos hn];omega
  exact⟨⟨by rw[<- e];exact d0,by rw[<- e];exact d1 _ b1 b2⟩,⟨by rw[<- e];exact d0,by rw[<- e];exact d1 _ b1 b2⟩,by show(2:Nat)<=sizeLine;decide,by rw[<- e];exact h⟩
 ·rw[if_neg (by simpa using hn)]
  have e:dv i j=((Int.gcd i j:Nat):Int):=by unfold dv;rw[if_neg hn]
  exact⟨⟨by rw[<- e];exact d0,by rw[<- e];exact d1 _ b1 b2⟩,⟨by rw[<- e];exact d0,by rw[<- e];exact d1 _ b1 b2⟩,by show(2:Nat)<=sizeLine;decide,by rw[<- e];exact h⟩
theorem zm0{K:W.Frag}{c:Cls}{ds Q Ex}(h:Ib c ds Q Ex):zfo K c (fin Q) (aG 5 ds) fun _=>Ex:=by
 obtain⟨rows,x,rfl,hl,sz,h⟩:=h;show j7 (rows.map (uo x)) _ (zdw K c) _ _ _;refine⟨fun i Γ=>∃(μ:Int) (y2 y3 y4:Slot),Γ= [.pu (iW rows x),.pu (.int μ),y2,y3,y4]/\0<μ/\bA μ<=8900*i+1/\∀r∈rows.take i,(((r.2.2:Rat) - x r.2.1).den:Int)∣μ,⟨1,_,_,_,rfl,by decide,by decide,fun h hh=>by simp at hh⟩,?_,?_⟩
 ·rintro i d _ hi ⟨μ,y2,y3,y4,rfl,hμ,bμ,hd⟩;have hi' :i<rows.length:=by
   have:=(zW.mp hi).1
   rwa [List.length_map] at this
  rw[List.getElem?_map,List.getElem?_eq_getElem hi'] at hi;cases hi;have hm:rows[i]∈rows:=zA hi';have zi:=(sz _ hm).2;have snoc:=Uz hi';generalize rows[i]=r at hm zi snoc⊢;obtain⟨q,eq⟩:∃q,q=(r.2.2:Rat) - x r.2.1:=⟨_,rfl⟩;have dp:(0:Int)<q.den:=by have:=q.den_pos;omega
  obtain⟨g0,p1,p2,p3,p4,p5⟩:=zqp hμ dp;rw[<- eq] at zi;have b4:=zP (qU p4) zi;have b5:=zP (qU p5) zi;have bm:=wD μ (q.den.cast (R:=Int) |>.fdiv (Int.gcd μ q.den:Int))
  have hv:uo x r= .tup [.str r.1,.str r.2.1,qD q]:=by rw[eq];rfl
  rw[hv];refine⟨rfl,rfl,_,at1,_,at1,μ,q.den,rfl,⟨g0,by omega⟩,.inr (.inr (by omega)),_,_,_,_,rfl,p1,by omega,fun s hh=> ?_⟩
  rw[snoc] at hh;rcases zU.mp hh with hh | hh
  ·exact Int.dvd_trans (hd s hh) p2
  ·rw[List.mem_singleton.mp hh,<- eq];exact p3
 ·rintro _ ⟨μ,y2,y3,y4,rfl,hμ,bμ,hd⟩;rw[List.length_map,List.take_length] at hd;rw[List.length_map] at bμ;exact h μ hμ hd (by omega)
theorem zof{K:W.Frag}{c:Cls}{ds Q Ex}(h:Ie c ds Q Ex):zfp K c (fin Q) (aG 5 ds) fun _=>Ex:=by
 obtain⟨rows,x,m,rfl,hl,sz,mk,em,h⟩:=h;refine⟨rows,x,rfl,hl,sz,fun B B0 dv bB=> ?_⟩;show zec K c (fin Q) [.pu (aM rows),.pu (iW rows x),.pu (gl m),.pu (.int B),.no] fun _=>Ex;show aQ _ (rows.map jL) _;refine vU jL (fun r=>D.int r.2.2) (fun r=>decide (r.2.1∈m)) (fun r hr P hp=>⟨rfl,rfl,rfl,Ik m,?_⟩) ?_
 ·show if (if false then _ else inD (.str r.2.1) (m.map .str))=true then _ else _;rw[if_neg Bool.false_ne_true,CN];by_cases q:r.2.1∈m
  ·rw[if_pos (decide_eq_true q)] at hp⊢;exact hp
  ·rw[if_neg (by simpa using q)] at hp⊢;exact hp
 refine⟨_,Lf (fun r:Rw=>r.2.2) _,?_⟩;show zd4 K c (fin Q) [.pu (aM rows),.pu (iW rows x),.pu (gl m),.pu (.int B),.pu (.int (lA (ofM rows m) fun r=>r.2.2))] fun _=>Ex;show aQ _ (rows.map (uo x)) _
 let y:Rw ->Rat:=fun r=>(r.2.2:Rat) - x r.2.1
 refine vU (uo x) (fun r=>D.int ((y r).num*B.fdiv ((y r).den:Int))) (fun r=>decide (r.2.1∈m)) (fun r hr P hp=>⟨rfl,rfl,rfl,Ik m,?_⟩) ?_
 ·show if (if false then _ else inD (.str r.2.1) (m.map .str))=true then _ else _;rw[if_neg Bool.false_ne_true,CN];by_cases q:r.2.1∈m
  ·rw[if_pos (decide_eq_true q)];rw[if_pos (decide_eq_true q)] at hp;have z:=sz r hr;have dp:=(y r).den_pos;have b1:=qU (zxq (dv r hr) (by show((y r).den:Int)≠0;omega))
   refine⟨_,at0,_,at1,⟨by show((y r).den:Int)≠0;omega,zP z.2 (by decide)⟩,.inr (.inr ?_),hp⟩
   have:=z.1;omega
  ·rw[if_neg (by simpa using q)]
   rw[if_neg (by simpa using q)] at hp
   exact hp
 refine⟨_,Lf (fun r:Rw=>(y r).num*B.fdiv ((y r).den:Int)) _,?_⟩;have key:lA (ofM rows m) (fun r=>(y r).num*B.fdiv ((y r).den:Int))=lA (ofM rows m) (fun r=>r.2.2)*B:=by
  have e1:(lA (ofM rows m) (fun r=>(y r).num*B.fdiv ((y r).den:Int)):Rat)=(B:Rat)*ao (ofM rows m) y:=by
   rw[zn7,<- uh];refine fG fun r hr=> ?_;have e:=Aa (dv r (dG.mp hr).1);obtain⟨n1,n2⟩:=zu9 (y r);have e' :(B:Rat)=((y r).den:Int)* (B.fdiv ((y r).den:Int):Int):=by exact_mod_cast e.symm
   rw[Rat.intCast_mul,n1,e']
   grind
  have e2:ao (ofM rows m) y=ao (ofM rows m) fun r=>(r.2.2:Rat):=by
   show ao (ofM rows m) (fun r=>(r.2.2:Rat) - x r.2.1)=_;rw[u6,show ao (ofM rows m) (fun r=>x r.2.1)=0 from em]
   grind
  rw[e2,<- zn7] at e1;have e3:((lA (ofM rows m) (fun r=>(y r).num*B.fdiv ((y r).den:Int)):Int):Rat)=((lA (ofM rows m) (fun r=>r.2.2)*B:Int):Rat):=by
   rw[e1,Rat.intCast_mul];grind
  exact_mod_cast e3
 refine⟨.inr (.inr ?_),rF _ _,?_⟩
 ·have h1:bA (lA (ofM rows m) fun r=>r.2.2)<=40+ (ofM rows m).length:=zuh fun r hr=>iM (mk r (dG.mp hr).1);have h2:(ofM rows m).length<=rows.length:=List.length_filter_le _ _;show bA (lA (ofM rows m) fun r=>r.2.2)+bA B<=_;omega
 ·show Q (.bl (bV (.int (lA (ofM rows m) fun r=>(y r).num*B.fdiv ((y r).den:Int))) (.int (lA (ofM rows m) (fun r=>r.2.2)*B))));rw[key,vH];exact h
theorem ztl(xs:List D):iR (.lst xs) "list" =some true:=by unfold iR wG;show W.kitOne [] _ _=_;decide+kernel
theorem UL{x y z:D}:jl [x,y,z] 1=some y:=uQ (j:=1) rfl
theorem Iw{x y z:D}:jl [x,y,z] 2=some z:=uQ (j:=2) rfl
theorem z16{n:Nat}(a b:Str):gQ (n+1) (.tup [.str a,.str b]) (.tup [.str a,.str b]):=by
 simp only [gQ];intro i x y h1 h2
 match i with
 | 0=>simp at h1 h2;subst h1 h2;cases n<;>simp [gQ]
 | 1=>simp at h1 h2;subst h1 h2;cases n<;>simp [gQ]
 | i+2=>simp at h1
theorem Iz{x y z:D}:cutD [x,y,z] none (some 2)= [x,y]:=by rfl
theorem zo7{K:W.Frag}{c:Cls}{ds Q Ex}(h:Ig c ds Q Ex):K6 K c (fin Q) (aG 6 ds) fun _=>Ex:=by
 obtain⟨rows,U,ms,x,rfl,u,L,b1,b2,mk,G,h⟩:=h;show K6 K c (fin Q) [.pu (aM rows),.pu (iW rows x),.no,.no,.no,.no] fun _=>Ex;unfold K6
 and_intros
 rw[show iR (iW rows x) "list" =some true from ztl _]
 and_intros
 simp only [Bool.not_true,Bool.false_eq_true,if_false];refine⟨rF _ _,?_⟩;rw[List.length_map,List.length_map,vH];simp only [Bool.not_true,Bool.false_eq_true,if_false];refine⟨rows,U,rfl,u,L,b1,b2,fun nG x' G' => ?_⟩;obtain⟨_,ex⟩:=G'.uniq G;show zez K c (fin Q) [.pu (aM rows),.pu (iW rows x),.pu (.dik (nG.flatten.map .inr) (d8 ((nG.flatten.map fun h=>qD (x' h)).map .leaf))),.no,.no,.no] fun _=>Ex;rw[zm9];have ez:iT (rows.map jL) (rows.map (uo x))=rows.map fun r=> .tup [jL r,uo x r]:=by
  unfold iT;rw[List.zipWith_map,List.zipWith_self]
 show j7 (iT (rows.map jL) (rows.map (uo x))) (gq 2 (aP (hName 3) (aP (hName 4) gk))) (K5 K c) _ _ _;rw[ez];refine⟨fun i Γ=>∃y3 y4 y5:Slot,Γ= [.pu (aM rows),.pu (iW rows x),.pu (mO nG.flatten x'),y3,y4,y5],⟨_,_,_,rfl⟩,?_,?_⟩
 ·rintro i d _ hi ⟨y3,y4,y5,rfl⟩;have hi' :i<rows.length:=by
   have:=(zW.mp hi).1
   rwa [List.length_map] at this
  rw[List.getElem?_map,List.getElem?_eq_getElem hi'] at hi;cases hi;have hr:rows[i]∈rows:=zA hi';generalize rows[i]=r at hr⊢;refine⟨rfl,rfl,?_⟩;show K5 K c _ [.pu (aM rows),.pu (iW rows x),.pu (mO nG.flatten x'),.pu (jL r),.pu (uo x r),y5] _;unfold K5
  and_intros
  rw[show iR (uo x r) "tuple" =some true from zs2 _]
  and_intros
  simp only [Bool.not_true,Bool.false_eq_true,if_false];refine⟨rF _ _,?_⟩;rw[show bV (D.int (([D.str r.1,D.str r.2.1,qD ((r.2.2:Rat) - x r.2.1)]:List D).length:Int)) (.int 3)=true from by rw[CJ];rfl]
  simp only [Bool.not_true,Bool.false_eq_true,if_false];have n3:¬HT.sIx 3 3 (some 2)=3:=by decide
  refine⟨fun z=>n3 z.2,fun z=>n3 z.2,?_⟩
  and_intros
  rw[Iz,Iz];refine⟨z16 r.1 r.2.1,?_⟩;rw[vH];simp only [Bool.not_true,Bool.false_eq_true,if_false];refine⟨_,UL,?_⟩;show pQ (mO nG.flatten x') (.str r.2.1) _;refine zv7 (G'.mem hr) ?_;rw[ex _ (G'.mem hr)];have z:=z3q (L.mm r hr) (G.szr hr);have dp:=(x r.2.1).den_pos;refine⟨_,Iw,_,Iw,_,at1,.inr (.inr ?_),_,at0,_,at1,_,_,rfl,zP z.1 (by decide),zP (G.szr hr).2 (by decide),by omega,?_⟩
  ·have:=iM (L.mm r hr);have:=(G.szr hr).2;omega
  rw[<- UJ];refine⟨_,_,rfl,.inr ⟨_,rfl⟩,fun b hb=> ?_⟩;obtain rfl:b=true:=hb.mpr rfl;exact⟨_,_,_,rfl⟩
 ·rintro _ ⟨y3,y4,y5,rfl⟩;exact h
theorem z57{K:W.Frag}{c:Cls}{ds Q Ex}(h:KY c ds Q Ex):Ih K c (fin Q) (aG 5 ds) fun _=>Ex:=by
 obtain⟨ns,rfl,hl,h⟩:=h;have s1:=xu
 let S:D:= .lst (ns.map .int)
 have main:∀(rows:List Rw) (U:List Str),rows.length<=40 ->U.length<=4 ->(∀r∈rows,r.2.1∈U) ->Uq rows ->(∀r∈rows,r.2.2.natAbs<2^40) ->
   zp1 K c (fin Q) [.pu S,.pu (aM rows),.no,.no,.no] fun _=>Ex:=by
  intro rows U b1 b2 b3 uq mk;have wk:∀w,(cF rows w).length<=4:=fun w=>by
   have:=Ab (T4 uq w) fun y hy=>by
    obtain⟨r,hr,_,e⟩:=fJ.mp hy;rw[<- e];exact b3 r hr
   rw[Cj] at this;omega
  have L:LB rows:=⟨by omega,fun r hr=>zN (mk r hr) (Nat.pow_le_pow_right (by decide) (by decide)),fun w=>by have:=wk w;omega⟩
  show zqd K c (fin Q) [.pu S,.pu (aM rows),.pu (aM rows),.no,.no] fun _=>Ex;refine⟨rows,U,rfl,uq,L,by omega,b3,fun ms x G=> ?_⟩
  show zqa K c (fin Q) [.pu S,.pu (aM rows),.pu (aM rows),.pu (iW rows x),.no] fun _=>Ex;refine⟨zys rows rows,?_⟩;rw[vH];refine⟨rows,U,ms,x,rfl,uq,L,by omega,b3,mk,G,?_⟩
  show zqt K c (fin Q) [.pu S,.pu (aM rows),.pu (aM rows),.pu (iW rows x),.no] fun _=>Ex;refine⟨rows,U,4,rfl,by omega,b3,fun w=>by have:=wk w;unfold fO;unfold cF at this;rw[List.length_map];exact this,by omega,fun nG G' => ?_⟩
  obtain rfl:=G'.uniq G.g fun r=>Iff.rfl;refine⟨fun i Γ=>∃y4:Slot,Γ= [.pu S,.pu (aM rows),.pu (aM rows),.pu (iW rows x),y4],⟨_,rfl⟩,?_,?_⟩
  ·rintro i d _ hi ⟨y4,rfl⟩;have hi' :i<nG.length:=by
    have:=(zW.mp hi).1
    rwa [List.length_map] at this
   rw[List.getElem?_map,List.getElem?_eq_getElem hi'] at hi;cases hi;have hm:nG[i]∈nG :=zA hi';generalize nG[i]=g at hm⊢;exact⟨rows,x,g,rfl,b1,fun r hr=>(z3q (L.mm r hr) (G.szr hr)).2,mk,G.em g hm,_,rfl⟩
  ·rintro _ ⟨y4,rfl⟩;exact h
 show Ih K c (fin Q) [.pu S,.no,.no,.no,.no] fun _=>Ex;unfold Ih
 and_intros
 obtain⟨t4,e4,h4⟩:=CK (i:=iC ns 0) (n:=4) (by decide)
 obtain⟨t7,e7,h7⟩:=CK (i:=iC ns 1) (n:=9) (by decide)
 refine⟨ns,0,rfl,hl,by omega,by decide,ns,1,rfl,hl,by omega,by decide,ns,1+t4,t7,?_,hl,by omega,by omega,by omega,fun rows U c1 c2 c3 cu ck=> ?_⟩
 ·rw[show(iC ns 0).fmod 4=(t4:Int) from e4,show(iC ns 1).fmod 9=(t7:Int) from e7,Int.natCast_add];rfl
 ·exact main rows U c1 (by omega) c3 cu ck
end L3
local macro_rules | `(#[$x])=> `(by exact $x)
local macro_rules | `(#[$x,_])=> `(fun _ _ _ _ _ _=>by exact $x)
local macro_rules | `(tactic| symm_saturate)=> `(tactic| exact⟨rfl,by decide+kernel,by decide+kernel,by decide+kernel,rfl,by decide+kernel⟩)
local macro_rules | `(tactic| trivial)=> `(tactic| first | exact Or.inl rfl | exact Or.inr (Or.inl rfl) | exact Or.inr (Or.inr rfl) | exact Or.inr rfl)
local macro_rules | `(tactic| nofun)=> `(tactic| exact ⟨rfl,rfl,rfl,by decide+kernel,rfl,by decide+kernel,by decide+kernel⟩)
namespace Lw
open PySem PySem.Spec PyProof.Rows L2 L3
def top(i:Nat):Stmt:=PySem.Challenge.pw_hall_k33_levelled.main.body.getD i (.Pass ⟨0,0,0,0⟩)
theorem cD{k:Nat}{A:Around}{e:Env}(hr:eG k (A.deeper e)):(A.deeper e).units+21<cLine:=by have:=hr.units;omega
theorem len1{us:List Value}(h:us.length=1):∃a0,us= [a0]:=by
 match us,h with | [a0],_=>exact⟨a0,rfl⟩
theorem len2{us:List Value}(h:us.length=2):∃a0 a1,us= [a0,a1]:=by
 match us,h with | [a0,a1],_=>exact⟨a0,a1,rfl⟩
theorem rG{us:List Value}(h:us.length=3):∃a0 a1 a2,us= [a0,a1,a2]:=by
 match us,h with | [a0,a1,a2],_=>exact⟨a0,a1,a2,rfl⟩
theorem UW{us:List Value}(h:us.length=4):∃a0 a1 a2 a3,us= [a0,a1,a2,a3]:=by
 match us,h with | [a0,a1,a2,a3],_=>exact⟨a0,a1,a2,a3,rfl⟩
theorem U0{us:List Value}(h:us.length=5):∃a0 a1 a2 a3 a4,us= [a0,a1,a2,a3,a4]:=by
 match us,h with | [a0,a1,a2,a3,a4],_=>exact⟨a0,a1,a2,a3,a4,rfl⟩
section
variable(P:Program)(w:World)(K:W.Frag)(mg:Str ->Option Value)(base:Heap)(c:Cls)
abbrev Lj:Prop:=cJ P w K mg base "_law_cell" 1 ["_law_script","_law_k"] (rY c)
abbrev U3:Prop:=cJ P w K mg base "_law_rows" 2 ["_law_script","_law_hands","_law_works"] (HX c)
abbrev zka:Prop:=nC P w K mg base "by_work" 1 ["rows"] (Cr c)
abbrev zjm:Prop:=cJ P w K mg base "divisor" 1 ["one","other"] (Ck c)
abbrev Lk:Prop:=cJ P w K mg base "fraction" 2 ["top","bottom"] (xq c)
abbrev U4:Prop:=cJ P w K mg base "sheets_with" 1 ["hand","sheets"] (xr c)
abbrev zuy:Prop:=cJ P w K mg base "plus" 3 ["one","other"] (Cm c)
abbrev zqu:Prop:=cJ P w K mg base "total" 4 ["some"] (Cq c)
abbrev zq7:Prop:=cJ P w K mg base "minus" 3 ["one","other"] (Cp c)
abbrev zin:Prop:=nC P w K mg base "leanings" 8 ["rows"] (Cw c)
abbrev U5:Prop:=cJ P w K mg base "levelled" 9 ["rows"] (HY c)
abbrev U6:Prop:=cJ P w K mg base "_law_groups" 1 ["_law_rows_here"] (HS c)
abbrev zew:Prop:=cJ P w K mg base "_law_divisor" 1 ["_law_one","_law_other"] (Cz c)
abbrev U7:Prop:=cJ P w K mg base "_law_right" 9 ["_law_rows_here","_law_told"] (Ig c)
abbrev U8:Prop:=cJ P w K mg base "_law_summed" 3 ["_law_rows_here","_law_told","_law_hands"] (Ie c)
end
section
variable{P:Program}{w:World}{K:W.Frag}{mg:Str ->Option Value}{base:Heap}{f:Addr}{fd:FuncData}{cdv:Value}{A:Around}{outer:List Env}{s:Shared}{H:Hp}{E:XK}{F0:Hp}(c:Cls)
abbrev U9:Stmt:=top 37
theorem jg:aA ["_law_cell_here","_law_many","_law_letters","_law_size","_law_at","_law_names_here","_law_k","_law_name","_law_j","_law_number"] ["_law_cell_here","_law_many"] (bL U9):=by nofun
theorem zn1(F:fu K "_law_names" "_law_names" U9 f fd)(hm:mg "_law_names" =some (.ref f))(bY:mg "range" =none)(lB:mg "int" =none):cJ P w K mg base "_law_names" 1 ["_law_cell_here","_law_many"] (Cy c):=
 ⟨f,fd,iy F jg (fun _ _ _ h=>zpw h) fun cdv A outer s H E hr F0=>⟨K1 K c,by
  have nd:=jg.nd;have hu:=cD hr;exact(bH #[dO (i:=2) nd rfl (by trivial) #[JC]]
   #[bH #[dO (i:=3) nd rfl (by trivial) #[bI (fun _=>qw) aR (bI (fun _=>jY) (bI (fun _=>qx) (qv 0) aR) aR)]]
   #[bH #[mj #[jm (fun _=>iQ hu) (bI (fun _=>jY) (qv 0) aR) aR (aK _)]
   #[bT #[dO (i:=3) nd rfl (by trivial) #[aR]]]
   #[lZ]]
   #[bH #[dO (i:=4) nd rfl (by trivial) #[bI (fun _=>jY) (bI (fun _=>qx) (qv 0) aR) (qv 3)]]
   #[bH #[JG (i:=5) nd rfl (by trivial) #[qQ aL]]
   #[bH #[Fd rfl rfl bY #[aB (qv 1) aL] #[cO (i:=6) nd rfl (by trivial)]
   #[bH #[dO (i:=7) nd rfl (by trivial) #[JC]]
   #[bH #[Fd rfl rfl bY #[aB (bI (fun _=>qw) (qv 3) (bI (fun _=>jJ) (qv 6) (X4 (fun _=>Yi) rfl lB boot_int (aB (uT (fun _=>iQ hu) (bI (fun _=>jY) (qv 0) aR) aR (aK _)) aL)))) aL] #[cO (i:=8) nd rfl (by trivial)]
   #[bH #[dO (i:=9) nd rfl (by trivial) #[bI (fun _=>jY) (bI (fun _=>qw) (bI (fun _=>qw) (bI (fun _=>jJ) (bI (fun _=>qx) (qv 0) aR) aR) (bI (fun _=>jJ) (bI (fun _=>jJ) (qv 8) (qv 8)) aR)) (bI (fun _=>jJ) (qv 8) aR)) aR]]
   #[bT #[dO (i:=7) nd rfl (by trivial) #[bI (fun _=>qw) (qv 7) (eO (qv 2) (bI (fun _=>jY) (bI (fun _=>qw) (qv 9) (bI (fun _=>jJ) (qv 6) (X4 (fun _=>Yi) rfl lB boot_int (aB (W9 (uT (fun _=>iQ hu) (qv 8) (qv 4) (aK _)) (Ox (uT (fun _=>mz hu) (bI (fun _=>jY) (qv 0) aR) aR (aK _)))) aL)))) aR) (fun _ _=>rfl))]]]]]
   #[bT #[QL (i:=5) (fun _=>Ye) PySem.F.slot_list_append PySem.F.type_list_append rfl (by trivial) #[aB (qv 7) aL]]]]]]
   #[bT #[fB #[qv 5]]]]]]]]),fun ds Q Ex h=>zpl h⟩,hm,F.kp,F.binds fun _ _ _ _ _ _ us hl=>by obtain⟨_,_,rfl⟩:=len2 hl;exact rfl⟩
abbrev Va:Stmt:=top 33
theorem jN:aA ["_law_script","_law_k","_law_number"] ["_law_script","_law_k"] (bL Va):=by nofun
theorem zol(F:fu K "_law_cell" "_law_cell" Va f fd)(hm:mg "_law_cell" =some (.ref f))(bx:mg "len" =none):cJ P w K mg base "_law_cell" 1 ["_law_script","_law_k"] (rY c):=
 ⟨f,fd,iy F jN (fun _ _ _ h=>zrr h) fun cdv A outer s H E hr F0=>⟨zh4 K c,by
  have nd:=jN.nd;have hu:=cD hr;exact(bH #[mj #[jm (fun _=>yH) (qv 1) (mJ (fun _=>rR) rfl bx boot_len (aB (qv 0) aL)) (aK _)]
   #[bT #[fB #[eO (qv 0) (qv 1) (fun _ _=>rfl)]]]
   #[lZ]]
   #[bH #[dO (i:=2) nd rfl (by trivial) #[bI (fun _=>qw) (bI (fun _=>jJ) (qv 1) aR) aR]]
   #[bH #[mj #[jm (fun _=>vG) (mJ (fun _=>rR) rfl bx boot_len (aB (qv 0) aL)) aR (aK _)]
   #[bT #[dO (i:=2) nd rfl (by trivial) #[bI (fun _=>jY) (bI (fun _=>qw) (bI (fun _=>jJ) (eO (qv 0) (bI (fun _=>jY) (bI (fun _=>jJ) (qv 1) aR) (mJ (fun _=>rR) rfl bx boot_len (aB (qv 0) aL))) (fun _ _=>rfl)) aR) (bI (fun _=>jJ) (qv 1) aR)) aR]]]
   #[lZ]]
   #[bT #[fB #[bI (fun _=>jY) (bI (fun _=>jJ) (qv 2) (qv 2)) aR]]]]]),fun ds Q Ex h=>zrs h⟩,hm,F.kp,F.binds fun _ _ _ _ _ _ us hl=>by obtain⟨_,_,rfl⟩:=len2 hl;exact rfl⟩
abbrev Vb:Stmt:=top 38
theorem iD:aA ["_law_way","_law_w","_law_h","_law_hands","_law_cell_here"] ["_law_way","_law_w","_law_h","_law_hands","_law_cell_here"] (bL Vb):=by nofun
theorem zk3(F:fu K "_law_marked" "_law_marked" Vb f fd)(hm:mg "_law_marked" =some (.ref f)):cJ P w K mg base "_law_marked" 1 ["_law_way","_law_w","_law_h","_law_hands","_law_cell_here"] (HW c):=
 ⟨f,fd,iy F iD (fun _ _ _ h=>zme h) fun cdv A outer s H E hr F0=>⟨K3 K c,by
  have nd:=iD.nd;have hu:=cD hr;exact(bH #[mj #[jm (fun _=>iQ hu) (qv 0) aR (aK _)]
   #[bT #[fB #[uT (fun _=>vG) (bI (fun _=>jY) (qv 4) aR) aR (aK _)]]]
   #[lZ]]
   #[bH #[mj #[jm (fun _=>iQ hu) (qv 0) aR (aK _)]
   #[bT #[fB #[z5x (uT (fun _=>iQ hu) (qv 2) (bI (fun _=>jY) (qv 1) (qv 3)) (aK _)) (Ox (uT (fun _=>iQ hu) (qv 2) (bI (fun _=>jY) (bI (fun _=>qw) (qv 1) aR) (qv 3)) (aK _)))]]]
   #[lZ]]
   #[bH #[mj #[jm (fun _=>iQ hu) (qv 0) aR (aK _)]
   #[bT #[fB #[W9 (uT (fun _=>iQ hu) (bI (fun _=>jY) (qv 1) aR) (bI (fun _=>jY) (qv 2) aR) (aK _)) (Ox (uT (fun _=>vG) (bI (fun _=>jY) (qv 4) aR) aR (aK _)))]]]
   #[lZ]]
   #[bT #[fB #[sS]]]]]),fun ds Q Ex h=>zmi h⟩,hm,F.kp,F.binds fun _ _ _ _ _ _ us hl=>by obtain⟨_,_,_,_,_,rfl⟩:=U0 hl;exact rfl⟩
abbrev Vc:Stmt:=top 39
theorem jO:aA ["_law_script","_law_hands","_law_works","_law_way","_law_most","_law_names_here","_law_people","_law_rows_here","_law_w","_law_h","_law_cell_here","_law_turn"] ["_law_script","_law_hands","_law_works"] (bL Vc):=by nofun
theorem zpz(F:fu K "_law_rows" "_law_rows" Vc f fd)(hm:mg "_law_rows" =some (.ref f))(eZ:cJ P w K mg base "_law_names" 1 ["_law_cell_here","_law_many"] (Cy c))(aJ:Lj P w K mg base c)(fP:cJ P w K mg base "_law_marked" 1 ["_law_way","_law_w","_law_h","_law_hands","_law_cell_here"] (HW c))(bY:mg "range" =none)(bx:mg "len" =none):cJ P w K mg base "_law_rows" 2 ["_law_script","_law_hands","_law_works"] (HX c):=
 ⟨f,fd,iy F jO (fun _ _ _ h=>zr5 h) fun cdv A outer s H E hr F0=>⟨K4 K c,by
  have nd:=jO.nd;have hu:=cD hr;exact(bH #[dO (i:=3) nd rfl (by trivial) #[bI (fun _=>jY) (dJ aJ (hr.mono (by decide)) rfl (aB (qv 0) (aB aR aL))) aR]]
   #[bH #[dO (i:=4) nd rfl (by trivial) #[eO (d9 #[qQ (aB aR (aB aR (aB aR (aB (bI (fun _=>z5t) aR aR) aL))))]) (bI (fun _=>jY) (dJ aJ (hr.mono (by decide)) rfl (aB (qv 0) (aB aR aL))) aR) (fun _ _=>rfl)]]
   #[bH #[dO (i:=5) nd rfl (by trivial) #[dJ eZ (hr.mono (by decide)) rfl (aB (dJ aJ (hr.mono (by decide)) rfl (aB (qv 0) (aB aR aL))) (aB (qv 2) aL))]]
   #[bH #[dO (i:=6) nd rfl (by trivial) #[dJ eZ (hr.mono (by decide)) rfl (aB (dJ aJ (hr.mono (by decide)) rfl (aB (qv 0) (aB aR aL))) (aB (qv 1) aL))]]
   #[bH #[JG (i:=7) nd rfl (by trivial) #[qQ aL]]
   #[bH #[Fd rfl rfl bY #[aB (qv 2) aL] #[cO (i:=8) nd rfl (by trivial)]
   #[bT #[Fd rfl rfl bY #[aB (qv 1) aL] #[cO (i:=9) nd rfl (by trivial)]
   #[bH #[dO (i:=10) nd rfl (by trivial) #[dJ aJ (hr.mono (by decide)) rfl (aB (qv 0) (aB (bI (fun _=>qw) (bI (fun _=>qw) aR (bI (fun _=>jJ) (qv 8) (qv 1))) (qv 9)) aL))]]
   #[bT #[mj #[sU (dJ fP (hr.mono (by decide)) rfl (aB (qv 3) (aB (qv 8) (aB (qv 9) (aB (qv 1) (aB (qv 10) aL))))))]
   #[bT #[QL (i:=7) (fun _=>Ye) PySem.F.slot_list_append PySem.F.type_list_append rfl (by trivial) #[aB (sW (aB (eO (qv 5) (qv 8) (fun _ _=>rfl)) (aB (eO (qv 6) (qv 9) (fun _ _=>rfl)) (aB (bI (fun _=>jY) (bI (fun _=>qx) (qv 10) aR) (qv 4)) aL)))) aL]]]
   #[lZ]]]]]]]
   #[bH #[dO (i:=11) nd rfl (by trivial) #[bI (fun _=>jY) (bI (fun _=>qx) (dJ aJ (hr.mono (by decide)) rfl (aB (qv 0) (aB aR aL))) aR) (bI (fun _=>qw) (z1g (fun F0 H0=>by exact(mJ (fun _=>rR) rfl bx boot_len (aB (qv 7) aL)))) aR)]]
   #[bT #[fB #[d9 #[wL (d9 #[J2 (qv 7) (Bp (qv 11)) Bo]) (d9 #[J2 (qv 7) Bo (Bp (qv 11))])]]]]]]]]]]),fun ds Q Ex h=>zru h⟩,hm,F.kp,F.binds fun _ _ _ _ _ _ us hl=>by obtain⟨_,_,_,rfl⟩:=rG hl;exact rfl⟩
abbrev Ln:Stmt:=top 15
theorem qK:aA ["group","hands"] ["group","hands"] (bL Ln):=by nofun
theorem z24(F:fu K "meet" "meet" Ln f fd)(hm:mg "meet" =some (.ref f))(uD:mg "any" =none):cJ P w K mg base "meet" 1 ["group","hands"] (Cu c):=
 ⟨f,fd,iy F qK (fun _ _ _ h=>z4r h) fun cdv A outer s H E hr F0=>⟨zw3 K c,by
  have nd:=qK.nd;have hu:=cD hr;exact(bT (by exact(fB (by exact(mJ (fun _=>z5v rfl) rfl uD boot_any (aB (d9 (by exact(n6 (own:= ["hand"]) (N' := ["hand","group"]) (by show cR ["group","hands"] _ ["hand"] [0] (bL Ln) ["hand","group"];symm_saturate) rfl #[kh (nq (qv 1))] #[cO (i:=0) (show(["hand","group"]:List Str).Nodup by decide+kernel) rfl (by trivial),_] #[qC,_] #[uT (fun _=>qY) (qv 0) (qv 1) (by with_unfolding_all rfl),_]))) aL)))))),fun ds Q Ex h=>z4v h⟩,hm,F.kp,F.binds fun _ _ _ _ _ _ us hl=>by obtain⟨_,_,rfl⟩:=len2 hl;exact rfl⟩
abbrev Lq:Stmt:=top 14
theorem mQ:aA ["found","hands","apart","together","group"] ["found","hands"] (bL Lq):=by nofun
theorem zt3(F:fu K "joined" "joined" Lq f fd)(hm:mg "joined" =some (.ref f))(nH:cJ P w K mg base "meet" 1 ["group","hands"] (Cu c))(bG:mg "list" =none)(cL:mg "sorted" =none)(mR:mg "set" =none):cJ P w K mg base "joined" 2 ["found","hands"] (Hw c):=
 ⟨f,fd,iy F mQ (fun _ _ _ h=>zyx h) fun cdv A outer s H E hr F0=>⟨znt K c,by
  have nd:=mQ.nd;have hu:=cD hr;exact(bH (by exact(FQ (by exact(Fy (i:=2) nd rfl rfl (own:= ["group"]) (N' := ["group","hands"]) (by show cR ["found","hands","apart","together","group"] _ ["group"] [1] (bL Lq) ["group","hands"];symm_saturate) rfl #[kh (nq (qv 0))] #[cO (i:=0) (show(["group","hands"]:List Str).Nodup by decide+kernel) rfl (by trivial),_] #[vJ (wA (sU (dJ nH (hr.mono (by decide)) rfl (aB (qv 0) (aB (qv 1) aL))))),_] #[qv 0,_]))))
   #[bH #[JG (i:=3) nd rfl (by trivial) #[J1 (fun _=>Qx) rfl bG boot_list (aB (qv 1) aL)]]
   #[bH #[uU rfl #[qv 0] #[cO (i:=4) nd rfl (by trivial)]
   #[bT #[mj #[sU (dJ nH (hr.mono (by decide)) rfl (aB (qv 4) (aB (qv 1) aL)))]
   #[bT #[QL (i:=3) (fun _=>zu0) PySem.F.slot_list_extend PySem.F.type_list_extend rfl (by trivial) #[aB (qv 4) aL]]]
   #[lZ]]]]
   #[bT #[fB #[d9 #[wL (qv 2) (d9 #[qQ (aB (d9 #[ZF rfl rfl cL rfl mR (aB (qv 3) aL)]) aL)])]]]]]]),fun ds Q Ex h=>zzi h⟩,hm,F.kp,F.binds fun _ _ _ _ _ _ us hl=>by obtain⟨_,_,rfl⟩:=len2 hl;exact rfl⟩
abbrev Vd:Stmt:=top 11
theorem lC:aA ["rows","sheets","work","hand","mark"] ["rows"] (bL Vd):=by nofun
theorem zr8(F:fu K "by_work" "by_work" Vd f fd)(hm:mg "by_work" =some (.ref f)):nC P w K mg base "by_work" 1 ["rows"] (Cr c):=
 ⟨f,fd,zj F lC (fun _ _ _ h=>zuf h) fun cdv A outer s H E hr F0=>⟨zj1 K c,by
  have nd:=lC.nd;have hu:=cD hr;exact(bH #[Zb (i:=1) nd rfl (by trivial) #[RG]]
   #[bH #[uU rfl #[qv 0] #[qT rfl (gY (cO (i:=2) nd rfl (by trivial)) (gY (cO (i:=3) nd rfl (by trivial)) (gY (cO (i:=4) nd rfl (by trivial)) qR)))]
   #[bH #[mj #[z3z (i:=1) (hu1 hu) #[qv 2] rfl (by trivial)]
   #[bT #[z5c (i:=1) (j:=2) (hu1 hu) rfl (by trivial) rfl (by trivial) #[RG]]]
   #[lZ]]
   #[bT #[z5l (i:=1) (j:=2) (l:=3) (hu1 hu) rfl (by trivial) rfl (by trivial) rfl (by trivial) #[qv 4]]]]]
   #[bT #[RJ #[Zc (i:=1) rfl (by trivial)]]]]),fun ds Q Ex h=>zwt h⟩,hm,F.kp,F.binds fun _ _ _ _ _ _ us hl=>by obtain⟨_,rfl⟩:=len1 hl;exact rfl⟩
abbrev Ve:Stmt:=top 13
theorem mU:aA ["rows","found","sheet"] ["rows"] (bL Ve):=by nofun
theorem zu5(F:fu K "groups" "groups" Ve f fd)(hm:mg "groups" =some (.ref f))(lD:cJ P w K mg base "joined" 2 ["found","hands"] (Hw c))(dY:zka P w K mg base c)(cL:mg "sorted" =none)(bG:mg "list" =none):nC P w K mg base "groups" 3 ["rows"] (Hy c):=
 ⟨f,fd,zj F mU (fun _ _ _ h=>zyg h) fun cdv A outer s H E hr F0=>⟨zmf K c,by
  have nd:=mU.nd;have hu:=cD hr;exact(bH #[dO (i:=1) nd rfl (by trivial) #[d9 #[qQ aL]]]
   #[bH #[Qu rfl #[zvh #[RL dY (hr.mono (by decide)) rfl (aB (qv 0) aL)]] #[cO (i:=2) nd rfl (by trivial)]
   #[bT #[dO (i:=1) nd rfl (by trivial) #[dJ lD (hr.mono (by decide)) rfl (aB (qv 1) (aB (d9 #[J1 (fun _=>z2w rfl) rfl bG boot_list (aB (qv 2) aL)]) aL))]]]]
   #[bT #[RJ #[z53 #[X3 (fun _=>ZJ hu) rfl cL boot_sorted (aB (qv 1) aL)]]]]]),fun ds Q Ex h=>zxt h⟩,hm,F.kp,F.binds fun _ _ _ _ _ _ us hl=>by obtain⟨_,rfl⟩:=len1 hl;exact rfl⟩
abbrev Vf:Stmt:=top 5
theorem lE:aA ["one","other","rest"] ["one","other"] (bL Vf):=by nofun
theorem zsg(F:fu K "divisor" "divisor" Vf f fd)(hm:mg "divisor" =some (.ref f))(lF:mg "abs" =none):cJ P w K mg base "divisor" 1 ["one","other"] (Ck c):=
 ⟨f,fd,iy F lE (fun _ _ _ h=>ztd h) fun cdv A outer s H E hr F0=>⟨zjp K c,by
  have nd:=lE.nd;have hu:=cD hr;exact(bH #[Xc #[jm (fun _=>mz hu) (qv 1) aR (aK _)]
   #[bH #[dO (i:=2) nd rfl (by trivial) #[bI (fun _=>jY) (qv 0) (qv 1)]]
   #[bH #[dO (i:=0) nd rfl (by trivial) #[qv 1]]
   #[bT #[dO (i:=1) nd rfl (by trivial) #[qv 2]]]]]]
   #[bT #[fB #[mJ (fun _=>PJ) rfl lF boot_abs (aB (qv 0) aL)]]]),fun ds Q Ex h=>zs8 h⟩,hm,F.kp,F.binds fun _ _ _ _ _ _ us hl=>by obtain⟨_,_,rfl⟩:=len2 hl;exact rfl⟩
abbrev zdt:Stmt:=top 18
theorem jh:aA ["row","multiple","part"] ["row"] (bL zdt):=by nofun
theorem zl5(F:fu K "whole_row" "whole_row" zdt f fd)(hm:mg "whole_row" =some (.ref f))(dZ:zjm P w K mg base c):cJ P w K mg base "whole_row" 2 ["row"] (Hq c):=
 ⟨f,fd,iy F jh (fun _ _ _ h=>zoz h) fun cdv A outer s H E hr F0=>⟨zg9 K c,by
  have nd:=jh.nd;have hu:=cD hr;exact(bH #[dO (i:=1) nd rfl (by trivial) #[aR]]
   (by exact(bH #[uU rfl #[qv 0] #[cO (i:=2) nd rfl (by trivial)]
   #[bT #[dO (i:=1) nd rfl (by trivial) #[bI (fun _=>jJ) (qv 1) (bI (fun _=>qx) (eO (qv 2) aR (fun _ _=>rfl)) (dJ dZ (hr.mono (by decide)) rfl (aB (qv 1) (aB (eO (qv 2) aR (fun _ _=>rfl)) aL))))]]]]
   (by exact(bT (by exact(fB (by exact(d9 (by exact(n6 (own:= ["part"]) (N' := ["part","multiple"]) (by show cR ["row","multiple","part"] _ ["part"] [1] (bL zdt) ["part","multiple"];symm_saturate) rfl #[kh (nq (qv 0))] #[cO (i:=0) (show(["part","multiple"]:List Str).Nodup by decide+kernel) rfl (by trivial),_] #[qC,_] #[bI (fun _=>jJ) (eO (qv 0) aR (fun _ _=>rfl)) (bI (fun _=>qx) (qv 1) (eO (qv 0) aR (fun _ _=>rfl))),_]))))))))))),fun ds Q Ex h=>zo1 h⟩,hm,F.kp,F.binds fun _ _ _ _ _ _ us hl=>by obtain⟨_,rfl⟩:=len1 hl;exact rfl⟩
abbrev Lr:Stmt:=top 22
theorem lG:aA ["row","lead","place","ahead"] ["row","lead","place","ahead"] (bL Lr):=by nofun
theorem zr9(F:fu K "without" "without" Lr f fd)(hm:mg "without" =some (.ref f))(fX:mg "zip" =none):cJ P w K mg base "without" 1 ["row","lead","place","ahead"] (Hr c):=
 ⟨f,fd,iy F lG (fun _ _ _ h=>zvf h) fun cdv A outer s H E hr F0=>⟨zjn K c,by
  have nd:=lG.nd;have hu:=cD hr;exact(bT (by exact(fB (by exact(d9 (by exact(n6 (own:= ["part","head"]) (N' := ["part","head","row","lead","place","ahead"]) (by show cR ["row","lead","place","ahead"] _ ["part","head"] [0,1,2,3] (bL Lr) ["part","head","row","lead","place","ahead"];symm_saturate) rfl #[kh (Kd rfl rfl fX (aB (qv 0) (aB (qv 1) aL)))] #[qT rfl (gY (cO (i:=0) (show(["part","head","row","lead","place","ahead"]:List Str).Nodup by decide+kernel) rfl (by trivial)) (gY (cO (i:=1) (show(["part","head","row","lead","place","ahead"]:List Str).Nodup by decide+kernel) rfl (by trivial)) qR)),_] #[qC,_] #[bI (fun _=>qx) (bI (fun _=>JN) (bI (fun _=>jJ) (eO (qv 3) (qv 4) (fun _ _=>rfl)) (qv 0)) (bI (fun _=>jJ) (eO (qv 2) (qv 4) (fun _ _=>rfl)) (qv 1))) (qv 5),_]))))))),fun ds Q Ex h=>zu8 h⟩,hm,F.kp,F.binds fun _ _ _ _ _ _ us hl=>by obtain⟨_,_,_,_,rfl⟩:=UW hl;exact rfl⟩
abbrev Ls:Stmt:=top 21
theorem lH:aA ["table","place","ahead","lead"] ["table","place","ahead"] (bL Ls):=by nofun
theorem zr3(F:fu K "cleared" "cleared" Ls f fd)(hm:mg "cleared" =some (.ref f))(jB:cJ P w K mg base "without" 1 ["row","lead","place","ahead"] (Hr c))(cQ:mg "enumerate" =none):cJ P w K mg base "cleared" 2 ["table","place","ahead"] (Hs c):=
 ⟨f,fd,iy F lH (fun _ _ _ h=>zut h) fun cdv A outer s H E hr F0=>⟨zjy K c,by
  have nd:=lH.nd;have hu:=cD hr;exact(bH #[dO (i:=3) nd rfl (by trivial) #[eO (qv 0) (qv 1) (fun _ _=>rfl)]]
   (by exact(bT (by exact(fB (by exact(d9 (by exact(n6 (own:= ["spot","row"]) (N' := ["spot","row","place","ahead","lead"]) (by show cR ["table","place","ahead","lead"] _ ["spot","row"] [1,2,3] (bL Ls) ["spot","row","place","ahead","lead"];symm_saturate) rfl #[kh (Yh rfl rfl cQ (aB (qv 0) aL))] #[qT rfl (gY (cO (i:=0) (show(["spot","row","place","ahead","lead"]:List Str).Nodup by decide+kernel) rfl (by trivial)) (gY (cO (i:=1) (show(["spot","row","place","ahead","lead"]:List Str).Nodup by decide+kernel) rfl (by trivial)) qR)),_] #[qC,_] #[Xa (jm (fun _=>iQ hu) (qv 0) (qv 2) (aK _)) (qv 1) (dJ jB (hr.mono (by decide)) rfl (aB (qv 1) (aB (qv 4) (aB (qv 2) (aB (qv 3) aL))))),_]))))))))),fun ds Q Ex h=>zu6 h⟩,hm,F.kp,F.binds fun _ _ _ _ _ _ us hl=>by obtain⟨_,_,_,rfl⟩:=rG hl;exact rfl⟩
abbrev Vg:Stmt:=top 6
theorem jP:aA ["top","bottom","common"] ["top","bottom"] (bL Vg):=by nofun
theorem zoi(F:fu K "fraction" "fraction" Vg f fd)(hm:mg "fraction" =some (.ref f))(dZ:zjm P w K mg base c)(dW:mg "NoFraction" =some (.ref c.bN)/\oE K c.bN):cJ P w K mg base "fraction" 2 ["top","bottom"] (xq c):=
 ⟨f,fd,iy F jP (fun _ _ _ h=>zsn h) fun cdv A outer s H E hr F0=>⟨zi4 K c,by
  have nd:=jP.nd;have hu:=cD hr;exact(bH #[mj #[jm (fun _=>iQ hu) (qv 1) aR (aK _)]
   #[bT #[Xr rfl rfl dW.1 dW.2 (aB JC aL)]]
   #[lZ]]
   #[bH #[dO (i:=2) nd rfl (by trivial) #[dJ dZ (hr.mono (by decide)) rfl (aB (qv 0) (aB (qv 1) aL))]]
   #[bH #[mj #[jm (fun _=>yH) (qv 1) aR (aK _)]
   #[bT #[dO (i:=2) nd rfl (by trivial) #[PB (qv 2)]]]
   #[lZ]]
   #[bT #[fB #[sW (aB (bI (fun _=>qx) (qv 0) (qv 2)) (aB (bI (fun _=>qx) (qv 1) (qv 2)) aL))]]]]]),fun ds Q Ex h=>zsj h⟩,hm,F.kp,F.binds fun _ _ _ _ _ _ us hl=>by obtain⟨_,_,rfl⟩:=len2 hl;exact rfl⟩
abbrev Vh:Stmt:=top 20
theorem ji:aA ["table","place","spot","other"] ["table","place","spot"] (bL Vh):=by nofun
theorem zml(F:fu K "exchanged" "exchanged" Vh f fd)(hm:mg "exchanged" =some (.ref f))(bG:mg "list" =none):cJ P w K mg base "exchanged" 1 ["table","place","spot"] (Ht c):=
 ⟨f,fd,iy F ji (fun _ _ _ h=>zox h) fun cdv A outer s H E hr F0=>⟨zg2 K c,by
  have nd:=ji.nd;have hu:=cD hr;exact(bH #[JG (i:=3) nd rfl (by trivial) #[J1 (fun _=>Qx) rfl bG boot_list (aB (qv 0) aL)]]
   #[bH #[Yv (i:=3) rfl (by trivial) #[qv 1] #[eO (qv 0) (qv 2) (fun _ _=>rfl)]]
   #[bH #[Yv (i:=3) rfl (by trivial) #[qv 2] #[eO (qv 0) (qv 1) (fun _ _=>rfl)]]
   #[bT #[fB #[qv 3]]]]]),fun ds Q Ex h=>zoj h⟩,hm,F.kp,F.binds fun _ _ _ _ _ _ us hl=>by obtain⟨_,_,_,rfl⟩:=rG hl;exact rfl⟩
abbrev Vi:Stmt:=top 19
theorem uE:aA ["table","place","spot"] ["table","place"] (bL Vi):=by nofun
theorem z5d(F:fu K "led" "led" Vi f fd)(hm:mg "led" =some (.ref f))(gG:cJ P w K mg base "exchanged" 1 ["table","place","spot"] (Ht c))(bY:mg "range" =none)(bx:mg "len" =none)(fQ:mg "NoAnswer" =some (.ref c.dM)/\oE K c.dM):cJ P w K mg base "led" 2 ["table","place"] (Hu c):=
 ⟨f,fd,iy F uE (fun _ _ _ h=>z51 h) fun cdv A outer s H E hr F0=>⟨zzz K c,by
  have nd:=uE.nd;have hu:=cD hr;exact(bH #[z1e rfl rfl bY #[aB (qv 1) (aB (mJ (fun _=>rR) rfl bx boot_len (aB (qv 0) aL)) aL)] #[cO (i:=2) nd rfl (by trivial)]
   #[bT #[mj #[jm (fun _=>mz hu) (eO (eO (qv 0) (qv 2) (fun _ _=>rfl)) (qv 1) (fun _ _=>rfl)) aR (aK _)]
   #[bT #[fB #[dJ gG (hr.mono (by decide)) rfl (aB (qv 0) (aB (qv 1) (aB (qv 2) aL)))]]]
   #[lZ]]]]
   #[bT #[Xr rfl rfl fQ.1 fQ.2 (aB JC aL)]]),fun ds Q Ex h=>z5s h⟩,hm,F.kp,F.binds fun _ _ _ _ _ _ us hl=>by obtain⟨_,_,rfl⟩:=len2 hl;exact rfl⟩
abbrev IK:Stmt:=top 17
theorem mV:aA ["rows","rights","table","ahead","place"] ["rows","rights"] (bL IK):=by nofun
theorem zvp(F:fu K "solved" "solved" IK f fd)(hm:mg "solved" =some (.ref f))(gH:cJ P w K mg base "whole_row" 2 ["row"] (Hq c))(jC:cJ P w K mg base "cleared" 2 ["table","place","ahead"] (Hs c))(aZ:Lk P w K mg base c)(uF:cJ P w K mg base "led" 2 ["table","place"] (Hu c))(bY:mg "range" =none)(bx:mg "len" =none)(fX:mg "zip" =none)(cQ:mg "enumerate" =none):cJ P w K mg base "solved" 3 ["rows","rights"] (Hv c):=
 ⟨f,fd,iy F mV (fun _ _ _ h=>zyi h) fun cdv A outer s H E hr F0=>⟨zmx K c,by
  have nd:=mV.nd;have hu:=cD hr;exact(bH (by exact(FQ (by exact(Fy (i:=2) nd rfl rfl (own:= ["row","right"]) (N' := ["row","right"]) (by show cR ["rows","rights","table","ahead","place"] _ ["row","right"] [] (bL IK) ["row","right"];symm_saturate) rfl #[kh (Kd rfl rfl fX (aB (qv 0) (aB (qv 1) aL)))] #[qT rfl (gY (cO (i:=0) (show(["row","right"]:List Str).Nodup by decide+kernel) rfl (by trivial)) (gY (cO (i:=1) (show(["row","right"]:List Str).Nodup by decide+kernel) rfl (by trivial)) qR)),_] #[qC,_] #[dJ gH (hr.mono (by decide)) rfl (aB (d9 #[wL (qv 0) (d9 #[qQ (aB (qv 1) aL)])]) aL),_]))))
   (by exact(bH #[dO (i:=3) nd rfl (by trivial) #[aR]]
   (by exact(bH #[Fd rfl rfl bY #[aB (mJ (fun _=>rR) rfl bx boot_len (aB (qv 2) aL)) aL] #[cO (i:=4) nd rfl (by trivial)]
   #[bH #[dO (i:=2) nd rfl (by trivial) #[dJ jC (hr.mono (by decide)) rfl (aB (dJ uF (hr.mono (by decide)) rfl (aB (qv 2) (aB (qv 4) aL))) (aB (qv 4) (aB (qv 3) aL)))]]
   #[bT #[dO (i:=3) nd rfl (by trivial) #[eO (eO (qv 2) (qv 4) (fun _ _=>rfl)) (qv 4) (fun _ _=>rfl)]]]]]
   (by exact(bT (by exact(fB (by exact(d9 (by exact(n6 (own:= ["place","row"]) (N' := ["place","row"]) (by show cR ["rows","rights","table","ahead","place"] _ ["place","row"] [] (bL IK) ["place","row"];symm_saturate) rfl #[kh (Yh rfl rfl cQ (aB (qv 2) aL))] #[qT rfl (gY (cO (i:=0) (show(["place","row"]:List Str).Nodup by decide+kernel) rfl (by trivial)) (gY (cO (i:=1) (show(["place","row"]:List Str).Nodup by decide+kernel) rfl (by trivial)) qR)),_] #[qC,_] #[dJ aZ (hr.mono (by decide)) rfl (aB (eO (qv 1) (PB aR) (fun _ _=>rfl)) (aB (eO (qv 1) (qv 0) (fun _ _=>rfl)) aL)),_]))))))))))))),fun ds Q Ex h=>zyd h⟩,hm,F.kp,F.binds fun _ _ _ _ _ _ us hl=>by obtain⟨_,_,rfl⟩:=len2 hl;exact rfl⟩
abbrev Lx:Stmt:=top 27
theorem gJ:aA ["hand","sheets"] ["hand","sheets"] (bL Lx):=by nofun
theorem zjj(F:fu K "sheets_with" "sheets_with" Lx f fd)(hm:mg "sheets_with" =some (.ref f)):cJ P w K mg base "sheets_with" 1 ["hand","sheets"] (xr c):=
 ⟨f,fd,iy F gJ (fun _ _ _ h=>zkf h) fun cdv A outer s H E hr F0=>⟨zey K c,by
  have nd:=gJ.nd;have hu:=cD hr;exact(bT (by exact(fB (by exact(d9 (by exact(n6 (own:= ["sheet"]) (N' := ["sheet","hand"]) (by show cR ["hand","sheets"] _ ["sheet"] [0] (bL Lx) ["sheet","hand"];symm_saturate) rfl #[kh (nq (qv 1))] #[cO (i:=0) (show(["sheet","hand"]:List Str).Nodup by decide+kernel) rfl (by trivial),_] #[vJ (z4z (hu1 hu) (qv 1) (qv 0) (by with_unfolding_all rfl)),_] #[qv 0,_]))))))),fun ds Q Ex h=>zkj h⟩,hm,F.kp,F.binds fun _ _ _ _ _ _ us hl=>by obtain⟨_,_,rfl⟩:=len2 hl;exact rfl⟩
abbrev Vj:Stmt:=top 7
theorem qL:aA ["one","other"] ["one","other"] (bL Vj):=by nofun
theorem z2p(F:fu K "plus" "plus" Vj f fd)(hm:mg "plus" =some (.ref f))(aZ:Lk P w K mg base c):cJ P w K mg base "plus" 3 ["one","other"] (Cm c):=
 ⟨f,fd,iy F qL (fun _ _ _ h=>z3y h) fun cdv A outer s H E hr F0=>⟨zwq K c,by
  have nd:=qL.nd;have hu:=cD hr;exact(bT #[fB #[dJ aZ (hr.mono (by decide)) rfl (aB (bI (fun _=>qw) (bI (fun _=>jJ) (eO (qv 0) aR (fun _ _=>rfl)) (eO (qv 1) aR (fun _ _=>rfl))) (bI (fun _=>jJ) (eO (qv 1) aR (fun _ _=>rfl)) (eO (qv 0) aR (fun _ _=>rfl)))) (aB (bI (fun _=>jJ) (eO (qv 0) aR (fun _ _=>rfl)) (eO (qv 1) aR (fun _ _=>rfl))) aL))]]),fun ds Q Ex h=>z4t h⟩,hm,F.kp,F.binds fun _ _ _ _ _ _ us hl=>by obtain⟨_,_,rfl⟩:=len2 hl;exact rfl⟩
abbrev Vk:Stmt:=top 9
theorem oW:aA ["some","reached","part"] ["some"] (bL Vk):=by nofun
theorem zw7(F:fu K "total" "total" Vk f fd)(hm:mg "total" =some (.ref f))(jD:zuy P w K mg base c):cJ P w K mg base "total" 4 ["some"] (Cq c):=
 ⟨f,fd,iy F oW (fun _ _ _ h=>z1k h) fun cdv A outer s H E hr F0=>⟨zqf K c,by
  have nd:=oW.nd;have hu:=cD hr;exact(bH #[dO (i:=1) nd rfl (by trivial) #[sW (aB aR (aB aR aL))]]
   #[bH #[uU rfl #[qv 0] #[cO (i:=2) nd rfl (by trivial)]
   #[bT #[dO (i:=1) nd rfl (by trivial) #[dJ jD (hr.mono (by decide)) rfl (aB (qv 1) (aB (qv 2) aL))]]]]
   #[bT #[fB #[qv 1]]]]),fun ds Q Ex h=>z07 h⟩,hm,F.kp,F.binds fun _ _ _ _ _ _ us hl=>by obtain⟨_,rfl⟩:=len1 hl;exact rfl⟩
abbrev Ly:Stmt:=top 29
theorem oX:aA ["hand","other","sheets","both","through_works"] ["hand","other","sheets"] (bL Ly):=by nofun
theorem zya(F:fu K "share" "share" Ly f fd)(hm:mg "share" =some (.ref f))(aN:U4 P w K mg base c)(gR:zqu P w K mg base c)(jD:zuy P w K mg base c)(bx:mg "len" =none):cJ P w K mg base "share" 5 ["hand","other","sheets"] (HB c):=
 ⟨f,fd,iy F oX (fun _ _ _ h=>z0q h) fun cdv A outer s H E hr F0=>⟨zq2 K c,by
  have nd:=oX.nd;have hu:=cD hr;exact(bH #[dO (i:=3) nd rfl (by trivial) #[dJ aN (hr.mono (by decide)) rfl (aB (qv 1) (aB (dJ aN (hr.mono (by decide)) rfl (aB (qv 0) (aB (qv 2) aL))) aL))]]
   (by exact(bH (by exact(dO (i:=4) nd rfl (by trivial) (by exact(dJ gR (hr.mono (by decide)) rfl (aB (d9 (by exact(n6 (own:= ["sheet"]) (N' := ["sheet"]) (by show cR ["hand","other","sheets","both","through_works"] _ ["sheet"] [] (bL Ly) ["sheet"];symm_saturate) rfl #[kh (nq (qv 3))] #[cO (i:=0) (show(["sheet"]:List Str).Nodup by decide+kernel) rfl (by trivial),_] #[qC,_] #[sW (aB (PB aR) (aB (mJ (fun _=>z0k) rfl bx boot_len (aB (qv 0) aL)) aL)),_]))) aL)))))
   #[bT #[fB #[Xa (jm (fun _=>iQ hu) (qv 0) (qv 1) (aK _)) (dJ jD (hr.mono (by decide)) rfl (aB (sW (aB (mJ (fun _=>rR) rfl bx boot_len (aB (qv 3) aL)) (aB aR aL))) (aB (qv 4) aL))) (qv 4)]]]))),fun ds Q Ex h=>z2o h⟩,hm,F.kp,F.binds fun _ _ _ _ _ _ us hl=>by obtain⟨_,_,_,rfl⟩:=rG hl;exact rfl⟩
abbrev Lz:Stmt:=top 28
theorem mW:aA ["hand","hands","sheets"] ["hand","hands","sheets"] (bL Lz):=by nofun
theorem ztv(F:fu K "shares" "shares" Lz f fd)(hm:mg "shares" =some (.ref f))(nJ:cJ P w K mg base "share" 5 ["hand","other","sheets"] (HB c)):cJ P w K mg base "shares" 6 ["hand","hands","sheets"] (HD c):=
 ⟨f,fd,iy F mW (fun _ _ _ h=>zx7 h) fun cdv A outer s H E hr F0=>⟨zl8 K c,by
  have nd:=mW.nd;have hu:=cD hr;exact(bT (by exact(fB (by exact(d9 (by exact(n6 (own:= ["other"]) (N' := ["other","hand","sheets"]) (by show cR ["hand","hands","sheets"] _ ["other"] [0,2] (bL Lz) ["other","hand","sheets"];symm_saturate) rfl #[kh (nq (qv 1))] #[cO (i:=0) (show(["other","hand","sheets"]:List Str).Nodup by decide+kernel) rfl (by trivial),_] #[qC,_] #[dJ nJ (hr.mono (by decide)) rfl (aB (qv 1) (aB (qv 0) (aB (qv 2) aL))),_]))))))),fun ds Q Ex h=>zx9 h⟩,hm,F.kp,F.binds fun _ _ _ _ _ _ us hl=>by obtain⟨_,_,_,rfl⟩:=rG hl;exact rfl⟩
abbrev Vl:Stmt:=top 8
theorem oY:aA ["one","other"] ["one","other"] (bL Vl):=by nofun
theorem zx4(F:fu K "minus" "minus" Vl f fd)(hm:mg "minus" =some (.ref f))(aZ:Lk P w K mg base c):cJ P w K mg base "minus" 3 ["one","other"] (Cp c):=
 ⟨f,fd,iy F oY (fun _ _ _ h=>z06 h) fun cdv A outer s H E hr F0=>⟨zro K c,by
  have nd:=oY.nd;have hu:=cD hr;exact(bT #[fB #[dJ aZ (hr.mono (by decide)) rfl (aB (bI (fun _=>JN) (bI (fun _=>jJ) (eO (qv 0) aR (fun _ _=>rfl)) (eO (qv 1) aR (fun _ _=>rfl))) (bI (fun _=>jJ) (eO (qv 1) aR (fun _ _=>rfl)) (eO (qv 0) aR (fun _ _=>rfl)))) (aB (bI (fun _=>jJ) (eO (qv 0) aR (fun _ _=>rfl)) (eO (qv 1) aR (fun _ _=>rfl))) aL))]]),fun ds Q Ex h=>z1d h⟩,hm,F.kp,F.binds fun _ _ _ _ _ _ us hl=>by obtain⟨_,_,rfl⟩:=len2 hl;exact rfl⟩
abbrev Vm:Stmt:=top 31
theorem jj:aA ["sheet"] ["sheet"] (bL Vm):=by nofun
theorem zl3(F:fu K "mean_mark" "mean_mark" Vm f fd)(hm:mg "mean_mark" =some (.ref f))(aZ:Lk P w K mg base c)(lJ:mg "sum" =none)(bx:mg "len" =none):cJ P w K mg base "mean_mark" 3 ["sheet"] (HF c):=
 ⟨f,fd,iy F jj (fun _ _ _ h=>zpt h) fun cdv A outer s H E hr F0=>⟨zha K c,by
  have nd:=jj.nd;have hu:=cD hr;exact(bT #[fB #[dJ aZ (hr.mono (by decide)) rfl (aB (z2l rfl rfl lJ (qv 0)) (aB (mJ (fun _=>z0k) rfl bx boot_len (aB (qv 0) aL)) aL))]]),fun ds Q Ex h=>zow h⟩,hm,F.kp,F.binds fun _ _ _ _ _ _ us hl=>by obtain⟨_,rfl⟩:=len1 hl;exact rfl⟩
abbrev LC:Stmt:=top 30
theorem mX:aA ["hand","sheets"] ["hand","sheets"] (bL LC):=by nofun
theorem ztk(F:fu K "excess" "excess" LC f fd)(hm:mg "excess" =some (.ref f))(gR:zqu P w K mg base c)(gU:zq7 P w K mg base c)(gK:cJ P w K mg base "mean_mark" 3 ["sheet"] (HF c))(aN:U4 P w K mg base c):cJ P w K mg base "excess" 5 ["hand","sheets"] (HJ c):=
 ⟨f,fd,iy F mX (fun _ _ _ h=>zxr h) fun cdv A outer s H E hr F0=>⟨Ug K c,by
  have nd:=mX.nd;have hu:=cD hr;exact(bT (by exact(fB (by exact(dJ gR (hr.mono (by decide)) rfl (aB (d9 (by exact(n6 (own:= ["sheet"]) (N' := ["sheet","hand"]) (by show cR ["hand","sheets"] _ ["sheet"] [0] (bL LC) ["sheet","hand"];symm_saturate) rfl #[kh (nq (dJ aN (hr.mono (by decide)) rfl (aB (qv 0) (aB (qv 1) aL))))] #[cO (i:=0) (show(["sheet","hand"]:List Str).Nodup by decide+kernel) rfl (by trivial),_] #[qC,_] #[dJ gU (hr.mono (by decide)) rfl (aB (sW (aB (S5 (hu1 hu) (qv 0) (qv 1)) (aB aR aL))) (aB (dJ gK (hr.mono (by decide)) rfl (aB (qv 0) aL)) aL)),_]))) aL)))))),fun ds Q Ex h=>zyw h⟩,hm,F.kp,F.binds fun _ _ _ _ _ _ us hl=>by obtain⟨_,_,rfl⟩:=len2 hl;exact rfl⟩
abbrev CV:Stmt:=top 26
theorem fj:aA ["hands","sheets","lefts","rights","numbers"] ["hands","sheets"] (bL CV):=by nofun
theorem zgr(F:fu K "group_leanings" "group_leanings" CV f fd)(hm:mg "group_leanings" =some (.ref f))(lK:cJ P w K mg base "solved" 3 ["rows","rights"] (Hv c))(lM:cJ P w K mg base "shares" 6 ["hand","hands","sheets"] (HD c))(lN:cJ P w K mg base "excess" 5 ["hand","sheets"] (HJ c))(aN:U4 P w K mg base c)(bx:mg "len" =none):cJ P w K mg base "group_leanings" 7 ["hands","sheets"] (HN c):=
 ⟨f,fd,iy F fj (fun _ _ _ h=>zhj h) fun cdv A outer s H E hr F0=>⟨zc8 K c,by
  have nd:=fj.nd;have hu:=cD hr;exact(bH (by exact(FQ (by exact(Fy (i:=2) nd rfl rfl (own:= ["hand"]) (N' := ["hand","hands","sheets"]) (by show cR ["hands","sheets","lefts","rights","numbers"] _ ["hand"] [0,1] (bL CV) ["hand","hands","sheets"];symm_saturate) rfl #[kh (nq (d9 #[J2 (qv 0) (Bp aR) Bo]))] #[cO (i:=0) (show(["hand","hands","sheets"]:List Str).Nodup by decide+kernel) rfl (by trivial),_] #[qC,_] #[dJ lM (hr.mono (by decide)) rfl (aB (qv 0) (aB (qv 1) (aB (qv 2) aL))),_]))))
   (by exact(bH (by exact(FQ (by exact(Fy (i:=3) nd rfl rfl (own:= ["hand"]) (N' := ["hand","sheets"]) (by show cR ["hands","sheets","lefts","rights","numbers"] _ ["hand"] [1] (bL CV) ["hand","sheets"];symm_saturate) rfl #[kh (nq (d9 #[J2 (qv 0) (Bp aR) Bo]))] #[cO (i:=0) (show(["hand","sheets"]:List Str).Nodup by decide+kernel) rfl (by trivial),_] #[qC,_] #[dJ lN (hr.mono (by decide)) rfl (aB (qv 0) (aB (qv 1) aL)),_]))))
   (by exact(bH (by exact(FQ (by exact(Fy (i:=4) nd rfl rfl (own:= ["hand"]) (N' := ["hand","sheets"]) (by show cR ["hands","sheets","lefts","rights","numbers"] _ ["hand"] [1] (bL CV) ["hand","sheets"];symm_saturate) rfl #[kh (nq (qv 0))] #[cO (i:=0) (show(["hand","sheets"]:List Str).Nodup by decide+kernel) rfl (by trivial),_] #[qC,_] #[sW (aB (mJ (fun _=>rR) rfl bx boot_len (aB (dJ aN (hr.mono (by decide)) rfl (aB (qv 0) (aB (qv 1) aL))) aL)) (aB aR aL)),_]))))
   #[bT #[fB #[dJ lK (hr.mono (by decide)) rfl (aB (d9 #[wL (d9 #[qQ (aB (qv 4) aL)]) (qv 2)]) (aB (d9 #[wL (d9 #[qQ (aB (sW (aB aR (aB aR aL))) aL)]) (qv 3)]) aL))]]]))))),fun ds Q Ex h=>zhh h⟩,hm,F.kp,F.binds fun _ _ _ _ _ _ us hl=>by obtain⟨_,_,rfl⟩:=len2 hl;exact rfl⟩
abbrev LK:Stmt:=top 24
theorem jQ:aA ["rows","found","hands","sheets","hand","leaning"] ["rows"] (bL LK):=by nofun
theorem zph(F:fu K "leanings" "leanings" LK f fd)(hm:mg "leanings" =some (.ref f))(lO:nC P w K mg base "groups" 3 ["rows"] (Hy c))(dB:cJ P w K mg base "group_leanings" 7 ["hands","sheets"] (HN c))(dY:zka P w K mg base c)(bG:mg "list" =none)(fX:mg "zip" =none):nC P w K mg base "leanings" 8 ["rows"] (Cw c):=
 ⟨f,fd,zj F jQ (fun _ _ _ h=>zr7 h) fun cdv A outer s H E hr F0=>⟨zim K c,by
  have nd:=jQ.nd;have hu:=cD hr;exact(bH #[Zb (i:=1) nd rfl (by trivial) #[RG]]
   (by exact(bH (by exact(uU rfl #[dJ lO.fn (hr.mono (by decide)) rfl (aB (qv 0) aL)] #[cO (i:=2) nd rfl (by trivial)]
   (by exact(bH (by exact(dO (i:=3) nd rfl (by trivial) (by exact(d9 (by exact(zyp rfl rfl bG (dJ dY.fn (hr.mono (by decide)) rfl (aB (d9 (by exact(n6 (own:= ["row"]) (N' := ["row","hands"]) (by show cR ["rows","found","hands","sheets","hand","leaning"] _ ["row"] [2] (bL LK) ["row","hands"];symm_saturate) rfl #[kh (nq (qv 0))] #[cO (i:=0) (show(["row","hands"]:List Str).Nodup by decide+kernel) rfl (by trivial),_] #[vJ (jm (fun _=>qY) (eO (qv 0) aR (fun _ _=>rfl)) (qv 1) (by with_unfolding_all rfl)),_] #[qv 0,_]))) aL))))))))
   #[bT #[Qu rfl #[Kd rfl rfl fX (aB (qv 2) (aB (dJ dB (hr.mono (by decide)) rfl (aB (qv 2) (aB (qv 3) aL))) aL))] #[qT rfl (gY (cO (i:=4) nd rfl (by trivial)) (gY (cO (i:=5) nd rfl (by trivial)) qR))]
   #[bT #[zyv (i:=1) (hu1 hu) rfl (by trivial) #[qv 4] #[qv 5]]]]]))))
   #[bT #[RJ #[Zc (i:=1) rfl (by trivial)]]]))),fun ds Q Ex h=>zr4 h⟩,hm,F.kp,F.binds fun _ _ _ _ _ _ us hl=>by obtain⟨_,rfl⟩:=len1 hl;exact rfl⟩
abbrev LQ:Stmt:=top 25
theorem jR:aA ["rows","found"] ["rows"] (bL LQ):=by nofun
theorem zpy(F:fu K "levelled" "levelled" LQ f fd)(hm:mg "levelled" =some (.ref f))(dD:zin P w K mg base c)(gU:zq7 P w K mg base c):cJ P w K mg base "levelled" 9 ["rows"] (HY c):=
 ⟨f,fd,iy F jR (fun _ _ _ h=>zrt h) fun cdv A outer s H E hr F0=>⟨zid K c,by
  have nd:=jR.nd;have hu:=cD hr;exact(bH #[dO (i:=1) nd rfl (by trivial) #[zuk #[RL dD (hr.mono (by decide)) rfl (aB (qv 0) aL)]]]
   (by exact(bT (by exact(fB (by exact(d9 (by exact(n6 (own:= ["work","hand","mark"]) (N' := ["work","hand","mark","found"]) (by show cR ["rows","found"] _ ["work","hand","mark"] [1] (bL LQ) ["work","hand","mark","found"];symm_saturate) rfl #[kh (nq (qv 0))] #[qT rfl (gY (cO (i:=0) (show(["work","hand","mark","found"]:List Str).Nodup by decide+kernel) rfl (by trivial)) (gY (cO (i:=1) (show(["work","hand","mark","found"]:List Str).Nodup by decide+kernel) rfl (by trivial)) (gY (cO (i:=2) (show(["work","hand","mark","found"]:List Str).Nodup by decide+kernel) rfl (by trivial)) qR))),_] #[qC,_] #[sW (aB (qv 0) (aB (qv 1) (aB (dJ gU (hr.mono (by decide)) rfl (aB (sW (aB (qv 2) (aB aR aL))) (aB (S5 (hu1 hu) (qv 3) (qv 1)) aL))) aL))),_]))))))))),fun ds Q Ex h=>zsl h⟩,hm,F.kp,F.binds fun _ _ _ _ _ _ us hl=>by obtain⟨_,rfl⟩:=len1 hl;exact rfl⟩
abbrev xO:Stmt:=top 40
theorem iG:aA ["_law_rows_here","_law_found","_law_work","_law_hand","_law_mark","_law_one","_law_group"] ["_law_rows_here"] (bL xO):=by nofun
theorem zls(F:fu K "_law_groups" "_law_groups" xO f fd)(hm:mg "_law_groups" =some (.ref f))(cL:mg "sorted" =none)(mR:mg "set" =none):cJ P w K mg base "_law_groups" 1 ["_law_rows_here"] (HS c):=
 ⟨f,fd,iy F iG (fun _ _ _ h=>znl h) fun cdv A outer s H E hr F0=>⟨zf7 K c,by
  have nd:=iG.nd;have hu:=cD hr;exact(bH #[dO (i:=1) nd rfl (by trivial) #[d9 #[qQ aL]]]
   (by exact(bH (by exact(uU rfl #[qv 0] #[qT rfl (gY (cO (i:=2) nd rfl (by trivial)) (gY (cO (i:=3) nd rfl (by trivial)) (gY (cO (i:=4) nd rfl (by trivial)) qR)))]
   (by exact(bH (by exact(dO (i:=5) nd rfl (by trivial) (by exact(d9 (by exact(wL (d9 #[qQ (aB (qv 3) aL)]) (d9 (by exact(n6 (own:= ["_law_name","_law_other","_law_more"]) (N' := ["_law_name","_law_other","_law_more","_law_work"]) (by show cR ["_law_rows_here","_law_found","_law_work","_law_hand","_law_mark","_law_one","_law_group"] _ ["_law_name","_law_other","_law_more"] [2] (bL xO) ["_law_name","_law_other","_law_more","_law_work"];symm_saturate) rfl #[kh (nq (qv 0))] #[qT rfl (gY (cO (i:=0) (show(["_law_name","_law_other","_law_more","_law_work"]:List Str).Nodup by decide+kernel) rfl (by trivial)) (gY (cO (i:=1) (show(["_law_name","_law_other","_law_more","_law_work"]:List Str).Nodup by decide+kernel) rfl (by trivial)) (gY (cO (i:=2) (show(["_law_name","_law_other","_law_more","_law_work"]:List Str).Nodup by decide+kernel) rfl (by trivial)) qR))),_] #[vJ (jm (fun _=>iQ hu) (qv 0) (qv 3) (aK _)),_] #[qv 1,_])))))))))
   (by exact(bH (by exact(uU rfl #[qv 1] #[cO (i:=6) nd rfl (by trivial)]
   (by exact(bT (by exact(mj (by exact(jm (fun _=>mz hu) (d9 (by exact(n6 (own:= ["_law_other"]) (N' := ["_law_other","_law_one"]) (by show cR ["_law_rows_here","_law_found","_law_work","_law_hand","_law_mark","_law_one","_law_group"] _ ["_law_other"] [5] (bL xO) ["_law_other","_law_one"];symm_saturate) rfl #[kh (nq (qv 6))] #[cO (i:=0) (show(["_law_other","_law_one"]:List Str).Nodup by decide+kernel) rfl (by trivial),_] #[vJ (jm (fun _=>qY) (qv 0) (qv 1) (by with_unfolding_all rfl)),_] #[qv 0,_]))) (d9 #[qQ aL]) (aK _)))
   #[bT #[dO (i:=5) nd rfl (by trivial) #[d9 #[wL (qv 5) (qv 6)]]]]
   #[lZ]))))))
   (by exact(bT (by exact(dO (i:=1) nd rfl (by trivial) (by exact(d9 (by exact(wL (d9 (by exact(n6 (own:= ["_law_group"]) (N' := ["_law_group","_law_one"]) (by show cR ["_law_rows_here","_law_found","_law_work","_law_hand","_law_mark","_law_one","_law_group"] _ ["_law_group"] [5] (bL xO) ["_law_group","_law_one"];symm_saturate) rfl #[kh (nq (qv 1))] #[cO (i:=0) (show(["_law_group","_law_one"]:List Str).Nodup by decide+kernel) rfl (by trivial),_] #[vJ (jm (fun _=>iQ hu) (d9 (by exact(n6 (own:= ["_law_other"]) (N' := ["_law_other","_law_one"]) (by show cR ["_law_group","_law_one"] _ ["_law_other"] [1] (zxd _ (bL xO)) ["_law_other","_law_one"];symm_saturate) rfl #[kh (nq (qv 0))] #[cO (i:=0) (show(["_law_other","_law_one"]:List Str).Nodup by decide+kernel) rfl (by trivial),_] #[vJ (jm (fun _=>qY) (qv 0) (qv 1) (by with_unfolding_all rfl)),_] #[qv 0,_]))) (d9 #[qQ aL]) (aK _)),_] #[qv 0,_]))) (d9 #[qQ (aB (qv 5) aL)])))))))))))))))
   (by exact(bT (by exact(fB (by exact(d9 (by exact(X3 (fun _=>ZJ hu) rfl cL boot_sorted (aB (d9 (by exact(n6 (own:= ["_law_group"]) (N' := ["_law_group"]) (by show cR ["_law_rows_here","_law_found","_law_work","_law_hand","_law_mark","_law_one","_law_group"] _ ["_law_group"] [] (bL xO) ["_law_group"];symm_saturate) rfl #[kh (nq (qv 1))] #[cO (i:=0) (show(["_law_group"]:List Str).Nodup by decide+kernel) rfl (by trivial),_] #[qC,_] #[d9 #[ZF rfl rfl cL rfl mR (aB (qv 0) aL)],_]))) aL)))))))))))),fun ds Q Ex h=>zma h⟩,hm,F.kp,F.binds fun _ _ _ _ _ _ us hl=>by obtain⟨_,rfl⟩:=len1 hl;exact rfl⟩
abbrev Vn:Stmt:=top 36
theorem mY:aA ["_law_found","_law_due","_law_part"] ["_law_found","_law_due"] (bL Vn):=by nofun
theorem zve(F:fu K "_law_is" "_law_is" Vn f fd)(hm:mg "_law_is" =some (.ref f))(bw:mg "isinstance" =none)(gW:mg "tuple" =none)(bx:mg "len" =none)(pU:mg "bool" =none)(lB:mg "int" =none):cJ P w K mg base "_law_is" 1 ["_law_found","_law_due"] (Hl c):=
 ⟨f,fd,iy F mY (fun _ _ _ h=>zxu h) fun cdv A outer s H E hr F0=>⟨CG K c,by
  have nd:=mY.nd;have hu:=cD hr;exact(bH #[mj #[sV (yu (wA (sU (Fj (qv 0) rfl bw rfl gW rfl))) (yu (jm (fun _=>mz hu) (mJ (fun _=>rR) rfl bx boot_len (aB (qv 0) aL)) aR (aK _)) (Ew (jm (fun _=>mz hu) (qv 0) (qv 1) (aK _)))))]
   #[bT #[fB #[sS]]]
   #[lZ]]
   #[bH #[uU rfl #[qv 0] #[cO (i:=2) nd rfl (by trivial)]
   #[bT #[mj #[sV (yu (wA (sU (Fj (qv 2) rfl bw rfl lB rfl))) (Ew (sU (Fj (qv 2) rfl bw rfl pU rfl))))]
   #[bT #[fB #[sS]]]
   #[lZ]]]]
   #[bT #[fB #[sS]]]]),fun ds Q Ex h=>zyh h⟩,hm,F.kp,F.binds fun _ _ _ _ _ _ us hl=>by obtain⟨_,_,rfl⟩:=len2 hl;exact rfl⟩
abbrev Vo:Stmt:=top 34
theorem gM:aA ["_law_one","_law_other"] ["_law_one","_law_other"] (bL Vo):=by nofun
theorem zjg(F:fu K "_law_divisor" "_law_divisor" Vo f fd)(hm:mg "_law_divisor" =some (.ref f))(lF:mg "abs" =none):cJ P w K mg base "_law_divisor" 1 ["_law_one","_law_other"] (Cz c):=
 ⟨f,fd,iy F gM (fun _ _ _ h=>zk8 h) fun cdv A outer s H E hr F0=>⟨ze0 K c,by
  have nd:=gM.nd;have hu:=cD hr;exact(bH #[dO (i:=0) nd rfl (by trivial) #[mJ (fun _=>PJ) rfl lF boot_abs (aB (qv 0) aL)]]
   #[bH #[dO (i:=1) nd rfl (by trivial) #[mJ (fun _=>PJ) rfl lF boot_abs (aB (qv 1) aL)]]
   #[bH #[Xc #[jm (fun _=>vG) (qv 1) aR (aK _)]
   #[bT #[z4u (i:=0) (j:=1) rfl nd rfl rfl (by decide) rfl rfl (aB (qv 1) (aB (bI (fun _=>jY) (qv 0) (qv 1)) aL)) rfl]]]
   #[bT #[fB #[qv 0]]]]]),fun ds Q Ex h=>zlk h⟩,hm,F.kp,F.binds fun _ _ _ _ _ _ us hl=>by obtain⟨_,_,rfl⟩:=len2 hl;exact rfl⟩
abbrev Vp:Stmt:=top 35
theorem lQ:aA ["_law_top","_law_bottom_here","_law_by"] ["_law_top","_law_bottom_here"] (bL Vp):=by nofun
theorem zsc(F:fu K "_law_low" "_law_low" Vp f fd)(hm:mg "_law_low" =some (.ref f))(bU:zew P w K mg base c):cJ P w K mg base "_law_low" 2 ["_law_top","_law_bottom_here"] (Ia c):=
 ⟨f,fd,iy F lQ (fun _ _ _ h=>zvt h) fun cdv A outer s H E hr F0=>⟨zj6 K c,by
  have nd:=lQ.nd;have hu:=cD hr;exact(bH #[dO (i:=2) nd rfl (by trivial) #[dJ bU (hr.mono (by decide)) rfl (aB (qv 0) (aB (qv 1) aL))]]
   #[bH #[mj #[jm (fun _=>yH) (qv 1) aR (aK _)]
   #[bT #[dO (i:=2) nd rfl (by trivial) #[bI (fun _=>JN) aR (qv 2)]]]
   #[lZ]]
   #[bT #[fB #[sW (aB (bI (fun _=>qx) (qv 0) (qv 2)) (aB (bI (fun _=>qx) (qv 1) (qv 2)) aL))]]]]),fun ds Q Ex h=>zwg h⟩,hm,F.kp,F.binds fun _ _ _ _ _ _ us hl=>by obtain⟨_,_,rfl⟩:=len2 hl;exact rfl⟩
abbrev Vq:Stmt:=top 43
theorem jk:aA ["_law_rows_here","_law_told","_law_leaning","_law_row","_law_one","_law_lean"] ["_law_rows_here","_law_told"] (bL Vq):=by nofun
theorem zmh(F:fu K "_law_right" "_law_right" Vq f fd)(hm:mg "_law_right" =some (.ref f))(dD:zin P w K mg base c)(lR:cJ P w K mg base "_law_is" 1 ["_law_found","_law_due"] (Hl c))(jE:cJ P w K mg base "_law_low" 2 ["_law_top","_law_bottom_here"] (Ia c))(fX:mg "zip" =none)(bw:mg "isinstance" =none)(bG:mg "list" =none)(bx:mg "len" =none)(gW:mg "tuple" =none):cJ P w K mg base "_law_right" 9 ["_law_rows_here","_law_told"] (Ig c):=
 ⟨f,fd,iy F jk (fun _ _ _ h=>zou h) fun cdv A outer s H E hr F0=>⟨K6 K c,by
  have nd:=jk.nd;have hu:=cD hr;exact(bH #[mj #[sV (yu (wA (sU (Fj (qv 1) rfl bw rfl bG rfl))) (Ew (jm (fun _=>mz hu) (mJ (fun _=>rR) rfl bx boot_len (aB (qv 1) aL)) (mJ (fun _=>rR) rfl bx boot_len (aB (qv 0) aL)) (aK _))))]
   #[bT #[fB #[sS]]]
   #[lZ]]
   #[bH #[dO (i:=2) nd rfl (by trivial) #[zuk #[RL dD (hr.mono (by decide)) rfl (aB (qv 0) aL)]]]
   #[bH #[Qu rfl #[Kd rfl rfl fX (aB (qv 0) (aB (qv 1) aL))] #[qT rfl (gY (cO (i:=3) nd rfl (by trivial)) (gY (cO (i:=4) nd rfl (by trivial)) qR))]
   #[bH #[mj #[sV (yu (wA (sU (Fj (qv 4) rfl bw rfl gW rfl))) (yu (jm (fun _=>mz hu) (mJ (fun _=>rR) rfl bx boot_len (aB (qv 4) aL)) aR (aK _)) (Ew (jm (fun _=>mz hu) (Ys (qv 4) Bo (Bp aR)) (Ys (qv 3) Bo (Bp aR)) (aK _)))))]
   #[bT #[fB #[sS]]]
   #[lZ]]
   #[bH #[dO (i:=5) nd rfl (by trivial) #[S5 (hu1 hu) (qv 2) (eO (qv 3) aR (fun _ _=>rfl))]]
   #[bT #[mj #[wA (sU (dJ lR (hr.mono (by decide)) rfl (aB (eO (qv 4) aR (fun _ _=>rfl)) (aB (dJ jE (hr.mono (by decide)) rfl (aB (bI (fun _=>JN) (bI (fun _=>jJ) (eO (qv 3) aR (fun _ _=>rfl)) (eO (qv 5) aR (fun _ _=>rfl))) (eO (qv 5) aR (fun _ _=>rfl))) (aB (eO (qv 5) aR (fun _ _=>rfl)) aL))) aL))))]
   #[bT #[fB #[sS]]]
   #[lZ]]]]]]
   #[bT #[fB #[sS]]]]]),fun ds Q Ex h=>zo7 h⟩,hm,F.kp,F.binds fun _ _ _ _ _ _ us hl=>by obtain⟨_,_,rfl⟩:=len2 hl;exact rfl⟩
abbrev Vr:Stmt:=top 41
theorem iH:aA ["_law_told","_law_bottom_here","_law_work","_law_hand","_law_one"] ["_law_told"] (bL Vr):=by nofun
theorem zkk(F:fu K "_law_bottom" "_law_bottom" Vr f fd)(hm:mg "_law_bottom" =some (.ref f))(bU:zew P w K mg base c):cJ P w K mg base "_law_bottom" 2 ["_law_told"] (Ib c):=
 ⟨f,fd,iy F iH (fun _ _ _ h=>zl4 h) fun cdv A outer s H E hr F0=>⟨zfo K c,by
  have nd:=iH.nd;have hu:=cD hr;exact(bH #[dO (i:=1) nd rfl (by trivial) #[aR]]
   #[bH #[uU rfl #[qv 0] #[qT rfl (gY (cO (i:=2) nd rfl (by trivial)) (gY (cO (i:=3) nd rfl (by trivial)) (gY (cO (i:=4) nd rfl (by trivial)) qR)))]
   #[bT #[dO (i:=1) nd rfl (by trivial) #[bI (fun _=>jJ) (qv 1) (bI (fun _=>qx) (eO (qv 4) aR (fun _ _=>rfl)) (dJ bU (hr.mono (by decide)) rfl (aB (qv 1) (aB (eO (qv 4) aR (fun _ _=>rfl)) aL))))]]]]
   #[bT #[fB #[qv 1]]]]),fun ds Q Ex h=>zm0 h⟩,hm,F.kp,F.binds fun _ _ _ _ _ _ us hl=>by obtain⟨_,rfl⟩:=len1 hl;exact rfl⟩
abbrev IV:Stmt:=top 42
theorem iI:aA ["_law_rows_here","_law_told","_law_hands","_law_bottom_here","_law_due"] ["_law_rows_here","_law_told","_law_hands"] (bL IV):=by nofun
theorem zkr(F:fu K "_law_summed" "_law_summed" IV f fd)(hm:mg "_law_summed" =some (.ref f))(fU:cJ P w K mg base "_law_bottom" 2 ["_law_told"] (Ib c))(lJ:mg "sum" =none):cJ P w K mg base "_law_summed" 3 ["_law_rows_here","_law_told","_law_hands"] (Ie c):=
 ⟨f,fd,iy F iI (fun _ _ _ h=>zn0 h) fun cdv A outer s H E hr F0=>⟨zfp K c,by
  have nd:=iI.nd;have hu:=cD hr;exact(bH #[dO (i:=3) nd rfl (by trivial) #[dJ fU (hr.mono (by decide)) rfl (aB (qv 1) aL)]]
   (by exact(bH (by exact(dO (i:=4) nd rfl (by trivial) (by exact(mJ (fun _=>Yc rfl) rfl lJ boot_sum (aB (d9 (by exact(n6 (own:= ["_law_work","_law_hand","_law_mark"]) (N' := ["_law_work","_law_hand","_law_mark","_law_hands"]) (by show cR ["_law_rows_here","_law_told","_law_hands","_law_bottom_here","_law_due"] _ ["_law_work","_law_hand","_law_mark"] [2] (bL IV) ["_law_work","_law_hand","_law_mark","_law_hands"];symm_saturate) rfl #[kh (nq (qv 0))] #[qT rfl (gY (cO (i:=0) (show(["_law_work","_law_hand","_law_mark","_law_hands"]:List Str).Nodup by decide+kernel) rfl (by trivial)) (gY (cO (i:=1) (show(["_law_work","_law_hand","_law_mark","_law_hands"]:List Str).Nodup by decide+kernel) rfl (by trivial)) (gY (cO (i:=2) (show(["_law_work","_law_hand","_law_mark","_law_hands"]:List Str).Nodup by decide+kernel) rfl (by trivial)) qR))),_] #[vJ (jm (fun _=>qY) (qv 1) (qv 3) (by with_unfolding_all rfl)),_] #[qv 2,_]))) aL)))))
   (by exact(bT (by exact(fB (by exact(uT (fun _=>iQ hu) (mJ (fun _=>Yc rfl) rfl lJ boot_sum (aB (d9 (by exact(n6 (own:= ["_law_work","_law_hand","_law_one"]) (N' := ["_law_work","_law_hand","_law_one","_law_hands","_law_bottom_here"]) (by show cR ["_law_rows_here","_law_told","_law_hands","_law_bottom_here","_law_due"] _ ["_law_work","_law_hand","_law_one"] [2,3] (bL IV) ["_law_work","_law_hand","_law_one","_law_hands","_law_bottom_here"];symm_saturate) rfl #[kh (nq (qv 1))] #[qT rfl (gY (cO (i:=0) (show(["_law_work","_law_hand","_law_one","_law_hands","_law_bottom_here"]:List Str).Nodup by decide+kernel) rfl (by trivial)) (gY (cO (i:=1) (show(["_law_work","_law_hand","_law_one","_law_hands","_law_bottom_here"]:List Str).Nodup by decide+kernel) rfl (by trivial)) (gY (cO (i:=2) (show(["_law_work","_law_hand","_law_one","_law_hands","_law_bottom_here"]:List Str).Nodup by decide+kernel) rfl (by trivial)) qR))),_] #[vJ (jm (fun _=>qY) (qv 1) (qv 3) (by with_unfolding_all rfl)),_] #[bI (fun _=>jJ) (eO (qv 2) aR (fun _ _=>rfl)) (bI (fun _=>qx) (qv 4) (eO (qv 2) aR (fun _ _=>rfl))),_]))) aL)) (bI (fun _=>jJ) (qv 4) (qv 3)) (aK _)))))))))),fun ds Q Ex h=>zof h⟩,hm,F.kp,F.binds fun _ _ _ _ _ _ us hl=>by obtain⟨_,_,_,rfl⟩:=rG hl;exact rfl⟩
abbrev oZ:Stmt:=top 44
theorem uG:aA ["_law_script","_law_rows_here","_law_handed","_law_told","_law_group"] ["_law_script"] (bL oZ):=by nofun
theorem z6e(hr:eG 9 (A.deeper (envOfC "law" (bL oZ) s.heap.objs.size f cdv)))(cM:U3 P w K mg base c)(cN:U5 P w K mg base c)(bQ:U6 P w K mg base c)(aJ:Lj P w K mg base c)(cg:U7 P w K mg base c)(bR:U8 P w K mg base c)(bG:mg "list" =none):qt (jU (gP P w) P w K mg base ["_law_script","_law_rows_here","_law_handed","_law_told","_law_group"] "law" (bL oZ) f cdv A outer s H E) F0 H (sG oZ) (Ih K c):=by
 have nd:=uG.nd;have hu:(A.deeper (envOfC "law" (bL oZ) s.heap.objs.size f cdv)).units+21<cLine:=by have:=hr.units;omega
 exact(bH #[dO (i:=1) nd rfl (by trivial) #[dJ cM (hr.mono (by decide)) rfl (aB (qv 0) (aB (bI (fun _=>qw) aR (bI (fun _=>jY) (dJ aJ (hr.mono (by decide)) rfl (aB (qv 0) (aB aR aL))) aR)) (aB (bI (fun _=>jY) (dJ aJ (hr.mono (by decide)) rfl (aB (qv 0) (aB aR aL))) aR) aL)))]]
 #[bH #[dO (i:=2) nd rfl (by trivial) #[d9 #[J1 (fun _=>Qx) rfl bG boot_list (aB (qv 1) aL)]]]
 #[bH #[dO (i:=3) nd rfl (by trivial) #[dJ cN (hr.mono (by decide)) rfl (aB (qv 2) aL)]]
 #[bH #[mj #[sV (yu (jm (fun _=>mz hu) (qv 2) (qv 1) (aK _)) (Ew (wA (sU (dJ cg (hr.mono (by decide)) rfl (aB (qv 1) (aB (qv 3) aL)))))))]
 #[bT #[fB #[sS]]]
 #[lZ]]
 #[bH #[uU rfl #[dJ bQ (hr.mono (by decide)) rfl (aB (qv 1) aL)] #[cO (i:=4) nd rfl (by trivial)]
 #[bT #[mj #[wA (sU (dJ bR (hr.mono (by decide)) rfl (aB (qv 1) (aB (qv 3) (aB (qv 4) aL)))))]
 #[bT #[fB #[sS]]]
 #[lZ]]]]
 #[bT #[fB #[sS]]]]]]])
theorem zz2(F:fu K "law" "law" oZ f fd)(cM:U3 P w K mg base c)(cN:U5 P w K mg base c)(bQ:U6 P w K mg base c)(aJ:Lj P w K mg base c)(cg:U7 P w K mg base c)(bR:U8 P w K mg base c)(bG:mg "list" =none):d7 P w K mg base (gP P w) 10 f fd ["_law_script"] (jV K (KY c)):=
 iy F uG (fun _ _ _ h=>z6n h) fun cdv A outer s H E hr F0=>⟨Ih K c,z6e c hr cM cN bQ aJ cg bR bG,fun ds Q Ex h=>z57 h⟩
theorem z6v(F:fu K "law" "law" oZ f fd)(hm:mg "law" =some (.ref f))(cM:U3 P w K mg base c)(cN:U5 P w K mg base c)(bQ:U6 P w K mg base c)(aJ:Lj P w K mg base c)(cg:U7 P w K mg base c)(bR:U8 P w K mg base c)(bG:mg "list" =none):cJ P w K mg base "law" 10 ["_law_script"] (KY c):=
 ⟨f,fd,zz2 c F cM cN bQ aJ cg bR bG,hm,F.kp,F.binds fun _ _ _ _ _ _ us hl=>by obtain⟨_,rfl⟩:=len1 hl;exact rfl⟩
end
def ds:List (Str×Stmt):= [Hd.d "_law_names" U9,Hd.d "_law_cell" Va,Hd.d "_law_marked" Vb,Hd.d "_law_rows" Vc,Hd.d "meet" Ln,Hd.d "joined" Lq,Hd.d "by_work" Vd,Hd.d "groups" Ve,Hd.d "divisor" Vf,Hd.d "whole_row" zdt,Hd.d "without" Lr,Hd.d "cleared" Ls,Hd.d "fraction" Vg,Hd.d "exchanged" Vh,Hd.d "led" Vi,Hd.d "solved" IK,Hd.d "sheets_with" Lx,Hd.d "plus" Vj,Hd.d "total" Vk,Hd.d "share" Ly,Hd.d "shares" Lz,Hd.d "minus" Vl,Hd.d "mean_mark" Vm,Hd.d "excess" LC,Hd.d "group_leanings" CV,Hd.d "leanings" LK,Hd.d "levelled" LQ,Hd.d "_law_groups" xO,Hd.d "_law_is" Vn,Hd.d "_law_divisor" Vo,Hd.d "_law_low" Vp,Hd.d "_law_right" Vq,Hd.d "_law_bottom" Vr,Hd.d "_law_summed" IV,Hd.d "law" oZ]
def obs(K:W.Frag):Bool×List (Option FuncData)×List (Option FuncData):=(
 decide (Hd.isRef (W.nsIn K mainGlobals "NoFraction")=true)&&(
 decide (Hd.isRef (W.nsIn K mainGlobals "NoAnswer")=true)&&(
 decide (W.excIn K (Hd.adr (W.nsIn K mainGlobals "NoFraction")) [.type "ValueError",.type "Exception",.type "BaseException",.type "object"] "ValueError.__new__" =true)&&(
 decide (W.excIn K (Hd.adr (W.nsIn K mainGlobals "NoAnswer")) [.type "ValueError",.type "Exception",.type "BaseException",.type "object"] "ValueError.__new__" =true)&&(
 decide (W.nsIn K mainGlobals "range" =some none)&&(
 decide (W.nsIn K mainGlobals "int" =some none)&&(
 decide (W.nsIn K mainGlobals "len" =some none)&&(
 decide (W.nsIn K mainGlobals "any" =some none)&&(
 decide (W.nsIn K mainGlobals "list" =some none)&&(
 decide (W.nsIn K mainGlobals "sorted" =some none)&&(
 decide (W.nsIn K mainGlobals "set" =some none)&&(
 decide (W.nsIn K mainGlobals "abs" =some none)&&(
 decide (W.nsIn K mainGlobals "zip" =some none)&&(
 decide (W.nsIn K mainGlobals "enumerate" =some none)&&(
 decide (W.nsIn K mainGlobals "sum" =some none)&&(
 decide (W.nsIn K mainGlobals "isinstance" =some none)&&(
 decide (W.nsIn K mainGlobals "tuple" =some none)&&(
 decide (W.nsIn K mainGlobals "bool" =some none)&&(true)))))))))))))))))),
 Hd.seen K ds,[])
def good:Bool×List (Option FuncData)×List (Option FuncData):=(true,Hd.due ds,
 [])
theorem z4p{l:W.OpenLaw}{w:World}{K:W.Frag}{h:Heap}{mg:Str ->Option Value}{fa:Addr}(O:obs K=good)(X:K.In h)(G:h.Ns mainGlobals mg)(hfa:mg "law" =some (.ref fa)):
 ∃fd:FuncData,(∀(s:Shared) (v:Value),BindsTo s fd ⟨[v],[]⟩ [("_law_script",v)])/\∀base:Heap,K.In base ->base.Ns mainGlobals mg ->d7 l.prog w K mg base (gP l.prog w) 10 fa fd ["_law_script"] (jV K JR):=by
 obtain⟨B,L⟩:=Prod.mk.inj O;obtain⟨L,M⟩:=Prod.mk.inj L;obtain⟨nM,B⟩:=Hd.aT B;obtain⟨pW,B⟩:=Hd.aT B;obtain⟨nO,B⟩:=Hd.aT B;obtain⟨pY,B⟩:=Hd.aT B;obtain⟨vX,B⟩:=Hd.aT B;obtain⟨IW,B⟩:=Hd.aT B;obtain⟨Ja,B⟩:=Hd.aT B;obtain⟨Jb,B⟩:=Hd.aT B;obtain⟨Al,B⟩:=Hd.aT B;obtain⟨uH,B⟩:=Hd.aT B;obtain⟨Jc,B⟩:=Hd.aT B;obtain⟨Jd,B⟩:=Hd.aT B;obtain⟨Je,B⟩:=Hd.aT B;obtain⟨o7,B⟩:=Hd.aT B;obtain⟨Jf,B⟩:=Hd.aT B;obtain⟨nP,B⟩:=Hd.aT B;obtain⟨vY,B⟩:=Hd.aT B;obtain⟨Am,B⟩:=Hd.aT B
 let c:Cls:={bN:=Hd.adr (W.nsIn K mainGlobals "NoFraction"),dM:=Hd.adr (W.nsIn K mainGlobals "NoAnswer")}
 have dW:mg "NoFraction" =some (.ref c.bN)/\oE K c.bN:=⟨W.mg_of X G (Hd.adr_of nM),nO⟩;have fQ:mg "NoAnswer" =some (.ref c.dM)/\oE K c.dM:=⟨W.mg_of X G (Hd.adr_of pW),pY⟩;have bY:mg "range" =none:=W.mg_none_of X G vX;have lB:mg "int" =none:=W.mg_none_of X G IW;have bx:mg "len" =none:=W.mg_none_of X G Ja;have uD:mg "any" =none:=W.mg_none_of X G Jb;have bG:mg "list" =none:=W.mg_none_of X G Al;have cL:mg "sorted" =none:=W.mg_none_of X G uH;have mR:mg "set" =none:=W.mg_none_of X G Jc;have lF:mg "abs" =none:=W.mg_none_of X G Jd;have fX:mg "zip" =none:=W.mg_none_of X G Je;have cQ:mg "enumerate" =none:=W.mg_none_of X G o7;have lJ:mg "sum" =none:=W.mg_none_of X G Jf;have bw:mg "isinstance" =none:=W.mg_none_of X G nP;have gW:mg "tuple" =none:=W.mg_none_of X G vY;have pU:mg "bool" =none:=W.mg_none_of X G Am;obtain⟨l0,L⟩:=Hd.seen_cons L;obtain⟨f0,fd0,a0,o8⟩:=Hd.fun_at l0;obtain⟨l1,L⟩:=Hd.seen_cons L;obtain⟨f1,fd1,a1,pZ⟩:=Hd.fun_at l1;obtain⟨l2,L⟩:=Hd.seen_cons L;obtain⟨f2,fd2,a2,nQ⟩:=Hd.fun_at l2;obtain⟨l3,L⟩:=Hd.seen_cons L;obtain⟨f3,fd3,a3,p7⟩:=Hd.fun_at l3;obtain⟨l4,L⟩:=Hd.seen_cons L;obtain⟨f4,fd4,a4,Ao⟩:=Hd.fun_at l4;obtain⟨l5,L⟩:=Hd.seen_cons L;obtain⟨f5,fd5,a5,uI⟩:=Hd.fun_at l5;obtain⟨l6,L⟩:=Hd.seen_cons L;obtain⟨f6,fd6,a6,rH⟩:=Hd.fun_at l6;obtain⟨l7,L⟩:=Hd.seen_cons L;obtain⟨f7,fd7,a7,uJ⟩:=Hd.fun_at l7;obtain⟨l8,L⟩:=Hd.seen_cons L;obtain⟨f8,fd8,a8,rJ⟩:=Hd.fun_at l8;obtain⟨l9,L⟩:=Hd.seen_cons L;obtain⟨f9,fd9,a9,o9⟩:=Hd.fun_at l9;obtain⟨l10,L⟩:=Hd.seen_cons L;obtain⟨f10,abx,a10,rK⟩:=Hd.fun_at l10;obtain⟨l11,L⟩:=Hd.seen_cons L;obtain⟨f11,aby,a11,rM⟩:=Hd.fun_at l11;obtain⟨l12,L⟩:=Hd.seen_cons L;obtain⟨f12,abz,a12,p8⟩:=Hd.fun_at l12;obtain⟨l13,L⟩:=Hd.seen_cons L;obtain⟨f13,abA,a13,pq⟩:=Hd.fun_at l13;obtain⟨l14,L⟩:=Hd.seen_cons L;obtain⟨f14,abB,a14,Jg⟩:=Hd.fun_at l14;obtain⟨l15,L⟩:=Hd.seen_cons L;obtain⟨f15,abC,a15,uK⟩:=Hd.fun_at l15;obtain⟨l16,L⟩:=Hd.seen_cons L;obtain⟨f16,abD,a16,mD⟩:=Hd.fun_at l16;obtain⟨l17,L⟩:=Hd.seen_cons L;obtain⟨f17,abE,a17,Aq⟩:=Hd.fun_at l17;obtain⟨l18,L⟩:=Hd.seen_cons L;obtain⟨f18,abF,a18,vZ⟩:=Hd.fun_at l18;obtain⟨l19,L⟩:=Hd.seen_cons L;obtain⟨f19,abG,a19,v7⟩:=Hd.fun_at l19;obtain⟨l20,L⟩:=Hd.seen_cons L;obtain⟨f20,abH,a20,uL⟩:=Hd.fun_at l20;obtain⟨l21,L⟩:=Hd.seen_cons L;obtain⟨f21,abI,a21,v8⟩:=Hd.fun_at l21;obtain⟨l22,L⟩:=Hd.seen_cons L;obtain⟨f22,abJ,a22,pA⟩:=Hd.fun_at l22;obtain⟨l23,L⟩:=Hd.seen_cons L;obtain⟨f23,abK,a23,uM⟩:=Hd.fun_at l23;obtain⟨l24,L⟩:=Hd.seen_cons L;obtain⟨f24,abL,a24,jF⟩:=Hd.fun_at l24;obtain⟨l25,L⟩:=Hd.seen_cons L;obtain⟨f25,abM,a25,qb⟩:=Hd.fun_at l25;obtain⟨l26,L⟩:=Hd.seen_cons L;obtain⟨f26,abN,a26,qd⟩:=Hd.fun_at l26;obtain⟨l27,L⟩:=Hd.seen_cons L;obtain⟨f27,abO,a27,nR⟩:=Hd.fun_at l27;obtain⟨l28,L⟩:=Hd.seen_cons L;obtain⟨f28,abP,a28,uN⟩:=Hd.fun_at l28;obtain⟨l29,L⟩:=Hd.seen_cons L;obtain⟨f29,abQ,a29,mF⟩:=Hd.fun_at l29;obtain⟨l30,L⟩:=Hd.seen_cons L;obtain⟨f30,abR,a30,rN⟩:=Hd.fun_at l30;obtain⟨l31,L⟩:=Hd.seen_cons L;obtain⟨f31,abS,a31,pB⟩:=Hd.fun_at l31;obtain⟨l32,L⟩:=Hd.seen_cons L;obtain⟨f32,abT,a32,nT⟩:=Hd.fun_at l32;obtain⟨l33,L⟩:=Hd.seen_cons L;obtain⟨f33,abU,a33,nU⟩:=Hd.fun_at l33;obtain⟨l34,L⟩:=Hd.seen_cons L;obtain⟨f34,Vs,a34,xP⟩:=Hd.fun_at l34;have e:=hfa.symm.trans (W.mg_of X G a34);cases e;refine⟨Vs,Hd.start_binds xP (fun _ _ _ _ _ _ _=>rfl),fun base kb nb=> ?_⟩;have eZ:=zn1 (P:=l.prog) (w:=w) (base:=base) c o8 (W.mg_of X G a0) bY lB;have aJ:=zol (P:=l.prog) (w:=w) (base:=base) c pZ (W.mg_of X G a1) bx;have fP:=zk3 (P:=l.prog) (w:=w) (base:=base) c nQ (W.mg_of X G a2);have cM:=zpz (P:=l.prog) (w:=w) (base:=base) c p7 (W.mg_of X G a3) eZ aJ fP bY bx;have nH:=z24 (P:=l.prog) (w:=w) (base:=base) c Ao (W.mg_of X G a4) uD;have lD:=zt3 (P:=l.prog) (w:=w) (base:=base) c uI (W.mg_of X G a5) nH bG cL mR;have dY:=zr8 (P:=l.prog) (w:=w) (base:=base) c rH (W.mg_of X G a6);have lO:=zu5 (P:=l.prog) (w:=w) (base:=base) c uJ (W.mg_of X G a7) lD dY cL bG;have dZ:=zsg (P:=l.prog) (w:=w) (base:=base) c rJ (W.mg_of X G a8) lF;have gH:=zl5 (P:=l.prog) (w:=w) (base:=base) c o9 (W.mg_of X G a9) dZ;have jB:=zr9 (P:=l.prog) (w:=w) (base:=base) c rK (W.mg_of X G a10) fX;have jC:=zr3 (P:=l.prog) (w:=w) (base:=base) c rM (W.mg_of X G a11) jB cQ;have aZ:=zoi (P:=l.prog) (w:=w) (base:=base) c p8 (W.mg_of X G a12) dZ dW;have gG:=zml (P:=l.prog) (w:=w) (base:=base) c pq (W.mg_of X G a13) bG;have uF:=z5d (P:=l.prog) (w:=w) (base:=base) c Jg (W.mg_of X G a14) gG bY bx fQ;have lK:=zvp (P:=l.prog) (w:=w) (base:=base) c uK (W.mg_of X G a15) gH jC aZ uF bY bx fX cQ;have aN:=zjj (P:=l.prog) (w:=w) (base:=base) c mD (W.mg_of X G a16);have jD:=z2p (P:=l.prog) (w:=w) (base:=base) c Aq (W.mg_of X G a17) aZ;have gR:=zw7 (P:=l.prog) (w:=w) (base:=base) c vZ (W.mg_of X G a18) jD;have nJ:=zya (P:=l.prog) (w:=w) (base:=base) c v7 (W.mg_of X G a19) aN gR jD bx;have lM:=ztv (P:=l.prog) (w:=w) (base:=base) c uL (W.mg_of X G a20) nJ;have gU:=zx4 (P:=l.prog) (w:=w) (base:=base) c v8 (W.mg_of X G a21) aZ;have gK:=zl3 (P:=l.prog) (w:=w) (base:=base) c pA (W.mg_of X G a22) aZ lJ bx;have lN:=ztk (P:=l.prog) (w:=w) (base:=base) c uM (W.mg_of X G a23) gR gU gK aN
 have dB:=zgr (P:=l.prog) (w:=w) (base:=base) c jF (W.mg_of X G a24) lK lM lN aN bx;have dD:=zph (P:=l.prog) (w:=w) (base:=base) c qb (W.mg_of X G a25) lO dB dY bG fX;have cN:=zpy (P:=l.prog) (w:=w) (base:=base) c qd (W.mg_of X G a26) dD gU;have bQ:=zls (P:=l.prog) (w:=w) (base:=base) c nR (W.mg_of X G a27) cL mR;have lR:=zve (P:=l.prog) (w:=w) (base:=base) c uN (W.mg_of X G a28) bw gW bx pU lB;have bU:=zjg (P:=l.prog) (w:=w) (base:=base) c mF (W.mg_of X G a29) lF;have jE:=zsc (P:=l.prog) (w:=w) (base:=base) c rN (W.mg_of X G a30) bU;have cg:=zmh (P:=l.prog) (w:=w) (base:=base) c pB (W.mg_of X G a31) dD lR jE fX bw bG bx gW;have fU:=zkk (P:=l.prog) (w:=w) (base:=base) c nT (W.mg_of X G a32) bU;have bR:=zkr (P:=l.prog) (w:=w) (base:=base) c nU (W.mg_of X G a33) fU lJ;exact zz2 (P:=l.prog) (w:=w) (base:=base) c xP cM cN bQ aJ cg bR bG
abbrev pg:Program:=PySem.Challenge.pw_hall_k33_levelled
abbrev lw:W.OpenLaw:=PySem.Challenge.rw_hall_k33_levelled
abbrev vw:Program:=W.view pg [44]
def loose:List Str:=pg.boundNames.filter fun x=>x != "law"
theorem hd_e:W.opening pg=W.plainProg pg.main.scope.names:=by kernel_rfl
theorem hd_f(s:Shared):PySem.fenceModules? pg s=some s:=by kernel_rfl
theorem hd_A(w:World)(os:OsState):W.topGo treeTable pg w 11 Hd.ann 12 (Hd.S0 w os) (W.topStub pg)=some (Hd.fore treeTable W.topGo pg w os,⟨denote treeTable (Hd.cB pg),Hd.cB pg,Hd.z,[W.topFrame Hd.z]⟩):=by
 rw[PySem.W.Fast.te15667345088766844465,PySem.W.Fast.te11892475500146522536,PySem.W.Fast.te14364793385576792824];kernel_rfl
theorem hd_B(w:World)(os:OsState):W.segRun treeTable pg w 11 Hd.ann 1 1 (Hd.fore treeTable W.topGo pg w os) (W.blockOf (W.behindTheImports pg) (Hd.env pg) (Hd.cB pg) Hd.z [W.topFrame Hd.z])=some (.next,Hd.fore treeTable W.topGo pg w os,Hd.cB pg,Hd.z):=by
 rw[PySem.W.Fast.te15667345088766844465,PySem.W.Fast.te14374325043358763698,PySem.W.Fast.te14364793385576792824];kernel_rfl
theorem hd_C(w:World)(os:OsState):(Hd.Ta (Hd.fore treeTable W.topGo pg w os)).abs=Hd.fore treeTable W.topGo pg w os:=by
 rw[PySem.W.Fast.te15667345088766844465,PySem.W.Fast.te14364793385576792824];kernel_rfl
theorem hd_D(w:World)(os:OsState):Hd.shot treeTable W.topGo W.segRunT W.topRun execs pg (Hd.rest W.openSeen pg vw loose (fun _=>true) obs 1500 w) w os=some ((.next,Hd.cB pg),(true,W.openGood vw loose,good)):=by
 rw[PySem.W.Fast.te15667345088766844465,PySem.W.Fast.te10110043849684766642,PySem.W.Fast.te14082659384304107361,PySem.W.Fast.te12563942051412417395,PySem.W.Fast.te4187177175401517315,PySem.W.Fast.te14364793385576792824];kernel_rfl
theorem hd_said:lw.wellSaid=true:=by kernel_rfl
theorem hd_ok:(W.chainsOk vw&&W.opensWell lw.row.prog&&(W.frees lw.row.toRowW&&lw.row.within.isEmpty))=true:=by kernel_rfl
theorem hd_bare:lw.row.prog.bare:=⟨rfl,rfl,rfl,rfl,rfl,by decide+kernel⟩
theorem hd_wit:lw.row.toRowW.promised:=by w_witness2
theorem hd_d:W.defOf vw lw.row.name=some (Hd.recOf oZ,[]):=by kernel_rfl
theorem hd_p:lw.row.prog.theDef lw.row.name=some ((Hd.recOf oZ).params,(Hd.recOf oZ).body,(Hd.recOf oZ).scope):=by kernel_rfl
theorem hd_k:W.kwWritten? (Hd.recOf oZ).params.kwonlyargs (Hd.recOf oZ).params.kw_defaults=some []:=by kernel_rfl
theorem hd_n:(Hd.recOf oZ).name= "law" :=by kernel_rfl
theorem hd_z:(Hd.recOf oZ).params.defaults= []:=by kernel_rfl
theorem hd_w:W.WalkO vw loose (fun _ _=>True) (fun _ h=>∃K:W.Frag,K.In h/\obs K=good) lw.row.toRowW (Hd.recOf oZ) [] (fun f vs=>PySem.call f vs):=
 Hd.walk_ex (n:=63) (k:=10) (x:= "_law_script") (CX:=fun w=>gP lw.prog w) (sp:=fun K=>jV K JR) (Fx:=fun K=>obs K=good) rfl (by decide) hd_z ⟨rfl,by decide,by decide⟩ (fun _ _ h=>h) (fun w K mg fa h O X G hm=>z4p O X G (hd_n ▸ hm)) (fun K H a ns hl hO hS=>zui hl hS) fun _ _ _ _ _ z=>zzl z
end Lw
theorem PySem.Challenge.cw_hall_k33_levelled_holds : PySem.Challenge.rw_hall_k33_levelled.Holds :=
 Hd.holds Lw.hd_said (Hd.left Lw.hd_e Lw.hd_f Lw.hd_A Lw.hd_B Lw.hd_C Lw.hd_D) Lw.hd_d Lw.hd_p Lw.hd_k Lw.hd_ok Lw.hd_bare Lw.hd_wit rfl Lw.hd_w
#print axioms PySem.Challenge.cw_hall_k33_levelled_holds
