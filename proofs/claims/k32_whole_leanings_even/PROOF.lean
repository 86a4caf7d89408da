import PyProof.Rows.All
import Wide.All
import OpenK.AllK
import Wide.FinOn
import Lean
import PyProof.EqAt
import PyProof.EqKinds
import PyProof.TupleCall
import PyProof.NeKinds
import PySem.Challenge.RW_hall_k32_whole_leanings_even
set_option Elab.async false
set_option linter.all false
set_option maxRecDepth 100000
set_option maxHeartbeats 4000000
abbrev bL:=PySem.Value ->PySem.Shared ->Prop
abbrev bD:=List (PySem.Addr×PySem.Obj)
section
open PySem PySem.Spec PyProof.Rows
abbrev z8:=@wpAny_bind
abbrev z9:=@wpAny_pure
abbrev zZ:=@Heap.get?_push_of_some
abbrev zY:=@Heap.get?_push_size
abbrev zX:=@List.getElem?_eq_getElem
abbrev zW:=@List.mem_cons_self
abbrev zV:=@List.mem_cons_of_mem
abbrev zU:=@List.getElem?_eq_some_iff
abbrev zT:=@List.mem_cons
abbrev zR:=@List.mem_append
abbrev zQ:=@List.mem_singleton
abbrev zP:=@List.mem_append_right
abbrev zO:=@List.mem_append_left
abbrev zN:=@Nat.le_trans
abbrev zM:=@Nat.le_refl
abbrev zL:=@Nat.lt_of_lt_of_le
abbrev zK:=@Nat.lt_of_le_of_lt
abbrev zJ:=@Nat.ne_of_lt
abbrev zH:=@Bool.false_ne_true
abbrev zG:=@Heap.lt_size
abbrev zF:=@Option.some.inj
abbrev zE:=@List.mem_map
abbrev zB:=@List.mem_filter
abbrev zA:=@Heap.get?_push_ne
abbrev yZ:=@List.mem_of_getElem?
abbrev yX:=@List.getElem_mem
abbrev yV:=@Nat.lt_irrefl
end
namespace L2
open PySem PySem.Spec PyProof.Rows
abbrev Key:=Sum Int Str
def kY:Key ->Value ->Bool
 | .inl k,v=>Value.isInt k v
 | .inr x,v=>Value.isStrOf x v
def Ng(w:World):Key ->Int
 | .inl k=>hashInt k
 | .inr x=>hashStr w x
theorem qC:∀{k:Key} {v:Value},kY k v=true ->(∃i t,k=Sum.inl i/\v=Value.int i t)\/ (∃x t,k=Sum.inr x/\v=Value.str x t)
 | .inl i,v,h=>by
  obtain⟨t,e⟩:=Value.isInt_shape (k:=i) (v:=v) h;exact .inl ⟨i,t,rfl,e⟩
 | .inr x,v,h=>by
  obtain⟨t,e⟩:=Value.isStrOf_shape (x:=x) (v:=v) h;exact .inr ⟨x,t,rfl,e⟩
theorem zvq(i:Int)(t:Tok):kY (.inl i) (.int i t)=true:=by simp [kY,Value.isInt]
theorem zv1(x:Str)(t:Tok):kY (.inr x) (.str x t)=true:=by simp [kY,Value.isStrOf]
theorem z34(a b:Int):decide ((Sum.inl a:Key)=Sum.inl b)=(a==b):=by
 by_cases e:a=b
 ·subst e;simp
 ·have h:¬(Sum.inl a:Key)=Sum.inl b:=fun q=>e (Sum.inl.inj q);rw[decide_eq_false h];exact(beq_eq_false_iff_ne.mpr e).symm
theorem z6f(a b:Str):decide ((Sum.inr a:Key)=Sum.inr b)=decide (a=b):=by
 by_cases e:a=b
 ·subst e;simp
 ·have h:¬(Sum.inr a:Key)=Sum.inr b:=fun q=>e (Sum.inr.inj q);rw[decide_eq_false h,decide_eq_false e]
theorem z37(a:Int)(b:Str):decide ((Sum.inl a:Key)=Sum.inr b)=false:=decide_eq_false (fun q=>nomatch q)
theorem z4z(a:Str)(b:Int):decide ((Sum.inr a:Key)=Sum.inl b)=false:=decide_eq_false (fun q=>nomatch q)
def jd(prog:Program)(w:World):PySem.KeyKind prog w Key where
 is:=kY
 hash:=Ng w
 inj:=fun v a b ha hb=>by
  rcases qC ha with ⟨i,t,rfl,rfl⟩ | ⟨x,t,rfl,rfl⟩
  ·rcases qC hb with ⟨j,u,rfl,e⟩ | ⟨y,u,rfl,e⟩
   ·injection e with e1 _;rw[e1]
   ·exact nomatch e
  ·rcases qC hb with ⟨j,u,rfl,e⟩ | ⟨y,u,rfl,e⟩
   ·exact nomatch e
   ·injection e with e1 _;rw[e1]
 byValue:=fun k v h=>by
  rcases qC h with ⟨i,t,rfl,rfl⟩ | ⟨x,t,rfl,rfl⟩<;>rfl
 pyHash:=fun hv h=>by
  rcases qC hv with ⟨i,t,rfl,rfl⟩ | ⟨x,t,rfl,rfl⟩
  ·exact wpAny_pyHash_int h
  ·exact wpAny_pyHash_str h
 eqBool:=fun hu hv h=>by
  rcases qC hu with ⟨i,t,rfl,rfl⟩ | ⟨x,t,rfl,rfl⟩
  ·rcases qC hv with ⟨j,u,rfl,rfl⟩ | ⟨y,u,rfl,rfl⟩
   ·rw[z34] at h;exact wpAny_eqBool_int h
   ·rw[z37] at h;exact SeqAt.EqAt.int_str i t y u _ _ _ _ h
  ·rcases qC hv with ⟨j,u,rfl,rfl⟩ | ⟨y,u,rfl,rfl⟩
   ·rw[z4z] at h;exact SeqAt.EqAt.str_int x t j u _ _ _ _ h
   ·rw[z6f] at h;exact wpAny_eqBool_str h
 «strs»:=fun k x t v h=>by
  rcases qC h with ⟨i,u,rfl,e⟩ | ⟨y,u,rfl,e⟩
  ·exact nomatch e
  ·injection e with e1 _;subst e1;cases v<;>rfl
theorem zpp(prog:Program)(w:World)(i:Int)(t:Tok):(jd prog w).is (.inl i) (.int i t)=true:=zvq i t
theorem Wq(prog:Program)(w:World)(x:Str)(t:Tok):(jd prog w).is (.inr x) (.str x t)=true:=zv1 x t
inductive V where
 | non | bl (b:Bool) | int (i:Int) | str (x:Str) | yr (b:Array UInt8) | flt (b:UInt64) | ref (a:Addr) | ty (n:String)
 deriving DecidableEq
def RelV:V ->Value ->Prop
 | .non,u=>u=Value.none
 | .bl b,u=>u=Value.bool b
 | .int i,u=>∃t,u=Value.int i t
 | .str x,u=>∃t,u=Value.str x t
 | .yr b,u=>∃t,u=Value.bytes b t
 | .flt b,u=>∃t,u=Value.float b t
 | .ref a,u=>u=Value.ref a
 | .ty n,u=>u=Value.type n
abbrev Vals:List V ->List Value ->Prop:=Paired RelV
theorem Vals.length{xs:List V}{us:List Value}(r:Vals xs us):xs.length=us.length:=Paired.length r
theorem Vals.get:∀{xs:List V} {us:List Value} {i:Nat} {x:V},Vals xs us ->xs[i]?=some x ->∃u,us[i]?=some u/\RelV x u
 | _,_,_,_,.nil,e=>by simp at e
 | _,_,0,_,.cons r _,e=>by simp at e;subst e;exact⟨_,rfl,r⟩
 | _,_,i+1,x,.cons _ t,e=>by
  obtain⟨u,h1,h2⟩:=Vals.get (i:=i) (x:=x) t (by simpa using e)
  exact⟨u,by simpa using h1,h2⟩
theorem Vals.set{x:V}{u:Value}(r:RelV x u):∀{xs:List V} {us:List Value} (i:Nat),Vals xs us ->Vals (xs.set i x) (us.set i u)
 | _,_,_,.nil=> .nil
 | _,_,0,.cons _ t=> .cons r t
 | _,_,i+1,.cons q t=> .cons q (Vals.set r i t)
theorem Vals.append:∀{xs ys:List V} {us ws:List Value},Vals xs us ->Vals ys ws ->Vals (xs++ys) (us++ws)
 | _,_,_,_,.nil,s=>s
 | _,_,_,_,.cons r t,s=> .cons r (Vals.append t s)
theorem Vals.take:∀{xs:List V} {us:List Value} (n:Nat),Vals xs us ->Vals (xs.take n) (us.take n)
 | _,_,0,_=> .nil
 | _,_,_+1,.nil=> .nil
 | _,_,n+1,.cons r t=> .cons r (Vals.take n t)
theorem Vals.drop:∀{xs:List V} {us:List Value} (n:Nat),Vals xs us ->Vals (xs.drop n) (us.drop n)
 | _,_,0,r=>r
 | _,_,_+1,.nil=> .nil
 | _,_,n+1,.cons _ t=>Vals.drop n t
def jC:Option V ->Option Value ->Prop
 | some v,some u=>RelV v u
 | none,none=>True
 | _,_=>False
def KV{κ:Type}:List (κ×V) ->List (κ×Value) ->Prop:=Paired fun(p:κ×V) (q:κ×Value)=>p.1=q.1/\RelV p.2 q.2
def kV:Key ->V
 | .inl i=> .int i
 | .inr x=> .str x
inductive HO where
 | lst (xs:List V)
 | tup (xs:List V)
 | dK (kvs:List (Key×V)) | dT (kvs:List (List Key×V))
 | set (S:Int ->Bool) (n:Nat)
 | ins (C dx:Addr) (fs:List (Str×V))
 | own (x:Addr)
 | xd (fs:List (Str×V))
 | met (f x:Addr)
 | rng (lo hi:Int)
 | frz (o:Obj) (u:HO)
 | wF (ps:Array Value)
 | ext (φ:Heap ->Prop)
abbrev Hp:=Addr ->Option HO
def upd(H:Hp)(a:Addr)(o:HO):Hp:=fun b=>if b=a then some o else H b
theorem mQ{H:Hp}{a:Addr}{o:HO}:upd H a o a=some o:=by unfold upd;rw[if_pos rfl]
theorem dH{H:Hp}{a b:Addr}{o:HO}(h:b≠a):upd H a o b=H b:=by unfold upd;rw[if_neg h]
theorem z6n{H:Hp}{a b:Addr}{o u:HO}(h:H a=some o)(h' :H b=some u)(d:o≠u):a≠b:=by
 intro e;subst e;rw[h] at h';exact d (zF h')
theorem mC{H:Hp}{a b:Addr}{o:HO}(h:H a=some o)(h' :H b=none):a≠b:=by
 intro e;subst e;rw[h] at h';cases h'
section
variable(P:Program)(w:World)
def aV(H:Hp)(h:Heap)(a:Addr):HO ->Prop
 | .lst xs=>xs.length<=sizeLine/\∃(its:List Value) (n:Nat),Vals xs its/\h.get? a=some {cls:= .type "list",data:= .seq its.toArray n}
 | .tup xs=>xs.length<=sizeLine/\∃its:List Value,Vals xs its/\IsTup h a its.toArray
 | .dK kvs=>kvs.length<=sizeLine/\ (a==sysModules)=false/\∃vs,KV kvs vs/\h.DictOf (jd P w) a vs
 | .dT kvs=>kvs.length<=sizeLine/\ (a==sysModules)=false/\∃xs:List (List Key×Addr×Value),
   Paired (fun(p:List Key×V) (q:List Key×Addr×Value)=>p.1=q.1/\H q.2.1=some (.tup (p.1.map kV))/\RelV p.2 q.2.2) kvs xs/\
   ∃o es ep,h.get? a=some o/\o.ExactDict/\o.data= .dict es ep/\es.toList=xs.map (entryOfKey (tupleKind (jd P w)))/\ (xs.map (·.1)).Nodup
 | .set S n=>h.SetOf (intKind P w) a S n
 | .ins C dx fs=>H dx=some (.own a)/\fs.length<=1000/\dx≠a/\h.get? a=some (W.instObj C dx)/\
   ∃mA,h.Ns1 dx mA/\ (∀f,jC (fs.lookup f) (mA f))/\PySem.Within mA (fs.map (·.1))
 | .own _=>∃o,h.get? a=some o
 | .xd fs=>∃mA,h.Ns1 a mA/\∀f,jC (fs.lookup f) (mA f)
 | .rng lo hi=>∃t u v,h.get? a=some {cls:= .type "range",data:= .fields #[.int lo t,.int hi u,.int 1 v]}
 | .frz o u=>h.get? a=some o/\aV H h a u
 | .wF ps=>h.get? a=some {cls:= .none,data:= .fields ps}
 | .met f x=>h.get? a=some (W.methodObj (.ref f) (.ref x))
 | .ext φ=>φ h/\ (∃o,h.get? a=some o)/\∀h1 h2:Heap,φ h1 ->(∀o,h1.get? a=some o ->h2.get? a=some o) ->φ h2
def ig(H:Hp)(h:Heap):Prop:=∀a o,H a=some o ->aV P w H h a o
end
section
variable{P:Program}{w:World}{H H' :Hp}{h h' :Heap}{a:Addr}{o:HO}
theorem aV.lt(x:aV P w H h a o):a<h.objs.size:=by
 cases o with
 | lst xs=>obtain⟨_,_,_,_,e⟩:=x;exact zG e
 | tup xs=>obtain⟨_,_,_,p⟩:=x;exact p.lt
 | dK kvs=>obtain⟨_,_,_,_,o,_,_,e,_⟩:=x;exact zG e
 | dT kvs=>obtain⟨_,_,_,_,o,_,_,e,_⟩:=x;exact zG e
 | set S n=>obtain⟨o,_,_,_,e,_⟩:=x;exact zG e
 | ins C dx fs=>obtain⟨_,_,_,e,_⟩:=x;exact zG e
 | own y=>obtain⟨_,e⟩:=x;exact zG e
 | xd fs=>obtain⟨_,⟨_,_,_,e,_⟩,_⟩:=x;exact zG e
 | rng lo hi=>obtain⟨_,_,_,e⟩:=x;exact zG e
 | frz ob u=>obtain⟨e,_⟩:=x;exact zG e
 | wF ps=>exact zG (show h.get? a=some _ from x)
 | met f y=>exact zG (show h.get? a=some _ from x)
 | ext φ=>obtain⟨_,⟨_,e⟩,_⟩:=x;exact zG e
theorem Paired.mapP{α β:Type}{F G:α ->β ->Prop}:∀{l₁:List α} {l₂:List β},Paired F l₁ l₂ ->(∀a b,F a b ->G a b) ->Paired G l₁ l₂
 | _,_,.nil,_=> .nil
 | _,_,.cons r t,f=> .cons (f _ _ r) (Paired.mapP t f)
theorem aV.stay(x:aV P w H h a o)(k:∀b u,(b=a\/H b=some (.own a)) ->h.get? b=some u ->h'.get? b=some u)
  (ho:∀b,H b=some (.own a) ->H' b=some (.own a)) (ht:∀b xs,H b=some (.tup xs) ->H' b=some (.tup xs)):aV P w H' h' a o:=by
 induction o with
 | lst xs=>obtain⟨z,its,n,r,e⟩:=x;exact⟨z,its,n,r,k _ _ (.inl rfl) e⟩
 | tup xs=>obtain⟨z,its,r,ob,e,c⟩:=x;exact⟨z,its,r,ob,k _ _ (.inl rfl) e,c⟩
 | dK kvs=>obtain⟨z,y,vs,r,ob,es,ep,e,c⟩:=x;exact⟨z,y,vs,r,ob,es,ep,k _ _ (.inl rfl) e,c⟩
 | dT kvs=>
  obtain⟨z,y,xs,r,ob,es,ep,e,c⟩:=x;exact⟨z,y,xs,Paired.mapP r fun p q z=>⟨z.1,ht _ _ z.2.1,z.2.2⟩,ob,es,ep,k _ _ (.inl rfl) e,c⟩
 | set S n=>obtain⟨ob,es,ep,t,e,c⟩:=x;exact⟨ob,es,ep,t,k _ _ (.inl rfl) e,c⟩
 | ins C dx fs=>
  obtain⟨d,z,ne,e,mA,⟨od,es,ep,e2,c⟩,r⟩:=x;exact⟨ho _ d,z,ne,k _ _ (.inl rfl) e,mA,⟨od,es,ep,k _ _ (.inr d) e2,c⟩,r⟩
 | own y=>obtain⟨ob,e⟩:=x;exact⟨ob,k _ _ (.inl rfl) e⟩
 | xd fs=>obtain⟨mA,⟨od,es,ep,e,c⟩,r⟩:=x;exact⟨mA,⟨od,es,ep,k _ _ (.inl rfl) e,c⟩,r⟩
 | rng lo hi=>obtain⟨t,u,v,e⟩:=x;exact⟨t,u,v,k _ _ (.inl rfl) e⟩
 | frz ob u ih=>obtain⟨e,q⟩:=x;exact⟨k _ _ (.inl rfl) e,ih q⟩
 | wF ps=>
  have e:h.get? a=some {cls:= .none,data:= .fields ps}:=x;show h'.get? a=some {cls:= .none,data:= .fields ps};exact k a _ (.inl rfl) e
 | met f y=>
  have e:h.get? a=some (W.methodObj (.ref f) (.ref y)):=x;show h'.get? a=some (W.methodObj (.ref f) (.ref y));exact k a _ (.inl rfl) e
 | ext φ=>obtain⟨p,⟨o,e⟩,st⟩:=x;exact⟨st _ _ p fun o q=>k _ _ (.inl rfl) q,⟨o,k _ _ (.inl rfl) e⟩,st⟩
theorem ig.lt(x:ig P w H h)(e:H a=some o):a<h.objs.size:=(x a o e).lt
theorem ig.fresh(x:ig P w H h)(e:h.objs.size<=a):H a=none:=by
 cases q:H a with
 | none=>rfl
 | some u=>exact absurd (zL (x.lt q) e) (yV _)
theorem ig.kept(x:ig P w H h)(k:∀b u,h.get? b=some u ->h'.get? b=some u):ig P w H h' :=fun a o e=>
 (x a o e).stay (fun b u _ q=>k b u q) (fun _ q=>q) fun _ _ q=>q
theorem ig.laid(x:ig P w H h)(k:∀b u,h.get? b=some u ->h'.get? b=some u)(hp:h.objs.size<=a)(new:aV P w (upd H a o) h' a o):ig P w (upd H a o) h' :=fun b u e=>by
 have hn:=x.fresh hp;by_cases hb:b=a
 ·subst hb;rw[mQ] at e;cases e;exact new
 ·rw[dH hb] at e;exact(x b u e).stay (fun c v _ q=>k c v q) (fun c q=>by rw[dH (mC q hn)];exact q) fun c xs q=>by rw[dH (mC q hn)];exact q
end
def Rd(H:Hp)(a:Addr)(u:HO):Prop:=H a=some u\/∃o,H a=some (.frz o u)
theorem Rd.ok{P:Program}{w:World}{H:Hp}{h:Heap}{a:Addr}{u:HO}(r:Rd H a u)(x:ig P w H h):aV P w H h a u:=by
 rcases r with r | ⟨o,r⟩
 ·exact x a u r
 ·obtain⟨_,q⟩:=x a _ r;exact q
def DY:Option HO ->Prop
 | some (.lst _)=>True
 | some (.dK _)=>True
 | some (.dT _)=>True
 | some (.set _ _)=>True
 | some (.ins _ _ _)=>True
 | some (.ext _)=>True
 | _=>False
section
variable{P:Program}{w:World}{H:Hp}{h h' :Heap}{x e:Addr}{o' :HO}
theorem ig.write(ok:ig P w H h)(mu:DY (H x))(he:e=x\/H e=some (.own x))(k:∀b u,b≠e ->h.get? b=some u ->h'.get? b=some u)(heo:∃u,h'.get? e=some u)
  (new:aV P w (upd H x o') h' x o'):ig P w (upd H x o') h' :=fun b u q=>by
 have Ea:∀c y,H c=some (.own y) ->c≠x:=fun c y r z=>by subst z;rw[r] at mu;exact mu
 have Nh:∀c xs,H c=some (.tup xs) ->c≠x:=fun c xs r z=>by subst z;rw[r] at mu;exact mu
 by_cases hb:b=x
 ·subst hb;rw[mQ] at q;cases q;exact new
 ·rw[dH hb] at q;by_cases hbe:b=e
  ·have q' :H b=some (.own x):=by
    rcases he with z | z
    ·exact absurd (hbe.trans z) hb
    ·rw[hbe];exact z
   rw[q] at q';cases q';obtain⟨v,hv⟩:=heo;exact⟨v,by rw[hbe];exact hv⟩
  ·refine(ok b u q).stay (fun c v hc r=>k c v ?_ r) (fun c r=>by rw[dH (Ea c b r)];exact r) fun c xs r=>by rw[dH (Nh c xs r)];exact r
   rcases hc with rfl | hc
   ·exact hbe
   ·rintro rfl;rcases he with z | z
    ·exact Ea c b hc z
    ·rw[hc] at z;cases z;exact hb rfl
end
structure Un (fs ex:List Addr) (H H' :Hp) (h h' :Heap):Prop where
 keep:∀b o,h.get? b=some o ->H b=none ->b∉fs ->b∉ex ->h'.get? b=some o
 slot:∀b o,h.get? b=some o ->H b=none ->b∈fs ->b∉ex ->∃sl,h'.get? b=some {o with slots:=sl}
 free:∀b o,h.get? b=some o ->H b=none ->b∉ex ->H' b=none
 there:∀b o,h.get? b=some o ->b∉ex ->∃o',h'.get? b=some o'
 tups:∀b xs,H b=some (.tup xs) ->H' b=some (.tup xs)
 mF:∀b o u,H b=some (.frz o u) ->H' b=some (.frz o u)
 m9:∀b ps,H b=some (.wF ps) ->∃more,H' b=some (.wF (ps++more))
section
variable{fs fs' ex ex' :List Addr}{H H1 H2:Hp}{h h1 h2 h' :Heap}{a x e:Addr}{o:HO}
theorem Un.any(u:Un fs ex H H1 h h1){b:Addr}{ob:Obj}(q:h.get? b=some ob)(n:H b=none)(hx:b∉ex):∃sl,h1.get? b=some {ob with slots:=sl}:=by
 by_cases hb:b∈fs
 ·exact u.slot b ob q n hb hx
 ·exact⟨ob.slots,u.keep b ob q n hb hx⟩
theorem Un.kept(k:∀b u,h.get? b=some u ->h'.get? b=some u):Un fs ex H H h h' :=
 ⟨fun b ob q _ _ _=>k b ob q,fun b ob q _ _ _=>⟨ob.slots,k b ob q⟩,fun _ _ _ n _=>n,fun b ob q _=>⟨ob,k b ob q⟩,fun _ _ q=>q,fun _ _ _ q=>q,fun _ ps q=>⟨#[],by rw[q];simp⟩⟩
theorem Un.refl:Un fs ex H H h h:=Un.kept fun _ _ q=>q
theorem Un.laid(k:∀b u,h.get? b=some u ->h'.get? b=some u)(hp:h.objs.size<=a)(hn:H a=none):Un fs ex H (upd H a o) h h' where
 keep:=fun b u q _ _ _=>k b u q
 slot:=fun b u q _ _ _=>⟨u.slots,k b u q⟩
 free:=fun b u q n _=>by rw[dH (Nat.ne_of_lt (Nat.lt_of_lt_of_le (Heap.lt_size q) hp))];exact n
 there:=fun b u q _=>⟨u,k b u q⟩
 tups:=fun b xs q=>by rw[dH (mC q hn)];exact q
 mF:=fun b u xs q=>by rw[dH (mC q hn)];exact q
 m9:=fun b ps q=>⟨#[],by rw[dH (mC q hn),q];simp⟩
theorem Un.write(mu:DY (H x))(he:e=x\/H e=some (.own x))(k:∀b u,b≠e ->h.get? b=some u ->h'.get? b=some u)(heo:∃u,h'.get? e=some u):Un fs ex H (upd H x o) h h' :=by
 have hx:∀b,H b=none ->b≠x:=fun b n z=>by subst z;rw[n] at mu;exact mu
 have hb:∀b,H b=none ->b≠e:=fun b n z=>by
  subst z;rcases he with r | r
  ·exact hx b n r
  ·rw[n] at r;cases r
 have hm:∀b u,H b=some u ->¬DY (some u) ->b≠x:=fun b u q nm z=>by subst z;rw[q] at mu;exact nm mu
 refine⟨fun b u q n _ _=>k b u (hb b n) q,fun b u q n _ _=>⟨u.slots,k b u (hb b n) q⟩,fun b u q n _=>by rw[dH (hx b n)];exact n,fun b u q _=> ?_,
  fun b xs q=>by rw[dH (hm b _ q fun z=>z)];exact q,fun b u xs q=>by rw[dH (hm b _ q fun z=>z)];exact q,fun b ps q=>⟨#[],by rw[dH (hm b _ q fun z=>z),q];simp⟩⟩
 by_cases hbe:b=e
 ·subst hbe;exact heo
 ·exact⟨u,k b u hbe q⟩
end
def uR(h:Heap)(H:Hp):List Addr:=(List.range h.objs.size).filter fun a=>(H a).isSome
def nj(h:Heap)(H:Hp):Heap:=W.hideAll h (uR h H)
theorem zxp(h:Heap)(H:Hp):(nj h H).objs.size=h.objs.size:=W.hideAll_size _ _
theorem zzf{h:Heap}{H:Hp}{b:Addr}{o:Obj}(e:h.get? b=some o)(n:H b=none):(nj h H).get? b=some o:=
 W.hideAll_get _ e fun hm=>by
  have q:(H b).isSome=true:=(zB.mp hm).2;rw[n] at q;simp at q
theorem z28{h:Heap}{H:Hp}{b:Addr}{o:Obj}(e:(nj h H).get? b=some o):h.get? b=some o/\H b=none:=by
 have e' :h.get? b=some o:=W.of_hideAll (uR h H) e;refine⟨e',?_⟩;cases q:H b with
 | none=>rfl
 | some x=>
  have hm:b∈uR h H:=zB.mpr ⟨List.mem_range.mpr (zG e'),by simp [q]⟩
  have z:(nj h H).get? b=none:=W.hideAll_none (uR h H) hm;rw[z] at e;cases e
def z3k(g h:Heap)(L:Addr):bD:=(List.range h.objs.size).filterMap fun a=>if a=L\/ (g.get? a).isSome=true then none else(h.get? a).map fun o=>(a,o)
def rest(g h:Heap)(L d:Addr):bD:=(z3k g h L).filter fun p=>decide (p.1≠d)
structure Mod (K:W.Frag) (mg:Str ->Option Value) (base:Heap):Prop where
 Ec:K.In base
 glob:base.Ns mainGlobals mg
 blt:∃mb,base.Ns builtinsNs mb/\∀x:Str,x≠ "__name__" ->mb x=bootBuiltins x
 nolimit:base.NoLimit
structure Cx where
 prog:Program
 w:World
 K:W.Frag
 mg:Str ->Option Value
 base:Heap
 A:Around
 N:List Str
 s₀:Shared
 H₀:Hp
 env:Env
 outer:List Env
 stack:List Env
 ex:List Addr
 fn:Str ->Bool
 calm:Bool
 pn:bD
 xe:bL
def frs(l:List Env):List Addr:=l.filterMap (·.frame)
abbrev Cx.fs(X:Cx):List Addr:=frs X.outer
def pN(sc:Scope)(x:Str):Prop:=sc.names.lookup x=some .local\/sc.names.lookup x=some .cell\/sc.names.lookup x=some .free
def Loc(sc:Scope)(x:Str):Prop:=sc.names.lookup x=some .local\/sc.names.lookup x=some .cell
def Look(env:Env)(h:Heap)(m:Str ->Option Value)(x:Str)(u:Value):Prop:=
 (env.kindOf x=some .local/\m x=some u)\/ ((env.kindOf x=some .cell\/env.kindOf x=some .free)/\∃c,env.cells.lookup x=some c/\h.IsCell c (some u))
structure Cx.Ok (X:Cx):Prop where
 mod:Mod X.K X.mg X.base
 kind:X.env.scope.kind= .function
 glob:X.env.globals=mainGlobals
 blt:X.env.builtins=builtinsNs
 above:X.s₀.heap.objs.size<=X.env.locals
 inj:∀x y c,X.env.cells.lookup x=some c ->X.env.cells.lookup y=some c ->x=y
 has:∀x,(X.env.kindOf x=some .cell\/X.env.kindOf x=some .free) ->∃c,X.env.cells.lookup x=some c
 cab:∀x c,X.fn x=true ->X.env.cells.lookup x=some c ->X.s₀.heap.objs.size<=c
 hd:X.calm=true ->X.A.handled=none
 frames:X.A.frames=some X.stack
 stk:X.stack=X.outer\/ (X.stack=X.env::X.outer/\X.env.frame=some X.env.locals)
 Wr:∀b∈X.ex,b≠X.env.locals/\∀x c,X.env.cells.lookup x=some c ->c≠b
 bs:∀b o,X.base.get? b=some o ->X.s₀.heap.get? b=some o/\X.H₀ b=none
 BP:X.base.objs.size<=X.s₀.heap.objs.size
 yt:∀b o,X.base.get? b=some o ->b∉X.ex
 yu:∀b∈X.ex,b∉X.fs
 funs:X.s₀.heap.FunFrames X.base X.outer
 Ed:∀b∈X.fs,X.H₀ b=none
structure Inv (X:Cx) (pins:bD) (σ:List (Option V)) (H:Hp) (s:Shared):Prop where
 ok:X.Ok
 os:s.os=X.s₀.os
 bare:AllBare s.gens
 base:Un X.fs X.ex X.H₀ H X.s₀.heap s.heap
 loc:∃m,s.heap.Ns X.env.locals m/\∀(i:Nat) (x:Str) (v:V),X.N[i]?=some x ->σ[i]?=some (some v) ->pN X.env.scope x ->∃u,RelV v u/\Look X.env s.heap m x u
 cell:∀x c,X.env.cells.lookup x=some c ->∃v,s.heap.IsCell c v
 free:H X.env.locals=none
 freeC:∀x c,X.env.cells.lookup x=some c ->H c=none
 pin:∀p∈X.pn++pins,s.heap.get? p.1=some p.2/\H p.1=none/\p.1≠X.env.locals/\p.1∉X.fs/\∀v,p.2.data≠ .cell v
 hok:ig X.prog X.w H s.heap
 len:σ.length=X.N.length
section
variable{X:Cx}{pins:bD}{σ:List (Option V)}{H H' :Hp}{s:Shared}{h' :Heap}
theorem Cx.Ok.nofr(ok:X.Ok){b:Addr}{o:Obj}(e:X.base.get? b=some o):b∉X.fs:=fun hb=>by
 have:=(ok.funs.mem hb).1;rw[e] at this;cases this
theorem Inv.bs(I:Inv X pins σ H s):∀b o,X.base.get? b=some o ->s.heap.get? b=some o/\H b=none:=fun b o e=>
 ⟨I.base.keep b o (I.ok.bs b o e).1 (I.ok.bs b o e).2 (I.ok.nofr e) (I.ok.yt b o e),I.base.free b o (I.ok.bs b o e).1 (I.ok.bs b o e).2 (I.ok.yt b o e)⟩
theorem Inv.bk(I:Inv X pins σ H s):∀b o,X.base.get? b=some o ->s.heap.get? b=some o:=fun b o e=>(I.bs b o e).1
theorem Inv.mod(I:Inv X pins σ H s):Mod X.K X.mg X.base:=I.ok.mod
theorem Inv.kIn(I:Inv X pins σ H s):X.K.In s.heap:=I.ok.mod.Ec.keeps I.bk
theorem Inv.lt(I:Inv X pins σ H s):X.env.locals<s.heap.objs.size:=let ⟨_,hn,_⟩:=I.loc;hn.lt
theorem Inv.sz(I:Inv X pins σ H s):X.s₀.heap.objs.size<=s.heap.objs.size:=zN I.ok.above (Nat.le_of_lt I.lt)
theorem Inv.nofs(I:Inv X pins σ H s){a:Addr}(h:s.heap.objs.size<=a):a∉X.fs:=fun hb=>by
 obtain⟨_,o,ho,_⟩:=I.ok.funs.mem hb;exact absurd (zL (zG ho) (zN I.sz h)) (yV _)
theorem Inv.cne(I:Inv X pins σ H s):∀x c,X.env.cells.lookup x=some c ->c≠X.env.locals:=fun x c e z=>by
 obtain⟨v,o,ho,hd⟩:=I.cell x c e;obtain⟨m,⟨o',es,ep,ho',hd',_⟩,_⟩:=I.loc;rw[z,ho'] at ho;cases ho;rw[hd'] at hd;cases hd
theorem Inv.funs(I:Inv X pins σ H s):s.heap.FunFrames X.base X.outer:=by
 have all:∀(l:List Env),(∀b∈frs l,b∈X.fs) ->X.s₀.heap.FunFrames X.base l ->s.heap.FunFrames X.base l:=by
  intro l;induction l with
  | nil=>intro _ _;trivial
  | cons env r ih=>
   intro hs hl;obtain⟨hk,⟨L,o,hf,hn,ho,hd⟩,hr⟩:=hl;have hL:L∈X.fs:=hs L (by unfold frs;rw[List.filterMap_cons,hf];exact zW)
   obtain⟨sl,e⟩:=I.base.slot L o ho (I.ok.Ed L hL) hL fun z=>I.ok.yu L z hL;exact⟨hk,⟨L,_,hf,hn,e,hd⟩,ih (fun b hb=>hs b (by unfold frs;rw[List.filterMap_cons,hf];exact zV _ hb)) hr⟩
 exact all X.outer (fun _ hb=>hb) I.ok.funs
theorem Inv.stack(I:Inv X pins σ H s):s.heap.FunFrames X.base X.stack:=by
 rcases I.ok.stk with e | ⟨e,hf⟩
 ·rw[e];exact I.funs
 ·rw[e];obtain⟨m,hn,_⟩:=I.loc;refine .cons (by rw[I.ok.kind];decide) hf hn ?_ I.funs
  exact Heap.get?_none_of_le (zN I.ok.BP I.ok.above)
theorem Inv.stkSub(I:Inv X pins σ H s):∀b∈frs X.stack,b∈X.env.locals::X.fs:=fun b hb=>by
 rcases I.ok.stk with e | ⟨e,hf⟩
 ·rw[e] at hb;exact zV _ hb
 ·rw[e] at hb;unfold frs at hb;rw[List.filterMap_cons,hf] at hb;exact hb
theorem Inv.stkFree(I:Inv X pins σ H s):∀b∈frs X.stack,H b=none:=fun b hb=>by
 rcases zT.mp (I.stkSub b hb) with e | hb
 ·rw[e];exact I.free
 ·obtain⟨_,o,ho,_⟩:=I.ok.funs.mem hb;exact I.base.free b o ho (I.ok.Ed b hb) fun z=>I.ok.yu b z hb
theorem Inv.step{g' :Array GenState}{t' :Nat}{d' :Drawn}{ch:List Addr}(I:Inv X pins σ H s)
  (hch:∀b∈ch,(b∈X.ex\/X.s₀.heap.objs.size<=b)/\b≠X.env.locals/\ (∀x c,X.env.cells.lookup x=some c ->c≠b)/\∀p∈X.pn++pins,p.1≠b)
  (keep:∀b o,b≠X.env.locals ->b∉X.fs ->b∉ch ->s.heap.get? b=some o ->H b=none ->h'.get? b=some o)
  (slot:∀b o,b≠X.env.locals ->b∈X.fs ->b∉ch ->s.heap.get? b=some o ->H b=none ->∃sl,h'.get? b=some {o with slots:=sl}) (free:∀b o,b∉ch ->s.heap.get? b=some o ->H b=none ->H' b=none)
  (there:∀b o,b∉ch ->s.heap.get? b=some o ->∃o',h'.get? b=some o')
  (tups:∀b xs,H b=some (.tup xs) ->H' b=some (.tup xs)) (mF:∀b o u,H b=some (.frz o u) ->H' b=some (.frz o u)) (m9:∀b ps,H b=some (.wF ps) ->∃more,H' b=some (.wF (ps++more)))
  (ns:∀m,s.heap.Ns X.env.locals m ->h'.Ns X.env.locals m) (hok:ig X.prog X.w H' h') (hg:AllBare g'):
  Inv X pins σ H' {s with heap:=h',gens:=g',drawn:=d',toks:=t'}:=by
 have Ws:∀b o,X.s₀.heap.get? b=some o ->b≠X.env.locals:=fun b o e=>zJ (zL (zG e) I.ok.above);have JN:∀b o,X.s₀.heap.get? b=some o ->b∉X.ex ->b∉ch:=fun b o e hx hb=>by
  rcases(hch b hb).1 with z | z
  ·exact hx z
  ·exact absurd (zL (zG e) z) (yV _)
 have cellK:∀x c,X.env.cells.lookup x=some c ->∀v,s.heap.IsCell c v ->h'.IsCell c v:=fun x c e v ⟨o,ho,hd⟩=>by
  have Ef:c∉ch:=fun z=>(hch c z).2.2.1 x c e rfl;by_cases hc:c∈X.fs
  ·obtain⟨sl,q⟩:=slot c o (I.cne x c e) hc Ef ho (I.freeC x c e);exact⟨_,q,hd⟩
  ·exact⟨o,keep c o (I.cne x c e) hc Ef ho (I.freeC x c e),hd⟩
 refine⟨I.ok,I.os,hg,⟨fun b o e n hb hx=> ?_,fun b o e n hb hx=> ?_,fun b o e n hx=> ?_,fun b o e hx=> ?_,fun b xs e=>tups b xs (I.base.tups b xs e),fun b o xs e=>mF b o xs (I.base.mF b o xs e),fun b ps e=> ?_⟩,?_,fun x c e=> ?_,?_,fun x c e=> ?_,fun p hp=> ?_,hok,I.len⟩
 ·exact keep b o (Ws b o e) hb (JN b o e hx) (I.base.keep b o e n hb hx) (I.base.free b o e n hx)
 ·obtain⟨sl,e1⟩:=I.base.slot b o e n hb hx;obtain⟨sl',e2⟩:=slot b _ (Ws b o e) hb (JN b o e hx) e1 (I.base.free b o e n hx);exact⟨sl',e2⟩
 ·obtain⟨o',e1⟩:=I.base.there b o e hx;exact free b o' (JN b o e hx) e1 (I.base.free b o e n hx)
 ·obtain⟨o',e1⟩:=I.base.there b o e hx;exact there b o' (JN b o e hx) e1
 ·obtain⟨m1,e1⟩:=I.base.m9 b ps e;obtain⟨m2,e2⟩:=m9 b _ e1;exact⟨m1++m2,by rw[e2,Array.append_assoc]⟩
 ·obtain⟨m,hn,hl⟩:=I.loc;refine⟨m,ns m hn,fun i x v e1 e2 e3=> ?_⟩;obtain⟨u,r,l⟩:=hl i x v e1 e2 e3;refine⟨u,r,?_⟩;rcases l with l | ⟨k,c,e,z⟩
  ·exact .inl l
  ·exact .inr ⟨k,c,e,cellK x c e _ z⟩
 ·obtain⟨v,z⟩:=I.cell x c e;exact⟨v,cellK x c e v z⟩
 ·obtain⟨m,⟨o,_,_,ho,_⟩,_⟩:=I.loc;exact free _ o (fun z=>(hch _ z).2.1 rfl) ho I.free
 ·obtain⟨v,o,ho,hd⟩:=I.cell x c e;exact free c o (fun z=>(hch c z).2.2.1 x c e rfl) ho (I.freeC x c e)
 ·obtain⟨e,n,ne,nf,d⟩:=I.pin p hp;have Ef:p.1∉ch:=fun z=>(hch p.1 z).2.2.2 p hp rfl;exact⟨keep p.1 p.2 ne nf Ef e n,free p.1 p.2 Ef e n,ne,nf,d⟩
theorem Inv.un{t' :Nat}(I:Inv X pins σ H s)(u:Un X.fs [] H H' s.heap h')(hok:ig X.prog X.w H' h'):Inv X pins σ H' {s with heap:=h',toks:=t'}:=by
 obtain⟨m,⟨o,es,ep,ho,r⟩,_⟩:=id I.loc;obtain⟨sl,hL⟩:=u.any ho I.free (by simp)
 exact I.step (g' :=s.gens) (d' :=s.drawn) (ch:= []) (fun _ z=>nomatch z) (fun b o _ hb _ e n=>u.keep b o e n hb (by simp)) (fun b o _ hb _ e n=>u.slot b o e n hb (by simp)) (fun b o _ e n=>u.free b o e n (by simp)) (fun b o _ e=>u.there b o e (by simp)) u.tups u.mF u.m9 (fun m' hm=>by
  obtain⟨o',es',ep',ho',r'⟩:=hm;rw[ho] at ho';cases ho';exact⟨_,es',ep',hL,r'⟩) hok I.bare
theorem Inv.call{g' :Array GenState}{t' :Nat}{d' :Drawn}{ch:List Addr}(I:Inv X pins σ H s)(u:Un (frs X.stack) ch H H' s.heap h')(hok:ig X.prog X.w H' h')(hg:AllBare g')
  (hch:∀b∈ch,(b∈X.ex\/X.s₀.heap.objs.size<=b)/\b≠X.env.locals/\ (∀x c,X.env.cells.lookup x=some c ->c≠b)/\∀p∈X.pn++pins,p.1≠b):
  Inv X pins σ H' {s with heap:=h',gens:=g',drawn:=d',toks:=t'}:=by
 obtain⟨m,⟨o,es,ep,ho,r⟩,_⟩:=id I.loc;obtain⟨sl,hL⟩:=u.any ho I.free fun z=>(hch _ z).2.1 rfl;exact I.step (ch:=ch) hch (fun b o hL hb hc e n=>u.keep b o e n (fun z=>(zT.mp (I.stkSub b z)).elim hL hb) hc) (fun b o _ _ hc e n=>u.any e n hc) (fun b o hc e n=>u.free b o e n hc) (fun b o hc e=>u.there b o e hc) u.tups u.mF u.m9 (fun m' hm=>by
  obtain⟨o',es',ep',ho',r'⟩:=hm;rw[ho] at ho';cases ho';exact⟨_,es',ep',hL,r'⟩) hok hg
theorem Inv.turned{t' :Nat}{it:Addr}(I:Inv X pins σ H s)(k:∀b o,b≠it ->s.heap.get? b=some o ->h'.get? b=some o)(hn:H it=none)(hL:it≠X.env.locals)
  (h1:it∈X.ex\/X.s₀.heap.objs.size<=it) (h2:∀x c,X.env.cells.lookup x=some c ->c≠it) (h3:∀p∈X.pn++pins,p.1≠it):Inv X pins σ H {s with heap:=h',toks:=t'}:=by
 have Eh:∀b u,H b=some u ->b≠it:=fun b u e z=>by rw[z,hn] at e;cases e
 refine I.step (g' :=s.gens) (d' :=s.drawn) (ch:= [it]) (fun b hb=> ?_) (fun b o _ _ hc e _=>k b o (fun z=>hc (by simp [z])) e) (fun b o _ _ hc e _=>⟨o.slots,k b o (fun z=>hc (by simp [z])) e⟩) (fun _ _ _ _ n=>n)
  (fun b o hc e=>⟨o,k b o (fun z=>hc (by simp [z])) e⟩) (fun _ _ e=>e) (fun _ _ _ e=>e) (fun b ps e=>⟨#[],by rw[e];simp⟩) (fun m hm=> ?_) (fun b u e=> ?_) I.bare
 ·have e:b=it:=by simpa using hb
  subst e;exact⟨h1,hL,h2,h3⟩
 ·obtain⟨o,es,ep,ho,r⟩:=hm;exact⟨o,es,ep,k _ o (Ne.symm hL) ho,r⟩
 ·refine(I.hok b u e).stay (fun c v hc q=>k c v ?_ q) (fun _ q=>q) fun _ _ q=>q;rcases hc with z | z
  ·rw[z];exact Eh b u e
  ·exact Eh c _ z
theorem Inv.tok(I:Inv X pins σ H s)(t:Nat):Inv X pins σ H {s with toks:=t}:=I.un (h' :=s.heap) (t' :=t) Un.refl I.hok
theorem Inv.kept{t' :Nat}(I:Inv X pins σ H s)(k:∀b u,s.heap.get? b=some u ->h'.get? b=some u):Inv X pins σ H {s with heap:=h',toks:=t'}:=I.un (Un.kept k) (I.hok.kept k)
theorem Inv.laid{a:Addr}{o:HO}{t' :Nat}(I:Inv X pins σ H s)(k:∀b u,s.heap.get? b=some u ->h'.get? b=some u)(hp:s.heap.objs.size<=a)(new:aV X.prog X.w (upd H a o) h' a o):
  Inv X pins σ (upd H a o) {s with heap:=h',toks:=t'}:=I.un (Un.laid k hp (I.hok.fresh hp)) (I.hok.laid k hp new)
theorem Inv.write{x e:Addr}{o:HO}{t' :Nat}(I:Inv X pins σ H s)(mu:DY (H x))(he:e=x\/H e=some (.own x))(k:∀b u,b≠e ->s.heap.get? b=some u ->h'.get? b=some u)(heo:∃u,h'.get? e=some u)
  (new:aV X.prog X.w (upd H x o) h' x o):Inv X pins σ (upd H x o) {s with heap:=h',toks:=t'}:=I.un (Un.write mu he k heo) (I.hok.write mu he k heo new)
theorem Inv.pins_of{qF :bD}(I:Inv X pins σ H s)(h:∀p∈qF,s.heap.get? p.1=some p.2/\H p.1=none/\p.1≠X.env.locals/\p.1∉X.fs/\∀v,p.2.data≠ .cell v):Inv X qF σ H s:=
 ⟨I.ok,I.os,I.bare,I.base,I.loc,I.cell,I.free,I.freeC,fun p hp=>(zR.mp hp).elim (fun z=>I.pin p (zO _ z)) (h p),I.hok,I.len⟩
theorem Wt{N:List Str}(hN:N.Nodup){i j:Nat}{x:Str}(a:N[i]?=some x)(b:N[j]?=some x):i=j:=by
 obtain⟨h1,e1⟩:=zU.mp a;obtain⟨h2,e2⟩:=zU.mp b;exact(List.getElem_inj hN).mp (e1.trans e2.symm)
theorem Wu{M:Model}{A:Around}{E:bL}{i:Nat}{x:Str}{v:V}{u:Value}{Q:Unit ->Shared ->Prop}(I:Inv X pins σ H s)(hN:X.N.Nodup)(hi:X.N[i]?=some x)(hx:Loc X.env.scope x)(r:RelV v u)
  (h:∀s',Inv X pins (σ.set i (some v)) H s' ->(∃a,Heap.SameBut a s.heap s'.heap/\ (a=X.env.locals\/X.env.cells.lookup x=some a)) ->Q () s') (hf:X.fn x=true\/X.env.scope.names.lookup x=some .local:=by first | exact .inl rfl | exact .inr rfl | assumption):wpAny M A (storeName X.env x u) Q E s:=by
 obtain⟨m,hn,hl⟩:=id I.loc;have hcls:(X.env.scope.kind== .class || (X.env.scope.kind== .module&&X.env.locals !=X.env.globals))=false:=by rw[I.ok.kind];rfl
 have Wv:i<σ.length:=by rw[I.len];exact(zU.mp hi).1
 have cne:=I.cne;have tracked:∀{a:Addr} {h' :Heap},(∃o,s.heap.get? a=some o/\H a=none) ->Heap.SameBut a s.heap h' ->ig X.prog X.w H h' :=fun{a h'} ha hs b ob e=>by
  obtain⟨_,_,hfree⟩:=ha;refine(I.hok b ob e).stay (fun c w' hc q=>(hs.2 c ?_).trans q) (fun _ q=>q) fun _ _ q=>q;rintro rfl;rcases hc with rfl | hc
  ·rw[hfree] at e;cases e
  ·rw[hfree] at hc;cases hc
 rcases hx with hk | hk
 ·refine wpAny_storeName_local hk hn (fun h' hn' hs=> ?_) hcls;obtain⟨oL,_,_,hoL,_⟩:=id hn;refine h _ ⟨I.ok,I.os,I.bare,⟨fun b o e n hb hx=> ?_,fun b o e n hb hx=> ?_,I.base.free,fun b o e hx=> ?_,I.base.tups,I.base.mF,I.base.m9⟩,⟨_,hn',fun j y v' e1 e2 e3=> ?_⟩,fun y c e=> ?_,I.free,I.freeC,fun p hp=> ?_,tracked ⟨oL,hoL,I.free⟩ hs,by simpa using I.len⟩ ⟨_,hs,.inl rfl⟩
  ·exact(hs.2 b (zJ (zL (zG e) I.ok.above))).trans (I.base.keep b o e n hb hx)
  ·obtain⟨sl,e1⟩:=I.base.slot b o e n hb hx;exact⟨sl,(hs.2 b (zJ (zL (zG e) I.ok.above))).trans e1⟩
  ·obtain⟨o',e1⟩:=I.base.there b o e hx;exact⟨o',(hs.2 b (zJ (zL (zG e) I.ok.above))).trans e1⟩
  ·by_cases hj:j=i
   ·subst hj;rw[hi] at e1;cases e1;rw[List.getElem?_set_self Wv] at e2;cases e2;exact⟨u,r,.inl ⟨hk,by simp⟩⟩
   ·rw[List.getElem?_set_ne (Ne.symm hj)] at e2;obtain⟨u',r',q⟩:=hl j y v' e1 e2 e3;refine⟨u',r',?_⟩;rcases q with ⟨k,e⟩ | ⟨k,c,e,z⟩
    ·refine .inl ⟨k,?_⟩;have:y≠x:=fun e=>hj (Wt hN e1 (e ▸ hi));simp [this,e]
    ·exact .inr ⟨k,c,e,z.sameBut hs (cne y c e)⟩
  ·obtain⟨w',z⟩:=I.cell y c e;exact⟨w',z.sameBut hs (cne y c e)⟩
  ·obtain⟨e,n,ne,nf,d⟩:=I.pin p hp;exact⟨(hs.2 p.1 ne).trans e,n,ne,nf,d⟩
 ·have hfn:X.fn x=true:=by
   rcases hf with z | z
   ·exact z
   ·rw[z] at hk;cases hk
  obtain⟨c,hc⟩:=I.ok.has x (.inl hk);obtain⟨w',z⟩:=I.cell x c hc;refine wpAny_storeName_cell I.ok.kind hk hc z (fun h' hc' hs=> ?_);obtain⟨oc,hoc,Ni⟩:=id z;refine h {s with heap:=h'} ⟨I.ok,I.os,I.bare,⟨fun b o e n hb hx=> ?_,fun b o e n hb hx=> ?_,I.base.free,fun b o e hx=> ?_,I.base.tups,I.base.mF,I.base.m9⟩,⟨m,hn.sameBut hs (Ne.symm (cne x c hc)),fun j y v' e1 e2 e3=> ?_⟩,fun y c' e=> ?_,I.free,I.freeC,fun p hp=> ?_,tracked ⟨oc,hoc,I.freeC x c hc⟩ hs,by simpa using I.len⟩ ⟨c,hs,.inr hc⟩
  ·exact(hs.2 b (zJ (zL (zG e) (I.ok.cab x c hfn hc)))).trans (I.base.keep b o e n hb hx)
  ·obtain⟨sl,e1⟩:=I.base.slot b o e n hb hx;exact⟨sl,(hs.2 b (zJ (zL (zG e) (I.ok.cab x c hfn hc)))).trans e1⟩
  ·obtain⟨o',e1⟩:=I.base.there b o e hx;exact⟨o',(hs.2 b (zJ (zL (zG e) (I.ok.cab x c hfn hc)))).trans e1⟩
  ·by_cases hj:j=i
   ·subst hj;rw[hi] at e1;cases e1;rw[List.getElem?_set_self Wv] at e2;cases e2;exact⟨u,r,.inr ⟨.inl hk,c,hc,hc'⟩⟩
   ·rw[List.getElem?_set_ne (Ne.symm hj)] at e2;obtain⟨u',r',q⟩:=hl j y v' e1 e2 e3;refine⟨u',r',?_⟩;rcases q with q | ⟨k,c',e,z'⟩
    ·exact .inl q
    ·refine .inr ⟨k,c',e,z'.sameBut hs ?_⟩;rintro rfl;exact hj (Wt hN e1 (I.ok.inj _ _ _ e hc ▸ hi))
  ·by_cases hcc:c' =c
   ·subst hcc;exact⟨_,hc'⟩
   ·obtain⟨w2,z2⟩:=I.cell y c' e;exact⟨w2,z2.sameBut hs hcc⟩
  ·obtain⟨e,n,ne,nf,d⟩:=I.pin p hp;refine⟨(hs.2 p.1 ?_).trans e,n,ne,nf,d⟩;intro q;rw[q,hoc] at e;have q' :oc=p.2:=zF e;exact d w' (by rw[<- q'];exact Ni)
theorem JQ{M:Model}{A:Around}{E:bL}{i:Nat}{x:Str}{v:V}{u:Value}{Q:Unit ->Shared ->Prop}(I:Inv X pins σ H s)(hN:X.N.Nodup)(hi:X.N[i]?=some x)(hx:Loc X.env.scope x)(r:RelV v u)
  (h:∀s',Inv X pins (σ.set i (some v)) H s' ->Q () s') (hf:X.fn x=true\/X.env.scope.names.lookup x=some .local:=by first | exact .inl rfl | exact .inr rfl | assumption):wpAny M A (storeName X.env x u) Q E s:=
 Wu I hN hi hx r (fun s' I' _=>h s' I') hf
theorem Inv.call'{s' :Shared}{ch:List Addr}(I:Inv X pins σ H s)(ho:s'.os=s.os)(u:Un (frs X.stack) ch H H' s.heap s'.heap)(hok:ig X.prog X.w H' s'.heap)(hg:AllBare s'.gens)
  (hch:∀b∈ch,(b∈X.ex\/X.s₀.heap.objs.size<=b)/\b≠X.env.locals/\ (∀x c,X.env.cells.lookup x=some c ->c≠b)/\∀p∈X.pn++pins,p.1≠b):Inv X pins σ H' s' :=by
 obtain⟨h',g',d',t',o'⟩:=s';have e:o' =s.os:=ho;subst e;exact I.call (g' :=g') (t' :=t') (d' :=d') u hok hg hch
end
abbrev XK:=Value ->Option Addr ->Hp ->Prop
abbrev St:=List (Option V)
abbrev VK:=V ->Hp ->Prop
abbrev TE:=St ->Hp ->VK ->Prop
abbrev TT:=St ->Hp ->(Bool ->Hp ->Prop) ->Prop
abbrev TA:=St ->Hp ->(List V ->Hp ->Prop) ->Prop
structure Ends where
 nx:St ->Hp ->Prop
 rt:VK
 bk:St ->Hp ->Prop:=fun _ _=>False
 ct:St ->Hp ->Prop:=fun _ _=>False
abbrev TS:=Ends ->St ->Hp ->Prop
def EP(X:Cx)(pins:bD)(σ:St)(Q:VK)(u:Value)(s' :Shared):Prop:=∃v H',Inv X pins σ H' s' /\RelV v u/\Q v H'
def TP(X:Cx)(pins:bD)(σ:St)(Q:Bool ->Hp ->Prop)(b:Bool)(s' :Shared):Prop:=∃H',Inv X pins σ H' s' /\Q b H'
def AP(X:Cx)(pins:bD)(σ:St)(Q:List V ->Hp ->Prop)(us:List Value)(s' :Shared):Prop:=∃vs H',Inv X pins σ H' s' /\Vals vs us/\Q vs H'
def SP(X:Cx)(pins:bD)(D:Ends)(f:Flow)(s' :Shared):Prop:=
 match f with
 | .next=>∃σ' H',Inv X pins σ' H' s' /\D.nx σ' H'
 | .brk=>∃σ' H',Inv X pins σ' H' s' /\D.bk σ' H'
 | .cont=>∃σ' H',Inv X pins σ' H' s' /\D.ct σ' H'
 | .ret u=>∃v σ' H',Inv X pins σ' H' s' /\RelV v u/\D.rt v H'
def PE(X:Cx)(e:Expr)(t:TE):Prop:=
 ∀(pins:bD) (s:Shared) (σ:St) (H:Hp) (Q:VK),Inv X pins σ H s ->t σ H Q ->wpAny (model X.prog X.w) X.A (eval e X.env) (EP X pins σ Q) X.xe s
def PT(X:Cx)(e:Expr)(t:TT):Prop:=
 ∀(pins:bD) (s:Shared) (σ:St) (H:Hp) (Q:Bool ->Hp ->Prop),Inv X pins σ H s ->t σ H Q ->wpAny (model X.prog X.w) X.A (isTrue e X.env (eval e X.env)) (TP X pins σ Q) X.xe s
def PW(X:Cx)(e:Expr)(t:TT):Prop:=
 ∀(whole:Sem Value) (pins:bD) (s:Shared) (σ:St) (H:Hp) (Q:Bool ->Hp ->Prop),Inv X pins σ H s ->t σ H Q ->wpAny (model X.prog X.w) X.A (isTrue e X.env whole) (TP X pins σ Q) X.xe s
theorem PW.pt{X:Cx}{e:Expr}{t:TT}(h:PW X e t):PT X e t:=h _
def PA(X:Cx)(es:List Expr)(t:TA):Prop:=
 ∀(pos:Pos) (pins:bD) (s:Shared) (σ:St) (H:Hp) (Q:List V ->Hp ->Prop),Inv X pins σ H s ->t σ H Q ->wpAny (model X.prog X.w) X.A (spliced (backTo pos (starEach es X.env))) (AP X pins σ Q) X.xe s
def PS(X:Cx)(st:Stmt)(t:TS):Prop:=
 ∀(pins:bD) (s:Shared) (σ:St) (H:Hp) (D:Ends),Inv X pins σ H s ->t D σ H ->wpAny (model X.prog X.w) X.A (exec st X.env) (SP X pins D) X.xe s
def sG(X:Cx)(st:List Stmt)(t:TS):Prop:=
 ∀(pins:bD) (s:Shared) (σ:St) (H:Hp) (D:Ends),Inv X pins σ H s ->t D σ H ->wpAny (model X.prog X.w) X.A (execs st X.env) (SP X pins D) X.xe s
theorem bG{α:Type}{t:Sem α}{Q Q' :α ->Shared ->Prop}{M:Model}{A:Around}{E:bL}{s:Shared}(h:wpAny M A t Q E s)(hQ:∀a s,Q a s ->Q' a s):wpAny M A t Q' E s:=wpAny_mono h hQ fun _ _ x=>x
section
variable{X:Cx}
def Ei(i:Nat):TE:=fun σ H Q=>∃v,σ[i]?=some (some v)/\Q v H
def tC(v:V):TE:=fun _ H Q=>Q v H
theorem sH{i:Nat}{x:Str}{pos:Pos}(hN:X.N[i]?=some x)(hv:pN X.env.scope x)(hd:(x==("__debug__" :Str))=false:=by decide)(hcd:(x==("__classdict__" :Str))=false:=by decide):PE X (.Name x pos) (Ei i):=by
 intro pins s σ H Q I h;obtain⟨v,e,h⟩:=h;obtain⟨m,hn,hl⟩:=I.loc;obtain⟨u,r,l⟩:=hl i x v hN e hv;have fin:EP X pins σ Q u s:=⟨v,H,I,r,h⟩;rcases l with ⟨hk,hm⟩ | ⟨hk,c,hc,hcell⟩
 ·exact wpAny_Name (wpAny_loadName_local I.ok.kind hk hn hm fin) hd
 ·rcases hk with hk | hk
  ·exact wpAny_Name (wpAny_loadName_cell I.ok.kind hk hc hcell fin) hd
  ·exact wpAny_Name (wpAny_loadName_free I.ok.kind hk hc hcell fin hcd) hd
theorem Ww{i j pos}:PE X (.Constant (.int i) j pos) (tC (.int i)):=fun _ _ _ H _ I h=>wpAny_Constant_int ⟨.int i,H,I.tok _,⟨_,rfl⟩,h⟩
theorem z7j{b j pos}:PE X (.Constant (.bool b) j pos) (tC (.bl b)):=fun _ _ _ H _ I h=>Constant_bool ⟨.bl b,H,I,rfl,h⟩
theorem z6c{x j pos}:PE X (.Constant (.str x) j pos) (tC (.str x)):=fun _ _ _ H _ I h=>Calls.Constant_str ⟨.str x,H,I.tok _,⟨_,rfl⟩,h⟩
def Gl(X:Cx)(x:Str):Prop:=X.env.kindOf x=some .globalImplicit
theorem Nj{E:bL}{pins:bD}{s:Shared}{σ:St}{H:Hp}{x:Str}{u:Value}{pos:Pos}{Q:bL}(I:Inv X pins σ H s)(hg:Gl X x)(hm:X.mg x=some u)(h:Q u s)
  (hd:(x==("__debug__" :Str))=false:=by decide):wpAny (model X.prog X.w) X.A (eval (.Name x pos) X.env) Q E s:=
 Calls.Name_function_global I.ok.kind hg (Calls.loadGlobal_global (by rw[I.ok.glob];exact I.mod.glob.keeps I.bk) hm h) hd
theorem vB{E:bL}{pins:bD}{s:Shared}{σ:St}{H:Hp}{x:Str}{u:Value}{pos:Pos}{Q:bL}(I:Inv X pins σ H s)(hg:Gl X x)(hm:X.mg x=none)(hv:bootBuiltins x=some u)(h:Q u s)
  (hn:x≠ "__name__" :=by decide) (hd:(x==("__debug__" :Str))=false:=by decide):wpAny (model X.prog X.w) X.A (eval (.Name x pos) X.env) Q E s:=by
 obtain⟨mb,h1,h2⟩:=I.mod.blt;exact Calls.Name_function_global I.ok.kind hg (Calls.loadGlobal_builtin (by rw[I.ok.glob];exact I.mod.glob.keeps I.bk) hm (by rw[I.ok.blt];exact h1.keeps I.bk) ((h2 x hn).trans hv) h) hd
theorem z1y{x:Str}{v:V}{u:Value}{pos:Pos}(hg:Gl X x)(hm:X.mg x=none)(hv:bootBuiltins x=some u)(r:RelV v u)(hn:x≠ "__name__" :=by decide)(hd:(x==("__debug__" :Str))=false:=by decide):PE X (.Name x pos) (tC v):=
 fun _ _ _ H _ I h=>vB I hg hm hv ⟨v,H,I,r,h⟩ hn hd
def JR(ta tb:TE)(k:Int ->Int ->Hp ->Prop):St ->Hp ->Prop:=fun σ H=>ta σ H fun x H1=>tb σ H1 fun y H2=>∃i j,x= .int i/\y= .int j/\k i j H2
def aat(ta tb:TE):TE:=fun σ H Q=>JR ta tb (fun i j H2=>Q (.int (i+j)) H2) σ H
def aau(ta tb:TE):TE:=fun σ H Q=>JR ta tb (fun i j H2=>Q (.int (i - j)) H2) σ H
def aav(ta tb:TE):TE:=fun σ H Q=>JR ta tb (fun i j H2=>(-(2^64)<i/\i<2^64)/\Q (.int (i*j)) H2) σ H
variable{a b:Expr}{ta tb:TE}{pos:Pos}
def PC(X:Cx)(op:CmpOp)(a b:Expr)(t:TE):Prop:=
 ∀(pins:bD) (s:Shared) (σ:St) (H:Hp) (Q:VK),Inv X pins σ H s ->t σ H Q ->
  wpAny (model X.prog X.w) X.A (eval a X.env) (fun v s₁=>wpAny (model X.prog X.w) X.A (eval b X.env) (fun u s₂=>wpAny (model X.prog X.w) X.A (compareOp op v u) (EP X pins σ Q) X.xe s₂) X.xe s₁) X.xe s
def qZ(p:Int ->Int ->Bool)(ta tb:TE):TE:=fun σ H Q=>JR ta tb (fun i j H2=>Q (.bl (p i j)) H2) σ H
abbrev tLt:TE ->TE ->TE:=qZ fun i j=>decide (i<j)
abbrev tLe:TE ->TE ->TE:=qZ fun i j=>decide (i<=j)
abbrev tGt:TE ->TE ->TE:=qZ fun i j=>decide (j<i)
abbrev tGe:TE ->TE ->TE:=qZ fun i j=>decide (j<=i)
abbrev aaw:TE ->TE ->TE:=qZ fun i j=>decide (i=j)
abbrev aax:TE ->TE ->TE:=qZ fun i j=> !decide (i=j)
def aay(ta:TE):TE:=fun σ H Q=>ta σ H fun x H1=>Q (.bl (decide (x= .non))) H1
def Wx(ta:TE):TE:=fun σ H Q=>ta σ H fun x H1=>Q (.bl (!decide (x= .non))) H1
def tB(t:TE):TT:=fun σ H Q=>t σ H fun x H1=>∃c,x= .bl c/\Q c H1
theorem Wy{op:CmpOp}{t:TE}(h:PC X op a b t)(h1:behindInMarks op b=false:=by first | exact Ej _ (by decide) (by decide) | rfl):PT X (.Compare a [op] [b] pos) (tB t):=by
 intro pins s σ H Q I hw;refine wpAny_isTrue_Compare1 (bG (h pins s σ H _ I hw) fun v s1 h1=>bG h1 fun u s2 h2=>bG h2 fun c s3 ⟨x,H1,I1,r1,q1⟩=> ?_) h1;obtain⟨d,rfl,q⟩:=q1;cases r1;exact wpAny_truthy_bool ⟨H1,I1,q⟩
theorem z4j{e:Expr}{t:TE}(h:PE X e t)(he:∀whole,isTrue e X.env whole=(do let v<- whole;standAt e.pos;holding [v] (truthy v)):=by intro _;rfl):PT X e (tB t):=by
 intro pins s σ H Q I hw;refine isTrue_plain (bG (h pins s σ H _ I hw) fun v s1 ⟨x,H1,I1,r1,q1⟩=> ?_) (he _);obtain⟨d,rfl,q⟩:=q1;cases r1;exact wpAny_truthy_bool ⟨H1,I1,q⟩
variable{tA vC :TT}{rest:List Expr}
def Nk(t u:TT):TT:=fun σ H Q=>t σ H fun c H1=>if c=true then u σ H1 Q else Q false H1
def tOr(t u:TT):TT:=fun σ H Q=>t σ H fun c H1=>if c=true then Q true H1 else u σ H1 Q
def Nm(t:TT):TT:=fun σ H Q=>t σ H fun c H1=>Q (!c) H1
theorem z2b(ha:PT X a tA):PW X (.BoolOp .And [a] pos) tA:=by
 intro wh pins s σ H Q I h;refine isTrue_and (bG (ha pins s σ H Q I h) fun c s1 e=> ?_);cases c with
 | true=>exact isTrue_and_nil e
 | false=>exact e
theorem z4q(ha:PT X a tA):PW X (.BoolOp .Or [a] pos) tA:=by
 intro wh pins s σ H Q I h;refine isTrue_or (bG (ha pins s σ H Q I h) fun c s1 e=> ?_);cases c with
 | false=>exact isTrue_or_nil e
 | true=>exact e
theorem z5w(ha:PT X a tA)(hb:PW X (.BoolOp .And (b::rest) pos) vC):PW X (.BoolOp .And (a::b::rest) pos) (Nk tA vC):=by
 intro wh pins s σ H Q I h;refine isTrue_and (bG (ha pins s σ H _ I h) fun c s1 ⟨H1,I1,q1⟩=> ?_);cases c with
 | true=>exact hb wh pins s1 σ H1 Q I1 q1
 | false=>exact⟨H1,I1,q1⟩
theorem z6v(ha:PT X a tA)(hb:PW X (.BoolOp .Or (b::rest) pos) vC):PW X (.BoolOp .Or (a::b::rest) pos) (tOr tA vC):=by
 intro wh pins s σ H Q I h;refine isTrue_or (bG (ha pins s σ H _ I h) fun c s1 ⟨H1,I1,q1⟩=> ?_);cases c with
 | true=>exact⟨H1,I1,q1⟩
 | false=>exact hb wh pins s1 σ H1 Q I1 q1
theorem z4h(ha:PT X a tA):PT X (.UnaryOp .Not a pos) (Nm tA):=by
 intro pins s σ H Q I h;exact isTrue_not (ha pins s σ H (fun c H1=>Q (!c) H1) I h)
def Ek(ta tb:TE):TE:=fun σ H Q=>ta σ H fun x H1=>∃c,x= .bl c/\if c=true then tb σ H1 Q else Q (.bl false) H1
def Np(ta tb:TE):TE:=fun σ H Q=>ta σ H fun x H1=>∃c,x= .bl c/\if c=true then Q (.bl true) H1 else tb σ H1 Q
def Wz(ta:TE):TE:=fun σ H Q=>ta σ H fun x H1=>∃c,x= .bl c/\Q (.bl (!c)) H1
theorem z48{op}{t:TE}(h:PE X a t):PE X (.BoolOp op [a] pos) t:=fun pins s σ H Q I hw=>BoolOp_one (h pins s σ H Q I hw)
theorem z5b(ha:PE X a ta)(hb:PE X (.BoolOp .And (b::rest) pos) tb):PE X (.BoolOp .And (a::b::rest) pos) (Ek ta tb):=by
 intro pins s σ H Q I h;refine BoolOp_and (bG (ha pins s σ H _ I h) fun v s1 sU=> ?_);obtain⟨x,H1,I1,r1,q1⟩:=sU;obtain⟨c,rfl,q1⟩:=q1;cases r1;refine wpAny_truthy_bool ?_;cases c with
 | true=>exact hb pins s1 σ H1 Q I1 q1
 | false=>exact⟨.bl false,H1,I1,rfl,q1⟩
theorem z7l(ha:PE X a ta)(hb:PE X (.BoolOp .Or (b::rest) pos) tb):PE X (.BoolOp .Or (a::b::rest) pos) (Np ta tb):=by
 intro pins s σ H Q I h;refine BoolOp_or (bG (ha pins s σ H _ I h) fun v s1 hq8=> ?_);obtain⟨x,H1,I1,r1,q1⟩:=hq8;obtain⟨c,rfl,q1⟩:=q1;cases r1;refine wpAny_truthy_bool ?_;cases c with
 | false=>exact hb pins s1 σ H1 Q I1 q1
 | true=>exact⟨.bl true,H1,I1,rfl,q1⟩
def tIf(t:TT)(ta tb:TE):TE:=fun σ H Q=>t σ H fun c H1=>if c=true then ta σ H1 Q else tb σ H1 Q
theorem zyf{c:Expr}(hc:PT X c tA)(ha:PE X a ta)(hb:PE X b tb):PE X (.IfExp c a b pos) (tIf tA ta tb):=by
 intro pins s σ H Q I h;refine wpAny_IfExp (bG (hc pins s σ H _ I h) fun d s1 ⟨H1,I1,q1⟩=> ?_);cases d with
 | true=>exact ha pins s1 σ H1 Q I1 q1
 | false=>exact hb pins s1 σ H1 Q I1 q1
end
def fZ(K:W.Frag)(H:Hp)(a:Addr)(xs:List V):Prop:=
 Rd H a (.lst xs)\/
  ∃(o:Obj) (its:Array Value) (n:Nat),K.lookup a=some o/\o.cls= .type "list" /\o.dict=none/\o.data= .seq its n/\its.size<=sizeLine/\Vals xs its.toList
def je(K:W.Frag)(H:Hp)(a:Addr)(xs:List V):Prop:=
 Rd H a (.tup xs)\/
  ∃(o:Obj) (its:Array Value) (n:Nat),K.lookup a=some o/\o.cls= .type "tuple" /\o.data= .seq its n/\its.size<=sizeLine/\Vals xs its.toList
def Nq:Value ->Option V
 | .none=>some .non
 | .bool b=>some (.bl b)
 | .int i _=>some (.int i)
 | .str x _=>some (.str x)
 | .bytes b _=>some (.yr b)
 | .float b _=>some (.flt b)
 | .ref a=>some (.ref a)
 | .type n=>some (.ty n)
 | _=>none
theorem RelV.abs{x:V}{u:Value}(r:RelV x u):Nq u=some x:=by
 cases x with
 | non=>cases r;rfl
 | bl _=>cases r;rfl
 | int _=>obtain⟨t,rfl⟩:=r;rfl
 | str _=>obtain⟨t,rfl⟩:=r;rfl
 | yr _=>obtain⟨t,rfl⟩:=r;rfl
 | flt _=>obtain⟨t,rfl⟩:=r;rfl
 | ref _=>cases r;rfl
 | ty _=>cases r;rfl
theorem RelV.inj{x y:V}{u:Value}(r:RelV x u)(q:RelV y u):x=y:=zF (r.abs.symm.trans q.abs)
theorem Vals.inj:∀{xs ys:List V} {us:List Value},Vals xs us ->Vals ys us ->xs=ys
 | _,_,_,.nil,.nil=>rfl
 | _,_,_,.cons r t,.cons r' t' =>by rw[r.inj r',Vals.inj t t']
section
variable{X:Cx}{pins:bD}{σ:St}{H:Hp}{s:Shared}{a:Addr}{xs ys:List V}
theorem Inv.list(I:Inv X pins σ H s)(h:fZ X.K H a xs):∃its:List Value,Vals xs its/\PlainL s.heap a its.toArray/\xs.length<=sizeLine:=by
 rcases h with h | ⟨o,its,n,hk,hc,hd,hs,hz,r⟩
 ·obtain⟨z,its,n,r,e⟩:=h.ok I.hok;exact⟨its,r,⟨_,n,e,rfl,rfl,rfl⟩,z⟩
 ·refine⟨its.toList,r,⟨o,n,I.kIn a o hk,hc,hd,by simpa using hs⟩,?_⟩
  have e:=r.length;simp only [Array.length_toList] at e;omega
theorem Inv.tuple(I:Inv X pins σ H s)(h:je X.K H a xs):∃its:List Value,Vals xs its/\IsTup s.heap a its.toArray/\xs.length<=sizeLine:=by
 rcases h with h | ⟨o,its,n,hk,hc,hs,hz,r⟩
 ·obtain⟨z,its,r,p⟩:=h.ok I.hok;exact⟨its,r,p,z⟩
 ·refine⟨its.toList,r,⟨o,I.kIn a o hk,hc,n,by simpa using hs⟩,?_⟩
  have e:=r.length;simp only [Array.length_toList] at e;omega
theorem Inv.list_inj(I:Inv X pins σ H s)(h:fZ X.K H a xs)(h' :fZ X.K H a ys):xs=ys:=by
 obtain⟨its,r,⟨o,n,e,_,_,d⟩,_⟩:=I.list h;obtain⟨its',r',⟨o',n',e',_,_,d'⟩,_⟩:=I.list h';rw[e] at e';cases e';rw[d] at d';injection d' with d1 _;have:its=its' :=by simpa using congrArg Array.toList d1
 subst this;exact r.inj r'
theorem Inv.tuple_inj(I:Inv X pins σ H s)(h:je X.K H a xs)(h' :je X.K H a ys):xs=ys:=by
 obtain⟨its,r,⟨o,e,_,n,d⟩,_⟩:=I.tuple h;obtain⟨its',r',⟨o',e',_,n',d'⟩,_⟩:=I.tuple h';rw[e] at e';cases e';rw[d] at d';injection d' with d1 _;have:its=its' :=by simpa using congrArg Array.toList d1
 subst this;exact r.inj r'
end
abbrev Cx.wish(X:Cx)(E:bL):Cx:={X with xe:=E}
abbrev Cx.nox(X:Cx):Cx:=X.wish fun _ _=>False
section
variable{X:Cx}{pins:bD}{σ:St}{H:Hp}{s:Shared}{E:bL}
end
section
variable{X:Cx}{st:Stmt}{rest:List Stmt}{t u:TS}{e:Expr}{te:TE}{pos:Pos}
def El:TS:=fun D σ H=>D.nx σ H
def Nr(t u:TS):TS:=fun D σ H=>t {D with nx:=u D} σ H
theorem z2s:sG X [] El:=fun _ _ σ H _ I h=>wpAny_execs_nil ⟨σ,H,I,h⟩
theorem zz3(h1:PS X st t)(h2:sG X rest u):sG X (st::rest) (Nr t u):=by
 intro pins s σ H D I h;refine wpAny_execs_cons (bG (h1 pins s σ H {D with nx:=u D} I h) fun f s1 q=> ?_);cases f with
 | next=>
  obtain⟨σ',H',I',q⟩:=q;exact h2 pins s1 σ' H' D I' q
 | ret v=>exact q
 | brk=>exact q
 | cont=>exact q
theorem z1w(h1:PS X st t):sG X [st] t:=by
 intro pins s σ H D I h;refine wpAny_execs_cons (bG (h1 pins s σ H D I h) fun f s1 q=> ?_);cases f with
 | next=>exact wpAny_execs_nil q
 | ret v=>exact q
 | brk=>exact q
 | cont=>exact q
def Nt:TS:=fun D σ H=>D.bk σ H
def WD:TS:=fun D σ H=>D.ct σ H
theorem Inv.quiet{pins:bD}{σ:St}{H:Hp}{s:Shared}(I:Inv X pins σ H s):interactive X.env=false:=by simp [interactive,I.ok.kind]
def Em(te:TE):TS:=fun D σ H=>te σ H fun _ H1=>D.nx σ H1
theorem z2t(he:PE X e te)(hs:swapsWith e none pos.line X.env=pure false:=by rfl):PS X (.Expr e pos) (Em te):=by
 intro pins s σ H D I h;exact wpAny_Expr_any (bG (he pins s σ H _ I h) fun v s1 Nu=>by obtain⟨x,H1,I1,r1,q1⟩:=Nu;exact⟨σ,H1,I1,q1⟩) I.quiet hs
def Nv(te:TE):TS:=fun D σ H=>te σ H D.rt
theorem WK(he:PE X e te):PS X (.Return (some e) pos) (Nv te):=by
 intro pins s σ H D I h;exact wpAny_Return_some (bG (he pins s σ H _ I h) fun v s1 yw=>by obtain⟨x,H1,I1,r1,q1⟩:=yw;exact⟨x,σ,H1,I1,r1,q1⟩)
def WL:TS:=fun D _ H=>D.rt .non H
def Nx(c:TT)(t u:TS):TS:=fun D σ H=>c σ H fun b H1=>if b=true then t D σ H1 else u D σ H1
theorem z6m{c:Expr}{a b:List Stmt}{tc:TT}(hc:PT X c tc)(ha:sG X a t)(hb:sG X b u):PS X (.If c a b pos) (Nx tc t u):=by
 intro pins s σ H D I h;refine wpAny_If (bG (hc pins s σ H _ I h) fun d s1 ⟨H1,I1,q1⟩=> ?_);cases d with
 | true=>exact ha pins s1 σ H1 D I1 q1
 | false=>exact hb pins s1 σ H1 D I1 q1
def Ny:TS:=fun _ _ _=>False
end
abbrev TG:=V ->St ->Hp ->(St ->Hp ->Prop) ->Prop
abbrev vD:=List V ->St ->Hp ->(St ->Hp ->Prop) ->Prop
def PG(X:Cx)(target:Expr)(t:TG):Prop:=
 ∀(pins:bD) (s:Shared) (σ:St) (H:Hp) (v:V) (u:Value) (Q:St ->Hp ->Prop),Inv X pins σ H s ->RelV v u ->t v σ H Q ->
  wpAny (model X.prog X.w) X.A (assign target X.env u) (fun _ s' =>∃σ' H',Inv X pins σ' H' s' /\Q σ' H') X.xe s
def yx(X:Cx)(ts:List Expr)(t:vD):Prop:=
 ∀(pins:bD) (s:Shared) (σ:St) (H:Hp) (vs:List V) (us:List Value) (Q:St ->Hp ->Prop),Inv X pins σ H s ->Vals vs us ->t vs σ H Q ->
  wpAny (model X.prog X.w) X.A (assignInOrder ((assignEach ts X.env).map (·.2)) us) (fun _ s' =>∃σ' H',Inv X pins σ' H' s' /\Q σ' H') X.xe s
abbrev vG:=V ->V ->V ->Hp ->(Hp ->Prop) ->Prop
def En(X:Cx)(t:vG):Prop:=
 ∀(pins:bD) (s:Shared) (σ:St) (H:Hp) (o i v:V) (ov iv u:Value) (Q:Hp ->Prop),Inv X pins σ H s ->RelV o ov ->RelV i iv ->RelV v u ->t o i v H Q ->
  wpAny (model X.prog X.w) X.A (setItem ov iv u) (fun _ s' =>∃H',Inv X pins σ H' s' /\Q H') X.xe s
abbrev JT:=V ->V ->Hp ->VK ->Prop
def PIp(X:Cx)(op:Operator)(t:JT):Prop:=
 ∀(pins:bD) (s:Shared) (σ:St) (H:Hp) (x y:V) (v u:Value) (Q:VK),Inv X pins σ H s ->RelV x v ->RelV y u ->t x y H Q ->
  wpAny (model X.prog X.w) X.A (inplaceOp op v u) (EP X pins σ Q) X.xe s
section
variable{X:Cx}{pos:Pos}
def wG(i:Nat):TG:=fun v σ H Q=>Q (σ.set i (some v)) H
theorem z3u{i:Nat}{x:Str}(hN:X.N.Nodup)(hi:X.N[i]?=some x)(hx:Loc X.env.scope x)(hf:X.fn x=true\/X.env.scope.names.lookup x=some .local:=by first | exact .inl rfl | exact .inr rfl | assumption):PG X (.Name x pos) (wG i):=by
 intro pins s σ H v u Q I r h;exact wpAny_assign_Name (JQ I hN hi hx r (fun s' I' =>⟨_,H,I',h⟩) hf)
def Nz:vD:=fun vs σ H Q=>vs= []/\Q σ H
def Eo(t:TG)(u:vD):vD:=fun vs σ H Q=>∃v r,vs=v::r/\t v σ H fun σ' H' =>u r σ' H' Q
theorem z3w:yx X [] Nz:=by
 intro pins s σ H vs us Q I r h;obtain⟨e,h⟩:=h;subst e;cases r;exact assignInOrder_nil ⟨σ,H,I,h⟩
theorem zy0{e:Expr}{es:List Expr}{t:TG}{u:vD}(h1:PG X e t)(h2:yx X es u)
  (hs:(assignEach (e::es) X.env).map (·.2)=assign e X.env::(assignEach es X.env).map (·.2):=by rfl):yx X (e::es) (Eo t u):=by
 intro pins s σ H vs us Q I r h;obtain⟨v,vr,e1,h⟩:=h;subst e1;cases r with
 | cons r rr=>
  rw[hs];refine assignInOrder_cons (bG (h1 pins s σ H _ _ _ I r h) fun _ s1 ⟨σ1,H1,I1,q1⟩=> ?_);exact h2 pins s1 σ1 H1 _ _ Q I1 rr q1
def NK(K:W.Frag)(n:Nat)(t:vD):TG:=fun v σ H Q=>∃a xs,v= .ref a/\je K H a xs/\xs.length=n/\t xs σ H Q
theorem z57{es:List Expr}{k:Nat}{t:vD}{n:Nat}(hc:X.calm=true)(h:yx X es t)
  (hn:(assignEach es X.env).length=n:=by rfl) (hst:(assignEach es X.env).findIdx? (·.1)=none:=by rfl):PG X (.Tuple es k pos) (NK X.K n t):=by
 intro pins s σ H v u Q I r hw;obtain⟨a,xs,e1,hq,hl,hw⟩:=hw;subst e1;cases r;obtain⟨its,rv,ht,hz⟩:=I.tuple hq;refine assign_Tuple_tuple (I.ok.hd hc) ht (by simp [hn,<- hl,rv.length]) hst fun h' hx=> ?_
 have I1:Inv X pins σ H {s with heap:=h'}:=I.kept (t' :=s.toks) fun b o e=>hx b o (zJ (zG e)) e;exact h pins _ σ H xs _ Q I1 (by simpa using rv) hw
def kZ(to ti:TE)(t:vG):TG:=fun v σ H Q=>to σ H fun o H1=>ti σ H1 fun i H2=>t o i v H2 fun H3=>Q σ H3
theorem z5f{o i:Expr}{to ti:TE}{t:vG}(ho:PE X o to)(hi:PE X i ti)(hs:En X t)
  (ha:∀v,assign (.Subscript o i pos) X.env v=(do
   let ov<- holding [v] (eval o X.env)
   let iv<- holding [v,ov] (eval i X.env)
   standAt pos
   holding [v,ov,iv] (setItem ov iv v)
   release [v,ov,iv] []):=by intro _;rfl):PG X (.Subscript o i pos) (kZ to ti t):=by
 intro pins s σ H v u Q I r h;rw[ha];refine z8 (wpAny_holding (bG (ho pins s σ H _ I h) fun ov s1 sV=> ?_));obtain⟨x,H1,I1,r1,q1⟩:=sV;refine z8 (wpAny_holding (bG (hi pins s1 σ H1 _ I1 q1) fun iv s2 sW=> ?_));obtain⟨y,H2,I2,r2,q2⟩:=sW;refine z8 (wpAny_standAt (z8 (wpAny_holding (bG (hs pins s2 σ H2 x y v ov iv u _ I2 r1 r2 r q2) fun _ s3 ⟨H3,I3,q3⟩=> ?_))));exact wpAny_release ⟨σ,H3,I3,q3⟩
def Ep(te:TE)(g:TG):TS:=fun D σ H=>te σ H fun x H1=>g x σ H1 D.nx
theorem z41{tg e:Expr}{te:TE}{g:TG}(he:PE X e te)(hg:PG X tg g)(hs:swapsWithSole [tg] e pos.line X.env=pure false:=by rfl)(hw:swappedStores [tg] e X.env=pure none:=by rfl)
  (h1:(assignEach [tg] X.env).map (·.2)= [assign tg X.env]:=by rfl):PS X (.Assign [tg] e pos) (Ep te g):=by
 intro pins s σ H D I h;refine wpAny_Assign_stores (bG (he pins s σ H _ I h) fun v s1 ⟨x,H1,I1,r1,q1⟩=> ?_) hs hw;rw[h1];exact bG (hg pins s1 σ H1 x v _ I1 r1 q1) fun _ s2 q=>q
theorem NP{i:Nat}{x:Str}{e:Expr}{te:TE}{pos' :Pos}(hN:X.N.Nodup)(hi:X.N[i]?=some x)(hx:Loc X.env.scope x)(he:PE X e te)(hs:swapsWith e (some (.Name x pos')) pos.line X.env=pure false:=by rfl)(hf:X.fn x=true\/X.env.scope.names.lookup x=some .local:=by first | exact .inl rfl | exact .inr rfl | assumption):
  PS X (.Assign [.Name x pos'] e pos) (Ep te (wG i)):=by
 intro pins s σ H D I h;refine wpAny_Assign_Name (bG (he pins s σ H _ I h) fun v s1 ⟨y,H1,I1,r1,q1⟩=> ?_) hs;exact JQ I1 hN hi hx r1 (fun s2 I2=>⟨_,H1,I2,q1⟩) hf
def NQ(i j:Nat)(ta:TA):TS:=fun D σ H=>ta σ H fun vs H1=>∃v w,vs= [v,w]/\D.nx ((σ.set i (some v)).set j (some w)) H1
theorem z45{i j:Nat}{x y:Str}{a b:Expr}{ta:TA}{px py pt:Pos}{kt k2 yC}(hc:X.calm=true)(hN:X.N.Nodup)(hi:X.N[i]?=some x)(hj:X.N[j]?=some y)(hij:i≠j)
  (hx:X.env.scope.names.lookup x=some .local) (hy:X.env.scope.names.lookup y=some .local) (ha:PA X [a,b] ta)
  (hw:swappedStores [.Tuple [.Name x px,.Name y py] kt pt] (.Tuple [a,b] k2 yC) X.env=pure (some [x,y]))
  (hs:swapsWithSole [.Tuple [.Name x px,.Name y py] kt pt] (.Tuple [a,b] k2 yC) pos.line X.env=pure false:=by rfl):
  PS X (.Assign [.Tuple [.Name x px,.Name y py] kt pt] (.Tuple [a,b] k2 yC) pos) (NQ i j ta):=by
 intro pins s σ H D I h;rw[exec_Assign_arm];refine z8 (wpAny_standAt ?_);rw[hs];refine z8 (z9 ?_);rw[if_neg (by decide)]
 refine z8 (Tuple_ (bG (ha _ pins s σ H _ I h) fun us s1 NT=> ?_));obtain⟨vs,H1,I1,r1,q1⟩:=NT;obtain⟨v,w,e1,q1⟩:=q1;subst e1;obtain⟨u1,u2,rfl,rv,jR⟩:∃u1 u2,us= [u1,u2]/\RelV v u1/\RelV w u2:=by
  cases r1 with
  | cons p q=>
   cases q with
   | cons p' q' =>
    cases q';exact⟨_,_,rfl,p,p'⟩
 refine wpAny_newObj_type ?_ (by show 2<=sizeLine;decide)
 have I2:Inv X pins σ H1 {s1 with heap:=s1.heap.push {cls:= .type "tuple",data:= .seq [u1,u2].toArray}}:=I1.kept (t' :=s1.toks) fun b o e=>zZ _ e;rw[hw];refine z8 (z9 ?_);show wpAny (model X.prog X.w) X.A (do rule "assign.swapped-stores";let items<- unpackItems (.ref s1.heap.objs.size) 2 none;assignInOrder [fun v=>bindName X.env y v,fun v=>bindName X.env x v] items.reverse;pure Flow.next) _ _ _;refine z8 (wpAny_rule (z8 (unpackItems_tuple (items:= #[u1,u2]) (I.ok.hd hc) (IsTup.new s1.heap _) fun h' hx' => ?_)));have I3:=I2.kept (h' :=h') (t' :=s1.toks) fun b o e=>hx' b o (zJ (zG e)) e;show wpAny _ _ (assignInOrder [fun v=>bindName X.env y v,fun v=>bindName X.env x v] [u2,u1]>>=fun _=>pure Flow.next) _ _ _;refine z8 (assignInOrder_cons (wpAny_bindName (JQ I3 hN hj (.inl hy) jR (fun s2 I4=> ?_) (.inr hy))));refine assignInOrder_cons (wpAny_bindName (JQ I4 hN hi (.inl hx) rv (fun s3 I5=>assignInOrder_nil (z9 ?_)) (.inr hx)));rw[List.set_comm _ _ (Ne.symm hij)] at I5;exact⟨_,H1,I5,q1⟩
def aaz(i:Nat)(te:TE)(ti:JT):TS:=fun D σ H=>∃x,σ[i]?=some (some x)/\te σ H fun y H1=>ti x y H1 fun z H2=>D.nx (σ.set i (some z)) H2
def WM(to ti te:TE)(NZ:V ->V ->Hp ->VK ->Prop)(tip:JT)(N5:vG):TS:=fun D σ H=>to σ H fun o H1=>ti σ H1 fun i H2=>NZ o i H2 fun x H3=>te σ H3 fun y H4=>tip x y H4 fun z H5=>N5 o i z H5 fun H6=>D.nx σ H6
def aaA(X:Cx)(t:V ->V ->Hp ->VK ->Prop):Prop:=
 ∀(pins:bD) (s:Shared) (σ:St) (H:Hp) (o i:V) (ov iv:Value) (Q:VK),Inv X pins σ H s ->RelV o ov ->RelV i iv ->t o i H Q ->
  wpAny (model X.prog X.w) X.A (getItem ov iv) (EP X pins σ Q) X.xe s
def ipI(f:Int ->Int ->Int):JT:=fun x y H Q=>∃i j,x= .int i/\y= .int j/\Q (.int (f i j)) H
end
section
variable{X:Cx}{pos:Pos}
def yD(c:TT)(tb:TS):TS:=fun D σ H=>∃W:Nat ->St ->Hp ->Prop,(∃m,W m σ H)/\∀m σ H,W m σ H ->
 c σ H fun b H1=>if b=true then∃N:St ->Hp ->Prop,(∀σ' H',N σ' H' ->∃m',m' <m/\W m' σ' H')/\tb {D with nx:=N,ct:=N,bk:=D.nx} σ H1 else D.nx σ H1
theorem zzj{c:Expr}{body:List Stmt}{tc:TT}{tb:TS}(hp:PassesOwn (model X.prog X.w) X.A X.env X.xe)(hc:PT X c tc)(hb:sG X body tb):PS X (.While c body [] pos) (yD tc tb):=by
 intro pins s σ H D I h;obtain⟨W,⟨m0,w0⟩,turn⟩:=h;refine wpAny_While (codeAny_whileLoop (fun n s' =>∃σ' H',Inv X pins σ' H' s' /\W n σ' H') ?_ m0 ⟨σ,H,I,w0⟩);rintro n s1 ⟨σ1,H1,I1,w1⟩;refine wpAny_passesOwn hp (bG (hc pins s1 σ1 H1 _ I1 (turn n σ1 H1 w1)) fun b s2 ⟨H2,I2,q2⟩=> ?_);cases b with
 | true=>
  obtain⟨N,hN,q2⟩:=q2;rw[if_pos rfl];refine wpAny_passesOwn hp (bG (hb pins s2 σ1 H2 _ I2 q2) fun f s3 q3=> ?_);cases f with
  | next=>
   obtain⟨σ3,H3,I3,n3⟩:=q3;obtain⟨m',hm,w3⟩:=hN σ3 H3 n3;exact⟨m',hm,σ3,H3,I3,w3⟩
  | cont=>
   obtain⟨σ3,H3,I3,n3⟩:=q3;obtain⟨m',hm,w3⟩:=hN σ3 H3 n3;exact⟨m',hm,σ3,H3,I3,w3⟩
  | brk=>exact q3
  | ret v=>exact q3
 | false=>
  rw[if_neg Bool.false_ne_true];exact wpAny_execs_nil ⟨σ1,H2,I2,q2⟩
end
structure It where
 go:Nat ->Hp ->Prop
 yld:Nat ->Hp ->V ->Hp ->Prop
 stop:Nat ->Hp ->Prop
def gF(X:Cx)(pins:bD)(H:Hp)(b:Addr):Prop:=
 H b=none/\b≠X.env.locals/\b∉X.fs/\ (b∈X.ex\/X.s₀.heap.objs.size<=b)/\ (∀x c,X.env.cells.lookup x=some c ->c≠b)/\∀p∈X.pn++pins,p.1≠b
theorem Inv.fpOk{X:Cx}{pins:bD}{σ:St}{H H' :Hp}{s:Shared}{b:Addr}(I:Inv X pins σ H s)(hb:s.heap.objs.size<=b)(hn:H' b=none):gF X pins H' b:=by
 refine⟨hn,Nat.ne_of_gt (zL I.lt hb),I.nofs hb,.inr (zN I.sz hb),fun x c e z=> ?_,fun p hp z=> ?_⟩
 ·obtain⟨v,q⟩:=I.cell x c e;exact absurd (zL q.lt (by rw[z];exact hb)) (yV _)
 ·exact absurd (zL (zG (I.pin p hp).1) (by rw[z];exact hb)) (yV _)
structure Turn (P:Program) (w:World) (K:W.Frag) (tg:Expr) (J:It) (fp:List Addr) (it:Addr) (tn:Nat ->Heap ->Prop):Prop where
 mem:it∈fp
 obj:∀i h,tn i h ->∀b∈fp,∃o,h.get? b=some o/\∀v,o.data≠ .cell v
 keep:∀i h h',tn i h ->(∀b∈fp,∀o,h.get? b=some o ->h'.get? b=some o) ->tn i h'
 item:∀(X:Cx),X.prog=P ->X.w=w ->X.K=K ->X.calm=true ->∀(i:Nat) (pins:bD) (s:Shared) (σ:St) (H:Hp) (E:bL),Inv X pins σ H s ->(∀b∈fp,gF X pins H b) ->tn i s.heap ->J.go i H ->
  wpAny (model P w) X.A (pyNext (.ref it)) (fun r s1=>∃u,r=some u/\
   wpAny (model P w) X.A (letOwnedTupleGo tg (.ref it) u) (fun _ s2=>∃x H',Inv X pins σ H' s2/\RelV x u/\J.yld i H x H' /\tn (i+1) s2.heap/\∀b∈fp,H' b=none) E s1) E s
 done:∀(X:Cx),X.prog=P ->X.w=w ->X.K=K ->X.calm=true ->∀(i:Nat) (pins:bD) (s:Shared) (σ:St) (H:Hp) (E:bL),Inv X pins σ H s ->(∀b∈fp,gF X pins H b) ->tn i s.heap ->J.stop i H ->
  wpAny (model P w) X.A (pyNext (.ref it)) (fun r s1=>r=none/\Inv X pins σ H s1) E s
 self:∀(A:Around) (i:Nat) (s:Shared) (Q:bL) (E:bL),tn i s.heap ->Q (.ref it) s ->wpAny (model P w) A (pyIter (.ref it)) Q E s
abbrev TI:=St ->Hp ->(It ->Hp ->Prop) ->Prop
def PIE(X:Cx)(pins:bD)(σ:St)(tg:Expr)(R:It ->Hp ->Prop)(itv:Value)(s2:Shared):Prop:=
 ∃(it:Addr) (fp:List Addr) (tn:Nat ->Heap ->Prop) (J:It) (H' :Hp),itv= .ref it/\Inv X pins σ H' s2/\Turn X.prog X.w X.K tg J fp it tn/\tn 0 s2.heap/\ (∀b∈fp,gF X pins H' b)/\R J H'
def PI(X:Cx)(tg iter:Expr)(wi:TI):Prop:=
 ∀(pins:bD) (s:Shared) (σ:St) (H:Hp) (R:It ->Hp ->Prop),Inv X pins σ H s ->wi σ H R ->
  wpAny (model X.prog X.w) X.A (eval iter X.env) (fun v s1=>wpAny (model X.prog X.w) X.A (pyIter v) (PIE X pins σ tg R) X.xe s1) X.xe s
theorem Er{M:Model}{A:Around}{E:bL}{s:Shared}{tg:Expr}{it:Addr}{u:Value}{o:Obj}{n:String}{vs:Array Value}{Q:Unit ->Shared ->Prop}(ho:s.heap.get? it=some o)(hc:o.cls= .type n)(hd:o.data= .fields vs)
  (hn: ["enumerate","zip","dict_itemiterator","dict_reverseitemiterator","odict_iterator","itertools.zip_longest","itertools.pairwise"].contains n=false) (hQ:Q () s):wpAny M A (letOwnedTupleGo tg (.ref it) u) Q E s:=by
 unfold letOwnedTupleGo;cases tg<;>first
  | exact z9 hQ
  | (
    cases u<;>first
    | exact z9 hQ
    | (
      refine z8 (wpAny_load ho ?_);rw[hc,hd];show wpAny M A (if (["enumerate","zip","dict_itemiterator","dict_reverseitemiterator","odict_iterator","itertools.zip_longest","itertools.pairwise"].contains n&&vs[0]?==some (rawInt _))=true then _ else _) Q E s;rw[if_neg (by intro h;rw[hn,Bool.false_and] at h;cases h)]
      exact z9 hQ))
def yE(K:W.Frag)(a:Addr):It:=
 ⟨fun i H=>∃xs x,fZ K H a xs/\xs[i]?=some x,fun i H x H' =>H' =H/\∀xs,fZ K H a xs ->xs[i]?=some x,fun i H=>∃xs,fZ K H a xs/\xs.length<=i⟩
def wH(K:W.Frag)(a:Addr):It:=
 ⟨fun i H=>∃xs x,je K H a xs/\xs[i]?=some x,fun i H x H' =>H' =H/\∀xs,je K H a xs ->xs[i]?=some x,fun i H=>∃xs,je K H a xs/\xs.length<=i⟩
def uT(lo:Int)(n:Nat):It:=⟨fun i _=>i<n,fun i H x H' =>H' =H/\x= .int (lo+i),fun i _=>n<=i⟩
theorem WQ{P:Program}{w:World}{K:W.Frag}{tg:Expr}(a it:Addr):Turn P w K tg (yE K a) [it] it (fun i h=>h.IsListIter it a i) where
 mem:=by simp
 obj:=fun i h st b hb=>by
  have e:b=it:=by simpa using hb
  subst e;obtain⟨o,e,c,d⟩:=st;exact⟨o,e,fun v z=>by rw[d] at z;cases z⟩
 keep:=fun i h h' st k=>st.at fun o e=>k it (by simp) o e
 item:=by
  intro X hP hw hK hc i pins s σ H E I hf st hg;subst hP hw hK;obtain⟨xs,x,hq,hx⟩:=hg;obtain⟨its,rv,p,hz⟩:=I.list hq;obtain⟨u,hu,ru⟩:=rv.get hx;obtain⟨f0,f1,f2,f3,f4,f5⟩:=hf it (by simp)
  refine wpAny_pyNext_list_item st p.isList (x:=u) (by simpa using hu) fun h' st' sb=> ?_
  have I1:Inv X pins σ H {s with heap:=h'}:=I.turned (t' :=s.toks) (fun b o hb e=>(sb.2 b hb).trans e) f0 f1 f3 f4 f5;obtain⟨o,e,c,d⟩:=id st';exact⟨u,rfl,Er (s:={s with heap:=h'}) e c d (by decide) ⟨x,H,I1,ru,⟨rfl,fun ys hy=>by rw[I.list_inj hy hq];exact hx⟩,st',fun b hb=>(hf b hb).1⟩⟩
 done:=by
  intro X hP hw hK hc i pins s σ H E I hf st hg;subst hP hw hK;obtain⟨xs,hq,hx⟩:=hg;obtain⟨its,rv,p,hz⟩:=I.list hq;obtain⟨f0,f1,f2,f3,f4,f5⟩:=hf it (by simp)
  have hl:=rv.length;exact wpAny_pyNext_list_end (I.ok.hd hc) st p.isList (by simp;omega) fun h' eb=>⟨rfl,I.turned (t' :=s.toks) (fun b o hb e=>eb b o hb e) f0 f1 f3 f4 f5⟩
 self:=fun _ _ _ _ _ st h=>wpAny_pyIter_listiter st h
theorem WR{P:Program}{w:World}{K:W.Frag}{tg:Expr}(a it:Addr):Turn P w K tg (wH K a) [it] it (fun i h=>h.IsTupleIter it a i) where
 mem:=by simp
 obj:=fun i h st b hb=>by
  have e:b=it:=by simpa using hb
  subst e;obtain⟨o,e,c,d⟩:=st;exact⟨o,e,fun v z=>by rw[d] at z;cases z⟩
 keep:=fun i h h' st k=>st.at fun o e=>k it (by simp) o e
 item:=by
  intro X hP hw hK hc i pins s σ H E I hf st hg;subst hP hw hK;obtain⟨xs,x,hq,hx⟩:=hg;obtain⟨its,rv,p,hz⟩:=I.tuple hq;obtain⟨u,hu,ru⟩:=rv.get hx;obtain⟨f0,f1,f2,f3,f4,f5⟩:=hf it (by simp)
  refine wpAny_pyNext_tuple_item st (show s.heap.IsTuple a its.toArray from p) (x:=u) (by simpa using hu) fun h' st' sb=> ?_
  have I1:Inv X pins σ H {s with heap:=h'}:=I.turned (t' :=s.toks) (fun b o hb e=>(sb.2 b hb).trans e) f0 f1 f3 f4 f5;obtain⟨o,e,c,d⟩:=id st';exact⟨u,rfl,Er (s:={s with heap:=h'}) e c d (by decide) ⟨x,H,I1,ru,⟨rfl,fun ys hy=>by rw[I.tuple_inj hy hq];exact hx⟩,st',fun b hb=>(hf b hb).1⟩⟩
 done:=by
  intro X hP hw hK hc i pins s σ H E I hf st hg;subst hP hw hK;obtain⟨xs,hq,hx⟩:=hg;obtain⟨its,rv,p,hz⟩:=I.tuple hq;obtain⟨f0,f1,f2,f3,f4,f5⟩:=hf it (by simp)
  have hl:=rv.length;exact wpAny_pyNext_tuple_end (I.ok.hd hc) st (show s.heap.IsTuple a its.toArray from p) (by simp;omega) fun h' eb=>⟨rfl,I.turned (t' :=s.toks) (fun b o hb e=>eb b o hb e) f0 f1 f3 f4 f5⟩
 self:=fun _ _ _ _ _ st h=>wpAny_pyIter_tupleiter st h
theorem ztm{P:Program}{w:World}{K:W.Frag}{tg:Expr}(it:Addr)(lo:Int)(n:Nat):Turn P w K tg (uT lo n) [it] it (fun i h=>IsRangeIter h it (lo+ (i:Nat)*1) ((n:Int) - (i:Nat)) 1) where
 mem:=by simp
 obj:=fun i h st b hb=>by
  have e:b=it:=by simpa using hb
  subst e;exact⟨_,st,fun v z=>by
   have z' :Data.fields _=Data.cell v:=z;cases z'⟩
 keep:=fun i h h' st k=>k it (by simp) _ st
 item:=by
  intro X hP hw hK hc i pins s σ H E I hf st hg;subst hP hw hK;obtain⟨f0,f1,f2,f3,f4,f5⟩:=hf it (by simp)
  have W:=Walks.range (prog:=X.prog) (w:=X.w) (I.ok.hd hc) it lo 1 n;refine W.item i s _ _ hg st fun v h' tk hv st' kk=> ?_;obtain⟨t,rfl⟩:=hv;have I1:Inv X pins σ H {s with heap:=h',toks:=tk}:=I.turned (fun b o hb e=>kk b o (by simpa using hb) e) f0 f1 f3 f4 f5
  refine⟨_,rfl,Er (s:={s with heap:=h',toks:=tk}) (n:= "range_iterator") st' rfl rfl (by decide) ⟨.int (lo+i),H,I1,⟨t,?_⟩,⟨rfl,rfl⟩,st',fun b hb=>(hf b hb).1⟩⟩
  rw[Int.mul_one]
 done:=by
  intro X hP hw hK hc i pins s σ H E I hf st hg;subst hP hw hK;obtain⟨f0,f1,f2,f3,f4,f5⟩:=hf it (by simp)
  exact wpAny_pyNext_range_end (I.ok.hd hc) st (by have:n<=i:=hg;omega) fun h' eb=>⟨rfl,I.turned (t' :=s.toks) (fun b o hb e=>eb b o hb e) f0 f1 f3 f4 f5⟩
 self:=fun _ _ _ _ _ st h=>wpAny_pyIter_rangeiter st h
section
variable{X:Cx}{tg:Expr}
def WT(K:W.Frag)(tl:TE):TI:=fun σ H R=>tl σ H fun x H1=>∃a,x= .ref a/\ (∃xs,fZ K H1 a xs)/\R (yE K a) H1
def aaB(K:W.Frag)(tl:TE):TI:=fun σ H R=>tl σ H fun x H1=>∃a,x= .ref a/\ (∃xs,je K H1 a xs)/\R (wH K a) H1
theorem WW{pins:bD}{σ:St}{H:Hp}{s:Shared}{R:It ->Hp ->Prop}{E:bL}{lo hi:Int}{t u v:Tok}{tk:Nat}(I:Inv X pins σ H s)(h1: -(2^62)<=lo)(h2:lo<2^62)(h3: -(2^62)<=hi)(h4:hi<2^62)
  (q:R (uT lo (hi - lo).toNat) H):wpAny (model X.prog X.w) X.A (pyIter (.ref s.heap.objs.size)) (PIE X pins σ tg R) E {s with heap:=s.heap.push {cls:= .type "range",data:= .fields #[.int lo t,.int hi u,.int 1 v]},toks:=tk}:=by
 refine wpAny_pyIter_range (IsRange.new ..) (small_one h1 h2 h3 h4) ?_;have I1:Inv X pins σ H {s with heap:=s.heap.push {cls:= .type "range",data:= .fields #[.int lo t,.int hi u,.int 1 v]},toks:=tk}:=I.kept fun b o e=>zZ _ e;refine⟨(s.heap.push {cls:= .type "range",data:= .fields #[.int lo t,.int hi u,.int 1 v]}).objs.size,[(s.heap.push {cls:= .type "range",data:= .fields #[.int lo t,.int hi u,.int 1 v]}).objs.size],_,_,H,rfl,
  I1.kept (t' :=tk) fun b o e=>zZ _ e,ztm _ lo (hi - lo).toNat,?_,fun b hb=> ?_,q⟩
 ·have e1:lo+ ((0:Nat):Int)*1=lo:=by simp
  have e2:(((hi - lo).toNat:Nat):Int) - ((0:Nat):Int)=Builtin.Range.rangeSize lo hi 1:=by rw[rangeSize_one];split<;>omega
  show IsRangeIter _ _ (lo+ ((0:Nat):Int)*1) ((((hi - lo).toNat:Nat):Int) - ((0:Nat):Int)) 1;rw[e1,e2];exact zY _ rfl
 ·have e:b=(s.heap.push {cls:= .type "range",data:= .fields #[.int lo t,.int hi u,.int 1 v]}).objs.size:=by simpa using hb
  subst e;exact I1.fpOk (zM _) (I1.hok.fresh (zM _))
def Es(ta:TA):TI:=fun σ H R=>ta σ H fun vs H1=>∃j:Int,vs= [.int j]/\ -(2^62)<=j/\j<2^62/\R (uT 0 j.toNat) H1
def Et(ta:TA):TI:=fun σ H R=>ta σ H fun vs H1=>∃i j:Int,vs= [.int i,.int j]/\ (-(2^62)<=i/\i<2^62/\ -(2^62)<=j/\j<2^62)/\R (uT i (j - i).toNat) H1
theorem zuc{a:Expr}{ta:TA}{p pos:Pos}(hg:Gl X "range")(hm:X.mg "range" =none)(ha:PA X [a] ta)(hs:starEach [a] X.env= [(false,eval a X.env)]:=by rfl):PI X tg (.Call (.Name "range" p) [a] [] pos) (Es ta):=by
 intro pins s σ H R I h;refine Call_ (vB I hg hm boot_range (PyProof.Rows.callWith_type1 (bG (ha pos pins s σ H _ I h) fun us s1 ⟨vs,H1,I1,r1,q1⟩=> ?_) hs rfl));obtain⟨j,e,q1,q2,q⟩:=q1;subst e;cases r1 with
 | cons r rr=>
  cases rr;obtain⟨t,rfl⟩:=r;exact call_range_1 (WW I1 (by omega) (by omega) q1 q2 (by simpa using q))
theorem zxf{a b:Expr}{ta:TA}{p pos:Pos}(hg:Gl X "range")(hm:X.mg "range" =none)(ha:PA X [a,b] ta)(hs:starEach [a,b] X.env= [(false,eval a X.env),(false,eval b X.env)]:=by rfl)(hs2:starEach [b] X.env= [(false,eval b X.env)]:=by rfl):
  PI X tg (.Call (.Name "range" p) [a,b] [] pos) (Et ta):=by
 intro pins s σ H R I h;refine Call_ (vB I hg hm boot_range (PyProof.Rows.callWith_type1 (bG (ha pos pins s σ H _ I h) fun us s1 ⟨vs,H1,I1,r1,q1⟩=> ?_) (by rw[hs,hs2]) (by rw[hs2];rfl)))
 obtain⟨i,j,e,⟨q1,q2,q3,q4⟩,q⟩:=q1;subst e;cases r1 with
 | cons r rr=>
  cases rr with
  | cons r' rr=>
   cases rr;obtain⟨t,rfl⟩:=r;obtain⟨t',rfl⟩:=r';exact call_range_2 (WW I1 q1 q2 q3 q4 q)
def N6(wi:TI)(g:TG)(tb:TS):TS:=fun D σ H=>wi σ H fun J H1=>∃W:Nat ->Nat ->St ->Hp ->Prop,(∃m,W 0 m σ H1)/\∀i m σ H,W i m σ H ->
 (J.stop i H/\D.nx σ H)\/ (J.go i H/\∃N:St ->Hp ->Prop,(∀σ' H',N σ' H' ->∃m',m' <m/\W (i+1) m' σ' H')/\∀x H',J.yld i H x H' ->g x σ H' fun σ2 H2=>tb {D with nx:=N,ct:=N,bk:=D.nx} σ2 H2)
def lu(fp:List Addr)(h:Heap):bD:=fp.filterMap fun b=>(h.get? b).map fun o=>(b,o)
theorem JV{fp:List Addr}{h:Heap}{b:Addr}{o:Obj}(hb:b∈fp)(e:h.get? b=some o):(b,o)∈lu fp h:=List.mem_filterMap.mpr ⟨b,hb,by rw[e];rfl⟩
theorem zvh{fp:List Addr}{h:Heap}{p:Addr×Obj}(hp:p∈lu fp h):p.1∈fp/\h.get? p.1=some p.2:=by
 obtain⟨b,hb,e⟩:=List.mem_filterMap.mp hp;cases q:h.get? b with
 | none=>rw[q] at e;cases e
 | some o=>
  rw[q] at e;have e' :(b,o)=p:=zF e;subst e';exact⟨hb,q⟩
theorem Inv.pinned{pins:bD}{σ:St}{H:Hp}{s:Shared}{fp:List Addr}(I:Inv X pins σ H s)(hf:∀b∈fp,gF X pins H b)(ho:∀b∈fp,∃o,s.heap.get? b=some o/\∀v,o.data≠ .cell v):Inv X (pins++lu fp s.heap) σ H s:=
 I.pins_of fun p hp=>(zR.mp hp).elim (fun z=>I.pin p (zP _ z)) fun z=>by
  obtain⟨hb,e⟩:=zvh z;obtain⟨f0,f1,f2,_⟩:=hf p.1 hb;obtain⟨o,e',d⟩:=ho p.1 hb;rw[e] at e';cases e';exact⟨e,f0,f1,f2,d⟩
theorem Inv.unpinned{pins pl:bD}{σ:St}{H:Hp}{s:Shared}(I:Inv X (pins++pl) σ H s):Inv X pins σ H s:=I.pins_of fun p hp=>I.pin p (zP _ (zO _ hp))
theorem JW{iter:Expr}{body:List Stmt}{wi:TI}{g:TG}{tb:TS}{pos:Pos}(hp:PassesOwn (model X.prog X.w) X.A X.env X.xe)(hc:X.calm=true)(hi:PI X tg iter wi)(hg:PG X tg g)(hb:sG X body tb)
  (hs:∀x,foldedSetIterable iter X.env x=pure x:=by intro _;rfl):PS X (.For tg iter body [] pos) (N6 wi g tb):=by
 intro pins s σ H D I h;refine wpAny_For (bG (hi pins s σ H _ I h) fun v s1 h1=>bG h1 fun itv s2 h2=> ?_) hs;obtain⟨it,fp,tn,J,H2,e,I2,T,st2,f2,W,⟨m0,w0⟩,turn⟩:=h2;subst e
 
 have stat:∀{H' :Hp},(∀b∈fp,H' b=none) ->∀b∈fp,gF X pins H' b:=fun hn b hb=>⟨hn b hb,(f2 b hb).2⟩;refine codeAny_forLoop_any (fun n s' =>∃i σ' H',Inv X pins σ' H' s' /\tn i s'.heap/\ (∀b∈fp,H' b=none)/\W i n σ' H') ?_ m0 ⟨0,σ,H2,I2,st2,fun b hb=>(f2 b hb).1,w0⟩;rintro n s3 ⟨i,σ3,H3,I3,st3,WX,w3⟩;rcases turn i n σ3 H3 w3 with ⟨stop,qn⟩ | ⟨go,N,hN,step⟩
 ·refine wpAny_passesOwn hp (bG (T.done X rfl rfl rfl hc i pins s3 σ3 H3 X.xe I3 (stat WX) st3 stop) fun r s4 ⟨hr,I4⟩=> ?_);subst hr;exact wpAny_execs_nil ⟨σ3,H3,I4,qn⟩
 ·refine wpAny_passesOwn hp (bG (T.item X rfl rfl rfl hc i pins s3 σ3 H3 X.xe I3 (stat WX) st3 go) fun r s4 ⟨u,hr,h4⟩=> ?_);subst hr;refine wpAny_passesOwn hp (bG h4 fun _ s5 N7=> ?_);obtain⟨x,H5,I5,r5,y5,BR,JX⟩:=N7;have N8 :=I5.pinned (stat JX) (T.obj _ _ BR);refine wpAny_passesOwn hp (bG (hg _ s5 σ3 H5 x u _ N8 r5 (step x H5 y5)) fun _ s6 ⟨σ6,H6,I6,q6⟩=> ?_);refine wpAny_passesOwn hp (bG (hb _ s6 σ6 H6 _ I6 q6) fun f s7 q7=> ?_);have again:∀{σ7:St} {H7:Hp},Inv X (pins++lu fp s5.heap) σ7 H7 s7 ->N σ7 H7 ->∃m,m<n/\∃i σ' H',Inv X pins σ' H' s7/\tn i s7.heap/\ (∀b∈fp,H' b=none)/\W i m σ' H' :=fun{σ7 H7} I7 n7=>by
   obtain⟨m',hm,w7⟩:=hN σ7 H7 n7;refine⟨m',hm,i+1,σ7,H7,I7.unpinned,T.keep _ _ _ BR fun b hb o e=>(I7.pin (b,o) (zP _ (zP _ (JV hb e)))).1,fun b hb=> ?_,w7⟩;obtain⟨o,e,d⟩:=T.obj _ _ BR b hb;exact(I7.pin (b,o) (zP _ (zP _ (JV hb e)))).2.1
  cases f with
  | next=>obtain⟨σ7,H7,I7,n7⟩:=q7;exact again I7 n7
  | cont=>obtain⟨σ7,H7,I7,n7⟩:=q7;exact again I7 n7
  | brk=>obtain⟨σ7,H7,I7,q7⟩:=q7;exact⟨σ7,H7,I7.unpinned,q7⟩
  | ret v=>obtain⟨x7,σ7,H7,I7,r7,q7⟩:=q7;exact⟨x7,σ7,H7,I7.unpinned,r7,q7⟩
end
theorem zz7{K:W.Frag}{a:Addr}{xs:List V}{g:TG}{tb:TS}{D:Ends}{σ:St}{H:Hp}(Pv:Nat ->St ->Hp ->Prop)(h0:Pv 0 σ H)(hl:∀i σ H,i<=xs.length ->Pv i σ H ->fZ K H a xs)
  (hs:∀i x σ H,xs[i]?=some x ->Pv i σ H ->g x σ H fun σ2 H2=>tb {D with nx:=Pv (i+1),ct:=Pv (i+1),bk:=D.nx} σ2 H2) (hd:∀σ H,Pv xs.length σ H ->D.nx σ H):
  ∃W:Nat ->Nat ->St ->Hp ->Prop,(∃m,W 0 m σ H)/\∀i m σ H,W i m σ H ->
   ((yE K a).stop i H/\D.nx σ H)\/ ((yE K a).go i H/\∃N:St ->Hp ->Prop,(∀σ' H',N σ' H' ->∃m',m' <m/\W (i+1) m' σ' H')/\∀x H',(yE K a).yld i H x H' ->g x σ H' fun σ2 H2=>tb {D with nx:=N,ct:=N,bk:=D.nx} σ2 H2):=by
 refine⟨fun i m σ H=>m=xs.length - i/\i<=xs.length/\Pv i σ H,⟨xs.length,by simp,Nat.zero_le _,h0⟩,?_⟩
 rintro i m σ H ⟨rfl,hi,p⟩;have q:=hl i σ H hi p;by_cases hlt:i<xs.length
 ·refine .inr ⟨⟨xs,xs[i],q,by simp [hlt]⟩,Pv (i+1),fun σ' H' p' =>⟨xs.length - (i+1),by omega,rfl,hlt,p'⟩,fun x H' y=> ?_⟩
  obtain⟨e,y⟩:=y;subst e;exact hs i x σ _ (y xs q) p
 ·have e:i=xs.length:=by omega
  subst e;exact .inl ⟨⟨xs,q,zM _⟩,hd σ H p⟩
theorem z19{K:W.Frag}{a:Addr}{xs:List V}{g:TG}{tb:TS}{D:Ends}{σ:St}{H:Hp}(Pv:Nat ->St ->Hp ->Prop)(h0:Pv 0 σ H)(hl:∀i σ H,i<=xs.length ->Pv i σ H ->je K H a xs)
  (hs:∀i x σ H,xs[i]?=some x ->Pv i σ H ->g x σ H fun σ2 H2=>tb {D with nx:=Pv (i+1),ct:=Pv (i+1),bk:=D.nx} σ2 H2) (hd:∀σ H,Pv xs.length σ H ->D.nx σ H):
  ∃W:Nat ->Nat ->St ->Hp ->Prop,(∃m,W 0 m σ H)/\∀i m σ H,W i m σ H ->
   ((wH K a).stop i H/\D.nx σ H)\/ ((wH K a).go i H/\∃N:St ->Hp ->Prop,(∀σ' H',N σ' H' ->∃m',m' <m/\W (i+1) m' σ' H')/\∀x H',(wH K a).yld i H x H' ->g x σ H' fun σ2 H2=>tb {D with nx:=N,ct:=N,bk:=D.nx} σ2 H2):=by
 refine⟨fun i m σ H=>m=xs.length - i/\i<=xs.length/\Pv i σ H,⟨xs.length,by simp,Nat.zero_le _,h0⟩,?_⟩
 rintro i m σ H ⟨rfl,hi,p⟩;have q:=hl i σ H hi p;by_cases hlt:i<xs.length
 ·refine .inr ⟨⟨xs,xs[i],q,by simp [hlt]⟩,Pv (i+1),fun σ' H' p' =>⟨xs.length - (i+1),by omega,rfl,hlt,p'⟩,fun x H' y=> ?_⟩
  obtain⟨e,y⟩:=y;subst e;exact hs i x σ _ (y xs q) p
 ·have e:i=xs.length:=by omega
  subst e;exact .inl ⟨⟨xs,q,zM _⟩,hd σ H p⟩
theorem zud{lo:Int}{n:Nat}{g:TG}{tb:TS}{D:Ends}{σ:St}{H:Hp}(Pv:Nat ->St ->Hp ->Prop)(h0:Pv 0 σ H)
  (hs:∀i σ H,i<n ->Pv i σ H ->g (.int (lo+i)) σ H fun σ2 H2=>tb {D with nx:=Pv (i+1),ct:=Pv (i+1),bk:=D.nx} σ2 H2) (hd:∀σ H,Pv n σ H ->D.nx σ H):
  ∃W:Nat ->Nat ->St ->Hp ->Prop,(∃m,W 0 m σ H)/\∀i m σ H,W i m σ H ->
   ((uT lo n).stop i H/\D.nx σ H)\/ ((uT lo n).go i H/\∃N:St ->Hp ->Prop,(∀σ' H',N σ' H' ->∃m',m' <m/\W (i+1) m' σ' H')/\∀x H',(uT lo n).yld i H x H' ->g x σ H' fun σ2 H2=>tb {D with nx:=N,ct:=N,bk:=D.nx} σ2 H2):=by
 refine⟨fun i m σ H=>m=n - i/\i<=n/\Pv i σ H,⟨n,by simp,Nat.zero_le _,h0⟩,?_⟩
 rintro i m σ H ⟨rfl,hi,p⟩;by_cases hlt:i<n
 ·refine .inr ⟨hlt,Pv (i+1),fun σ' H' p' =>⟨n - (i+1),by omega,rfl,hlt,p'⟩,fun x H' y=> ?_⟩
  obtain⟨e,y⟩:=y;subst e y;exact hs i σ _ hlt p
 ·have e:i=n:=by omega
  subst e;exact .inl ⟨zM _,hd σ H p⟩
abbrev R2:=V ->V ->Hp ->VK ->Prop
def iH(X:Cx)(f:Value ->Value ->Sem Value)(r:R2):Prop:=
 ∀(pins:bD) (s:Shared) (σ:St) (H:Hp) (x y:V) (v u:Value) (Q:VK),Inv X pins σ H s ->RelV x v ->RelV y u ->r x y H Q ->
  wpAny (model X.prog X.w) X.A (f v u) (EP X pins σ Q) X.xe s
def Oa(X:Cx)(f:Value ->Sem Value)(r:V ->Hp ->VK ->Prop):Prop:=
 ∀(pins:bD) (s:Shared) (σ:St) (H:Hp) (x:V) (v:Value) (Q:VK),Inv X pins σ H s ->RelV x v ->r x H Q ->
  wpAny (model X.prog X.w) X.A (f v) (EP X pins σ Q) X.xe s
def cP(X:Cx)(f:Value)(r:List V ->Hp ->VK ->Prop):Prop:=
 ∀(pins:bD) (s:Shared) (σ:St) (H:Hp) (xs:List V) (us:List Value) (Q:VK),Inv X pins σ H s ->Vals xs us ->r xs H Q ->
  wpAny (model X.prog X.w) X.A (call f us) (EP X pins σ Q) X.xe s
def aaC(X:Cx)(r:V ->Hp ->(Bool ->Hp ->Prop) ->Prop):Prop:=
 ∀(pins:bD) (s:Shared) (σ:St) (H:Hp) (x:V) (v:Value) (Q:Bool ->Hp ->Prop),Inv X pins σ H s ->RelV x v ->r x H Q ->
  wpAny (model X.prog X.w) X.A (truthy v) (TP X pins σ Q) X.xe s
def Eu(r:R2)(ta tb:TE):TE:=fun σ H Q=>ta σ H fun x H1=>tb σ H1 fun y H2=>r x y H2 Q
def tUn(r:V ->Hp ->VK ->Prop)(ta:TE):TE:=fun σ H Q=>ta σ H fun x H1=>r x H1 Q
def rI(C:Int ->Int ->Prop)(g:Int ->Int ->V):R2:=fun x y H Q=>∃i j,x= .int i/\y= .int j/\C i j/\Q (g i j) H
def yF(g:Int ->Int ->V):R2:=fun x y H Q=>∃i j,x= .int i/\y= .int j/\Q (g i j) H
def rU(g:Int ->V):V ->Hp ->VK ->Prop:=fun x H Q=>∃i,x= .int i/\Q (g i) H
section
variable{X:Cx}{a b c:Expr}{ta tb tc:TE}{pos:Pos}
theorem yG(ha:PE X a ta)(hb:PE X b tb){pins:bD}{s:Shared}{σ:St}{H:Hp}{R:V ->V ->Hp ->Prop}(I:Inv X pins σ H s)
  (h:ta σ H fun x H1=>tb σ H1 fun y H2=>R x y H2) {Q:bL} {f:Value ->Value ->Sem Value}
  (hf:∀v u s2 x y H2,Inv X pins σ H2 s2 ->RelV x v ->RelV y u ->R x y H2 ->wpAny (model X.prog X.w) X.A (f v u) Q X.xe s2):
  wpAny (model X.prog X.w) X.A (eval a X.env) (fun v s₁=>wpAny (model X.prog X.w) X.A (eval b X.env) (fun u s₂=>wpAny (model X.prog X.w) X.A (f v u) Q X.xe s₂) X.xe s₁) X.xe s:=by
 refine bG (ha pins s σ H _ I h) fun v s1 Ob=> ?_;obtain⟨x,H1,I1,r1,q1⟩:=Ob;refine bG (hb pins s1 σ H1 _ I1 q1) fun u s2 Oc=> ?_;obtain⟨y,H2,I2,r2,q2⟩:=Oc;exact hf v u s2 x y H2 I2 r1 r2 q2
theorem WY{op:Operator}{r:R2}(ho:iH X (binaryOp op) r)(ha:PE X a ta)(hb:PE X b tb):PE X (.BinOp a op b pos) (Eu r ta tb):=by
 intro pins s σ H Q I h;exact wpAny_BinOp (yG ha hb I h fun v u s2 x y H2 I2 rx ry q=>ho pins s2 σ H2 x y v u Q I2 rx ry q)
theorem W0{op:UnaryOp}{r:V ->Hp ->VK ->Prop}(ho:Oa X (unaryOp op) r)(ha:PE X a ta):PE X (.UnaryOp op a pos) (tUn r ta):=by
 intro pins s σ H Q I h;exact UnaryOp_ (bG (ha pins s σ H _ I h) fun v s1 Od=>by obtain⟨x,H1,I1,r1,q1⟩:=Od;exact ho pins s1 σ H1 x v Q I1 r1 q1)
theorem JZ{f:Value ->Value ->Sem Value}{C:Int ->Int ->Prop}{g:Int ->Int ->Int}
  (rule:∀(i j:Int) (t u:Tok) (s:Shared) (Q:bL) (E:bL),C i j ->Q (.int (g i j) s.toks) {s with toks:=s.toks+1} ->wpAny (model X.prog X.w) X.A (f (.int i t) (.int j u)) Q E s):
  iH X f (rI C fun i j=> .int (g i j)):=by
 intro pins s σ H x y v u Q I rx ry h;obtain⟨i,j,rfl,rfl,hc,q⟩:=h;obtain⟨t,rfl⟩:=rx;obtain⟨t',rfl⟩:=ry;exact rule i j t t' s _ _ hc ⟨.int (g i j),H,I.tok _,⟨_,rfl⟩,q⟩
theorem Ew{f:Value ->Value ->Sem Value}{g:Int ->Int ->Int}
  (rule:∀(i j:Int) (t u:Tok) (s:Shared) (Q:bL) (E:bL),Q (.int (g i j) s.toks) {s with toks:=s.toks+1} ->wpAny (model X.prog X.w) X.A (f (.int i t) (.int j u)) Q E s):
  iH X f (yF fun i j=> .int (g i j)):=by
 intro pins s σ H x y v u Q I rx ry h;obtain⟨i,j,rfl,rfl,q⟩:=h;obtain⟨t,rfl⟩:=rx;obtain⟨t',rfl⟩:=ry;exact rule i j t t' s _ _ ⟨.int (g i j),H,I.tok _,⟨_,rfl⟩,q⟩
theorem Ey{f:Value ->Value ->Sem Value}{g:Int ->Int ->Bool}
  (rule:∀(i j:Int) (t u:Tok) (s:Shared) (Q:bL) (E:bL),Q (.bool (g i j)) s ->wpAny (model X.prog X.w) X.A (f (.int i t) (.int j u)) Q E s):
  iH X f (yF fun i j=> .bl (g i j)):=by
 intro pins s σ H x y v u Q I rx ry h;obtain⟨i,j,rfl,rfl,q⟩:=h;obtain⟨t,rfl⟩:=rx;obtain⟨t',rfl⟩:=ry;exact rule i j t t' s _ _ ⟨.bl (g i j),H,I,rfl,q⟩
def aaD(i j:Int):Prop:=0<j/\j<1073741824
def W3(i j:Int):Prop:=j≠0/\j.natAbs<1073741824
def yH(i j:Int):Prop:=0<=j/\j<=1000000/\i.natAbs<2^64
def aaE(i j:Int):Prop:=(-(2^64)<i/\i<2^64)\/ (-(2^64)<j/\j<2^64)
theorem z4a:iH X (binaryOp .Add) (yF fun i j=> .int (i+j)):=Ew fun _ _ _ _ _ _ _ q=>add_int q
theorem z5s:iH X (binaryOp .Sub) (yF fun i j=> .int (i - j)):=Ew fun _ _ _ _ _ _ _ q=>sub_int q
theorem z2x:iH X (binaryOp .Mod) (rI (fun _ j=>j≠0) fun i j=> .int (i.fmod j)):=JZ fun _ _ _ _ _ _ _ hc q=>mod_int' hc q
theorem z54:iH X (binaryOp .Pow) (rI yH fun i j=> .int (i^j.toNat)):=JZ fun _ _ _ _ _ _ _ hc q=>pow_int_small hc.1 hc.2.1 hc.2.2 q
theorem unI{f:Value ->Sem Value}{g:Int ->Int}
  (rule:∀(i:Int) (t:Tok) (s:Shared) (Q:bL) (E:bL),Q (.int (g i) s.toks) {s with toks:=s.toks+1} ->wpAny (model X.prog X.w) X.A (f (.int i t)) Q E s):
  Oa X f (rU fun i=> .int (g i)):=by
 intro pins s σ H x v Q I rx h;obtain⟨i,rfl,q⟩:=h;obtain⟨t,rfl⟩:=rx;exact rule i t s _ _ ⟨.int (g i),H,I.tok _,⟨_,rfl⟩,q⟩
theorem W4:Oa X (unaryOp .USub) (rU fun i=> .int (-i)):=unI fun _ _ _ _ _ q=>neg_int q
end
def Ez:V ->V ->Bool
 | .non,.non=>true | .non,.int _=>true | .int _,.non=>true | .non,.bl _=>true | .bl _,.non=>true | .non,.str _=>true | .str _,.non=>true
 | .int _,.int _=>true | .bl _,.bl _=>true | .str _,.str _=>true | .yr _,.yr _=>true
 | .int _,.str _=>true | .str _,.int _=>true | .bl _,.str _=>true | .str _,.bl _=>true
 | _,_=>false
def rEq:R2:=fun x y H Q=>Ez x y=true/\Q (.bl (decide (x=y))) H
def rNe:R2:=fun x y H Q=>Ez x y=true/\Q (.bl (!decide (x=y))) H
section
variable{X:Cx}{a b c:Expr}{ta tb tc:TE}{pos:Pos}
theorem z64:iH X (compareOp .Lt) (yF fun i j=> .bl (decide (i<j))):=Ey fun _ _ _ _ _ _ _ q=>lt_int q
theorem z67:iH X (compareOp .Gt) (yF fun i j=> .bl (decide (j<i))):=Ey fun _ _ _ _ _ _ _ q=>gt_int q
def isObj:HO ->Bool
 | .lst _=>true
 | .ins _ _ _=>true
 | _=>false
theorem aL(b:Expr){op:CmpOp}(h:op≠ .In:=by decide)(h2:op≠ .NotIn:=by decide):behindInMarks op b=false:=by
 have e1:(op==CmpOp.In)=false:=by cases op<;>first | rfl | exact absurd rfl h
 have e2:(op==CmpOp.NotIn)=false:=by cases op<;>first | rfl | exact absurd rfl h2
 cases b<;>simp [behindInMarks,e1,e2]
theorem z1u{op:CmpOp}{r:R2}(ho:iH X (compareOp op) r)(ha:PE X a ta)(hb:PE X b tb)(hm:behindInMarks op b=false):PE X (.Compare a [op] [b] pos) (Eu r ta tb):=by
 intro pins s σ H Q I h;exact wpAny_Compare1 (yG ha hb I h fun v u s2 x y H2 I2 rx ry q=>ho pins s2 σ H2 x y v u Q I2 rx ry q) hm
def EY(t:TE):TT:=fun σ H Q=>t σ H fun x H' =>∃k,x= .bl k/\Q k H'
theorem z23{op:CmpOp}{r:R2}(ho:iH X (compareOp op) r)(ha:PE X a ta)(hb:PE X b tb)(hm:behindInMarks op b=false):PT X (.Compare a [op] [b] pos) (EY (Eu r ta tb)):=by
 intro pins s σ H Q I h;refine wpAny_isTrue_Compare1 (bG (ha pins s σ H _ I h) fun v s1 ⟨x,H1,I1,r1,q1⟩=>bG (hb pins s1 σ H1 _ I1 q1) fun u s2 ⟨y,H2,I2,r2,q2⟩=>
  bG (ho pins s2 σ H2 x y v u _ I2 r1 r2 q2) fun c s3 ⟨z,H3,I3,r3,k,e,q3⟩=> ?_) hm
 subst e;cases r3;exact wpAny_truthy_bool ⟨H3,I3,q3⟩
def Oe(r r' :R2)(ta tb tc:TE):TE:=fun σ H Q=>ta σ H fun x H1=>tb σ H1 fun y H2=>r x y H2 fun z H3=>∃k,z= .bl k/\
 (if k=true then tc σ H3 fun w' H4=>r' y w' H4 Q else Q (.bl false) H3)
def aaF(K:W.Frag)(x:V)(H:Hp)(k:Bool):Prop:=
 match x with
 | .non=>k=false
 | .bl b=>k=b
 | .int i=>k=(i !=0)
 | .str y=>y.length<=sizeLine/\k=((y.length:Int) !=0)
 | .yr y=>y.size<=sizeLine/\k=((y.size:Int) !=0)
 | .ref p=>(∃xs,fZ K H p xs/\k= !xs.isEmpty)\/ (∃xs,je K H p xs/\k= !xs.isEmpty)\/∃kvs,H p=some (.dK kvs)/\k= !kvs.isEmpty
 | _=>False
theorem jD:(sizeLine:Nat)<2^63:=by rw[sizeLine_eq];decide
theorem ztv:iH X (binaryOp .Add) (fun x y H Q=>∃i j,x= .str i/\y= .str j/\i.length+j.length<=sizeLine/\Q (.str (i++j)) H):=by
 intro pins s σ H x y v u Q I rx ry h;obtain⟨i,j,rfl,rfl,hz,q⟩:=h;obtain⟨t,rfl⟩:=rx;obtain⟨t',rfl⟩:=ry;exact add_str (fun t' tk=>⟨.str (i++j),H,I.tok _,⟨_,rfl⟩,q⟩) hz
def z6j(b:Expr):Prop:=∀o i,subscripted b false o i=operate [o,i] (getItem o i)
theorem vals1{x:V}{us:List Value}(r:Vals [x] us):∃u,us= [u]/\RelV x u:=by
 cases r with
 | cons r1 r2=>cases r2;exact⟨_,rfl,r1⟩
theorem vals2{x y:V}{us:List Value}(r:Vals [x,y] us):∃u w',us= [u,w']/\RelV x u/\RelV y w' :=by
 cases r with
 | cons r1 r2=>
  cases r2 with
  | cons r3 r4=>cases r4;exact⟨_,_,rfl,r1,r3⟩
theorem zyx:cP X (.builtin "abs") (fun xs H Q=>∃i,xs= [.int i]/\Q (.int (if i<0 then -i else i)) H):=by
 intro pins s σ H xs us Q I r h;obtain⟨i,rfl,q⟩:=h;obtain⟨u,rfl,t,rfl⟩:=vals1 r;exact call_abs_int fun u tk=>⟨.int (if i<0 then -i else i),H,I.tok _,⟨_,rfl⟩,q⟩
def aaG(K:W.Frag)(x:V)(H:Hp)(n:Nat):Prop:=
 match x with
 | .str y=>y.length<=sizeLine/\n=y.length
 | .yr y=>y.size<=sizeLine/\n=y.size
 | .ref p=>(∃xs,fZ K H p xs/\n=xs.length)\/∃xs,je K H p xs/\n=xs.length
 | _=>False
end
structure yI (h:Heap) (x dx C:Addr) (mA:Str ->Option Value):Prop where
 obj:h.get? x=some (W.instObj C dx)
 ns:h.Ns1 dx mA
 ne:dx≠x
theorem zuh{h:Heap}{dx:Addr}{mA:Str ->Option Value}(n:h.Ns1 dx mA):∃od,h.get? dx=some od/\∀name,W.lookIn name od=some (mA name):=by
 obtain⟨o,es,ep,ho,hd,hk,_,hm⟩:=n;refine⟨o,ho,fun name=> ?_⟩;have e:=hm name;unfold nsFind findBy at e;rw[<- Array.find?_toList] at e;unfold W.lookIn;rw[hd];dsimp only;split
 ·rename_i y q;rw[q] at e;exact congrArg some e
 ·rename_i q;rw[q] at e;have a:es.toList.any (·.refKey)=false:=by
   rw[List.any_eq_false];intro y hy;obtain⟨z,t,hkey⟩:=hk y (Array.mem_toList_iff.mp hy);simp [DictEntry.refKey,hkey]
  have a' :¬es.toList.any (·.refKey)=true:=by rw[a];exact zH
  rw[if_neg a'];exact congrArg some e
theorem yI.look{h:Heap}{x dx C:Addr}{mA:Str ->Option Value}(I:yI h x dx C mA):∃od,W.InstAt h x (W.instObj C dx) C (some od)/\∀name,W.lookIn name od=some (mA name):=
 let ⟨od,ho,hl⟩:=zuh I.ns
 ⟨od,⟨I.obj,rfl,rfl,ho⟩,hl⟩
section
variable{prog:Program}{w:World}{A:Around}{E:bL}{s:Shared}{K:W.Frag}{x dx C f:Addr}{mA:Str ->Option Value}{name:Str}{v:Value}
end
def yJ(f:Str)(v:V):List (Str×V) ->List (Str×V)
 | []=> [(f,v)]
 | (g,x)::r=>if g=f then(g,v)::r else(g,x)::yJ f v r
theorem jC.some_of{v:V}{o:Option Value}(r:jC (some v) o):∃u,o=some u/\RelV v u:=by
 cases o with
 | none=>exact(show False from r).elim
 | some u=>exact⟨u,rfl,r⟩
section
variable{P:Program}{w:World}{H H' :Hp}{h h' :Heap}{a C dx:Addr}{fs fs' :List (Str×V)}
theorem z2j(hok:ig P w H h)(e:H a=some (.ins C dx fs)):∃mA,yI h a dx C mA/\ (∀f,jC (fs.lookup f) (mA f))/\PySem.Within mA (fs.map (·.1))/\fs.length<=1000/\H dx=some (.own a):=by
 obtain⟨d,z,ne,ob,mA,n,r,q⟩:=(show aV P w H h a (.ins C dx fs) from hok a _ e);exact⟨mA,⟨ob,n,ne⟩,r,q,z,d⟩
end
structure Cls (K:W.Frag) (C:Addr):Prop where
 pg:W.plainGet K C Str.empty=true
 hd:W.hasDictIn K C=true
 po:W.plainOver K C=true
 sa:W.findIn K (.ref C) "__setattr__" =some (some (.builtin "object.__setattr__"))
theorem Cls.get{K:W.Frag}{C:Addr}(c:Cls K C)(f:Str):W.plainGet K C f=true:=c.pg
def pQ(K:W.Frag)(C:Addr)(f:Str):Prop:=W.findIn K (.ref C) f=some none
structure Con (K:W.Frag) (C:Addr) (f:Str) (v:V) (u:Value):Prop where
 at_:W.findIn K (.ref C) f=some (some u)
 rel:RelV v u
 get:W.specialIn K u "__get__" =some none
 cp:W.copiedNames.contains f=false
structure Meth (K:W.Frag) (C:Addr) (m:Str) (f:Addr):Prop where
 at_:W.findIn K (.ref C) m=some (some (.ref f))
 fn:W.isFn K (.ref f)=true
 kp:W.keepIn K (.ref f)=true
section
variable{X:Cx}{pins:bD}{σ:St}{H:Hp}{s:Shared}{a C dx:Addr}{fs:List (Str×V)}{f:Str}{v:V}{A:Around}{E:bL}
end
def aaH(K:W.Frag)(ta:TE)(f:Str):TE:=fun σ H Q=>ta σ H fun x H1=>∃a C dx fs v,x= .ref a/\H1 a=some (.ins C dx fs)/\Cls K C/\pQ K C f/\fs.lookup f=some v/\Q v H1
def aaI(K:W.Frag)(ta:TE)(f:Str):TE:=fun σ H Q=>ta σ H fun x H1=>∃a C dx fs v u,x= .ref a/\H1 a=some (.ins C dx fs)/\Cls K C/\Con K C f v u/\fs.lookup f=none/\Q v H1
def aaJ(K:W.Frag)(ta tv:TE)(f:Str):TS:=fun D σ H=>tv σ H fun y H1=>ta σ H1 fun x H2=>∃a C dx fs,x= .ref a/\H2 a=some (.ins C dx fs)/\Cls K C/\pQ K C f/\fs.length<1000/\
 D.nx σ (upd H2 a (.ins C dx (yJ f y fs)))
def aaK(X:Cx)(op:Operator)(rd:V ->V ->Hp ->VK ->Prop):Prop:=
 ∀(pins:bD) (s:Shared) (σ:St) (H:Hp) (x y:V) (u v:Value) (Q:VK),Inv X pins σ H s ->RelV x u ->RelV y v ->rd x y H Q ->wpAny (model X.prog X.w) X.A (inplaceOp op u v) (EP X pins σ Q) X.xe s
def z7e(K:W.Frag)(ta tv:TE)(rd:V ->V ->Hp ->VK ->Prop)(f:Str):TS:=fun D σ H=>ta σ H fun x H1=>∃a C dx fs v,x= .ref a/\H1 a=some (.ins C dx fs)/\Cls K C/\pQ K C f/\fs.lookup f=some v/\
 tv σ H1 fun y H2=>rd v y H2 fun z H3=>∃W5 fs',H3 a=some (.ins C W5 fs')/\fs'.length<1000/\D.nx σ (upd H3 a (.ins C W5 (yJ f z fs')))
section
variable{X:Cx}{o e value:Expr}{f:Str}{pos pos' tpos:Pos}{ta tv:TE}
def aaL:V ->V ->Hp ->VK ->Prop:=fun x y H Q=>∃i j,x= .int i/\y= .int j/\Q (.int (i+j)) H
def aaM:V ->V ->Hp ->VK ->Prop:=fun x y H Q=>∃i j,x= .int i/\y= .int j/\Q (.int (i - j)) H
end
section
variable{X:Cx}{pins:bD}{σ:St}{H:Hp}{s:Shared}{A:Around}{E:bL}{Q:bL}{c:Value}{b:Bool}
inductive j6 (K:W.Frag) (H:Hp):V ->Value ->Prop where
 | non:j6 K H .non (.type "NoneType")
 | bl (x:Bool):j6 K H (.bl x) (.type "bool")
 | int (i:Int):j6 K H (.int i) (.type "int")
 | str (x:Str):j6 K H (.str x) (.type "str")
 | flt (x:UInt64):j6 K H (.flt x) (.type "float")
 | lst {a:Addr} {xs:List V} (e:H a=some (.lst xs)):j6 K H (.ref a) (.type "list")
 | frz {a:Addr} {o:Obj} {xs:List V} (e:H a=some (.frz o (.lst xs))):j6 K H (.ref a) (.type "list")
 | tup {a:Addr} {xs:List V} (e:H a=some (.tup xs)):j6 K H (.ref a) (.type "tuple")
 | dK {a:Addr} {kvs:List (Key×V)} (e:H a=some (.dK kvs)):j6 K H (.ref a) (.type "dict")
 | dT {a:Addr} {kvs:List (List Key×V)} (e:H a=some (.dT kvs)):j6 K H (.ref a) (.type "dict")
 | ins {a C dx:Addr} {fs:List (Str×V)} (e:H a=some (.ins C dx fs)) (cl:Cls K C) (ha:W.findIn K (.ref C) "__class__" =some (some (.builtin "object.__class__")))
   (hn:W.specialIn K (.builtin "object.__class__") "__get__" =some (some (.builtin "getset_descriptor.__get__"))) (htk:W.takesIn K (.builtin "object.__class__")=some true)
   (hm:W.mroIn K C (.type "object")=some true):j6 K H (.ref a) (.ref C)
theorem J0{x:V}{u t:Value}(I:Inv X pins σ H s)(rx:RelV x u)(ty:j6 X.K H x t)(e:W.kitOne X.K t c=some b)(h:∀tk,Q (.bool b) {s with toks:=tk}):
  wpAny (model X.prog X.w) A (call (.builtin "isinstance") [u,c]) Q E s:=by
 cases ty with
 | non=>cases (show u=Value.none from rx);exact W.kia_one W.kitx_none I.kIn True.intro e (fun z=>nomatch z) h
 | bl y=>cases (show u=Value.bool y from rx);exact W.kia_one W.kitx_bool I.kIn True.intro e (fun z=>nomatch z) h
 | int i=>obtain⟨t,q⟩:=(show∃t,u=Value.int i t from rx);cases q;exact W.kia_one W.kitx_int I.kIn True.intro e (fun z=>nomatch z) h
 | str y=>obtain⟨t,q⟩:=(show∃t,u=Value.str y t from rx);cases q;exact W.kia_one W.kitx_str I.kIn True.intro e (fun z=>nomatch z) h
 | flt y=>obtain⟨t,q⟩:=(show∃t,u=Value.float y t from rx);cases q;exact W.kia_one W.kitx_float I.kIn True.intro e (fun z=>nomatch z) h
 | @lst a xs ea=>
  cases (show u=Value.ref a from rx);obtain⟨_,_,n,_,h1⟩:=(show aV X.prog X.w H s.heap a (.lst xs) from I.hok a _ ea);exact W.kia_one W.kitx_list I.kIn ⟨_,h1,rfl⟩ e (fun z=>nomatch z) h
 | @frz a ob xs ea=>
  cases (show u=Value.ref a from rx);obtain⟨_,_,_,n,_,h1⟩:=(show aV X.prog X.w H s.heap a (.frz ob (.lst xs)) from I.hok a _ ea);exact W.kia_one W.kitx_list I.kIn ⟨_,h1,rfl⟩ e (fun z=>nomatch z) h
 | @tup a xs ea=>
  cases (show u=Value.ref a from rx);obtain⟨_,_,_,p⟩:=(show aV X.prog X.w H s.heap a (.tup xs) from I.hok a _ ea);obtain⟨o,h1,h2,_⟩:=p;exact W.kia_one W.kitx_tuple I.kIn ⟨o,h1,h2⟩ e (fun z=>nomatch z) h
 | @dK a kvs ea=>
  cases (show u=Value.ref a from rx);obtain⟨_,_,vs,_,p⟩:=(show aV X.prog X.w H s.heap a (.dK kvs) from I.hok a _ ea);obtain⟨o,es,ep,h1,h2,_⟩:=p;exact W.kia_one W.kitx_dict I.kIn ⟨o,h1,h2.1⟩ e (fun z=>nomatch z) h
 | @dT a kvs ea=>
  cases (show u=Value.ref a from rx);obtain⟨_,_,xs,_,o,es,ep,h1,h2,_⟩:=(show aV X.prog X.w H s.heap a (.dT kvs) from I.hok a _ ea);exact W.kia_one W.kitx_dict I.kIn ⟨o,h1,h2.1⟩ e (fun z=>nomatch z) h
 | @ins a C dx fs ea cl ha hn htk hm=>
  cases (show u=Value.ref a from rx);obtain⟨mA,O,_⟩:=z2j I.hok ea;obtain⟨od,J,_⟩:=O.look;exact W.kia_one (W.kitx_own (cl.get _) cl.hd ha hn htk hm) I.kIn J e (fun z=>nomatch z) h
end
structure fB (k:Nat) (A:Around):Prop where
 hd:A.handled=none
 dp:A.depth+3*k+5<recursionLimit
 un:A.units+16*k+200<cLine
theorem fB.mono{j k:Nat}{A:Around}(r:fB k A)(h:j<=k):fB j A:=⟨r.hd,by have:=r.dp;omega,by have:=r.un;omega⟩
theorem fB.deeper{k:Nat}{A:Around}(r:fB (k+1) A)(env:Env):fB k (A.deeper env):=
 ⟨r.hd,by have:=r.dp;show A.depth+1+3*k+5<_;omega,by have:=r.un;show A.units+3+16*k+200<_;omega⟩
theorem fB.depth{k:Nat}{A:Around}(r:fB k A):A.depth<recursionLimit:=by have:=r.dp;omega
theorem fB.units{k:Nat}{A:Around}(r:fB k A):A.units+64<cLine:=by have:=r.un;omega
def Og:TA:=fun _ H Q=>Q [] H
def Fb(ta:TE)(tr:TA):TA:=fun σ H Q=>ta σ H fun x H1=>tr σ H1 fun xs H2=>Q (x::xs) H2
section
variable{X:Cx}{e:Expr}{es:List Expr}{te:TE}{t:TA}{pos:Pos}
theorem Oh:PA X [] Og:=fun _ _ _ _ H Q I h=>Calls.spliced_nil ⟨[],H,I,.nil,h⟩
theorem J1(ha:PE X e te)(hr:PA X es t)(hs:starEach (e::es) X.env=(false,eval e X.env)::starEach es X.env:=by rfl):PA X (e::es) (Fb te t):=by
 intro pos pins s σ H Q I h;rw[hs];show wpAny _ _ (spliced ((false,eval e X.env)::backTo pos (starEach es X.env))) _ _ s;refine Calls.spliced_cons (bG (ha pins s σ H _ I h) fun u s1 Oi=> ?_);obtain⟨x,H1,I1,r1,q1⟩:=Oi;exact bG (hr pos pins s1 σ H1 _ I1 q1) fun us s2 Oj=>by obtain⟨xs,H2,I2,r2,q2⟩:=Oj;exact⟨x::xs,H2,I2,.cons r1 r2,q2⟩
def Ol(t:TA):TE:=fun σ H Q=>t σ H fun xs H1=>xs.length<=sizeLine/\∀p,H1 p=none ->Q (.ref p) (upd H1 p (.tup xs))
def Om(t:TA):TE:=fun σ H Q=>t σ H fun xs H1=>xs.length<=sizeLine/\∀p,H1 p=none ->Q (.ref p) (upd H1 p (.lst xs))
theorem z5o{x1}(h:PA X es t):PE X (.Tuple es x1 pos) (Ol t):=by
 intro pins s σ H Q I hq;refine wpAny_Tuple_spliced (bG (h pos pins s σ H _ I hq) fun us s1 ⟨xs,H1,I1,r,z,q⟩=>⟨by rw[<- r.length];exact z,?_⟩)
 have hf:H1 s1.heap.objs.size=none:=I1.hok.fresh (zM _);refine⟨.ref s1.heap.objs.size,upd H1 s1.heap.objs.size (.tup xs),I1.laid (t' :=s1.toks) (fun b u e=>zZ _ e) (zM _) ?_,rfl,q _ hf⟩;exact⟨z,us,r,⟨_,zY _ rfl,rfl,_,rfl⟩⟩
theorem z4w(h:PA X es t):PE X (.List es pos) (Om t):=by
 intro pins s σ H Q I hq;refine wpAny_List_spliced (bG (h pos pins s σ H _ I hq) fun us s1 ⟨xs,H1,I1,r,z,q⟩=>⟨by rw[<- r.length];exact z,?_⟩)
 have hf:H1 s1.heap.objs.size=none:=I1.hok.fresh (zM _);refine⟨.ref s1.heap.objs.size,upd H1 s1.heap.objs.size (.lst xs),I1.laid (t' :=s1.toks) (fun b u e=>zZ _ e) (zM _) ?_,rfl,q _ hf⟩;exact⟨z,us,0,r,zY _ rfl⟩
end
abbrev Sp:=List V ->Hp ->VK ->XK ->Prop
abbrev rA:=List Env ->Hp ->Shared ->XK ->Value ->Shared ->Prop
structure vH (P:Program) (w:World) (K:W.Frag) (mg:Str ->Option Value) (base:Heap) (A:Around) (outer:List Env) (s:Shared) (H:Hp):Prop where
 frames:A.frames=some outer
 mod:Mod K mg base
 bs:∀b o,base.get? b=some o ->s.heap.get? b=some o/\H b=none
 BP:base.objs.size<=s.heap.objs.size
 funs:s.heap.FunFrames base outer
 Ed:∀b∈frs outer,H b=none
 hok:ig P w H s.heap
 bare:AllBare s.gens
def CE(outer:List Env)(P:Program)(w:World)(H:Hp)(s:Shared)(Q:VK)(u:Value)(s' :Shared):Prop:=
 ∃v H',s'.os=s.os/\AllBare s'.gens/\Un (frs outer) [] H H' s.heap s'.heap/\ig P w H' s'.heap/\RelV v u/\Q v H'
def CR(CX:rA)(outer:List Env)(P:Program)(w:World)(H:Hp)(s:Shared)(Q:VK)(E:XK)(r:Result)(s' :Shared):Prop:=
 match r with
 | .ok (.ret u)=>CE outer P w H s Q u s'
 | .ok _=>False
 | .error e=>CX outer H s E e s'
structure eY (P:Program) (w:World) (K:W.Frag) (mg:Str ->Option Value) (base:Heap) (CX:rA) (k:Nat) (f:Addr) (fd:FuncData) (ps:List Str) (sp:Sp):Prop where
 len:∀vs H Q E,sp vs H Q E ->vs.length=ps.length
 run:∀(A:Around) (outer:List Env) (s:Shared) (H:Hp) (args:Args) (us:List Value) (vs:List V) (Q:VK) (E:XK),fB k A ->vH P w K mg base A outer s H ->BindsTo s fd args (ps.zip us) ->Vals vs us ->sp vs H Q E ->
  codeAny (model P w) A (.call (.ref f) args) (CR CX outer P w H s Q E) s
theorem eY.imp{P:Program}{w:World}{K:W.Frag}{mg:Str ->Option Value}{base:Heap}{CX:rA}{k:Nat}{f:Addr}{fd:FuncData}{ps:List Str}{sp W6 :Sp}(F:eY P w K mg base CX k f fd ps sp)
  (h:∀vs H Q E,W6 vs H Q E ->sp vs H Q E):eY P w K mg base CX k f fd ps W6 :=
 ⟨fun vs H Q E q=>F.len vs H Q E (h _ _ _ _ q),fun A outer s H args us vs Q E hr he hb hv hs=>F.run A outer s H args us vs Q E hr he hb hv (h _ _ _ _ hs)⟩
section
variable{X:Cx}{pins:bD}{σ:St}{H:Hp}{s s' :Shared}
theorem Inv.env0(I:Inv X pins σ H s):vH X.prog X.w X.K X.mg X.base X.A X.stack s H:=
 ⟨I.ok.frames,I.ok.mod,I.bs,zN I.ok.BP I.sz,I.stack,I.stkFree,I.hok,I.bare⟩
theorem Inv.after{Q:VK}{u:Value}(I:Inv X pins σ H s)(h:CE X.stack X.prog X.w H s Q u s'):EP X pins σ Q u s' :=by
 obtain⟨v,H',os,bare,un,hok,r,q⟩:=h;obtain⟨hh,g,d,t,os'⟩:=s';obtain rfl:os' =s.os:=os;exact⟨v,H',I.call (h' :=hh) (g' :=g) (d' :=d) (t' :=t) (ch:= []) un hok bare (fun b z=>absurd z (by simp)),r,q⟩
end
def W7(sp:Sp)(BX:List V)(E:XK)(t:TA):TE:=fun σ H Q=>t σ H fun vs H1=>sp (vs++BX) H1 Q E
def W8(C:Addr)(m:Str)(sp:Sp)(BX:List V)(E:XK)(ta:TE)(t:TA):TE:=fun σ H Q=>ta σ H fun x H1=>∃a dx fs,x= .ref a/\H1 a=some (.ins C dx fs)/\fs.lookup m=none/\
 t σ H1 fun vs H2=>sp (x::(vs++BX)) H2 Q E
def W9(C:Addr)(sp:Sp)(BX:List V)(E:XK)(t:TA):TE:=fun σ H Q=>t σ H fun vs H1=>∀x dx,H1 x=none ->H1 dx=none ->dx≠x ->
 sp (.ref x::(vs++BX)) (upd (upd H1 dx (.own x)) x (.ins C dx [])) (fun v H2=>v= .non/\Q (.ref x) H2) E
def Binds(K:W.Frag)(fd:FuncData)(ps:List Str)(ds:List Value):Prop:=
 ∀(s:Shared) (us:List Value),K.In s.heap ->(us++ds).length=ps.length ->BindsTo s fd ⟨us,[]⟩ (ps.zip (us++ds))
theorem Binds.all{K:W.Frag}{fd:FuncData}{ps:List Str}(h:∀us:List Value,us.length=ps.length ->bindArgs fd ⟨us,[]⟩=pure (ps.zip us)):Binds K fd ps []:=fun s us _ hl=>by
 rw[List.append_nil] at hl⊢;exact .of_eq (h us hl)
def Passes(CX:rA)(X:Cx)(E:XK):Prop:=∀(pins:bD) (σ:St) (H:Hp) (s:Shared) (e:Value) (s' :Shared),Inv X pins σ H s ->CX X.stack H s E e s' ->X.xe e s'
section
variable{X:Cx}{CX:rA}{k:Nat}{f C:Addr}{fd:FuncData}{ps:List Str}{sp:Sp}{BX:List V}{ds:List Value}{E:XK}{x m:Str}{p pos apos:Pos}{e o:Expr}{es:List Expr}{ta:TE}{t:TA}
structure Mk (K:W.Frag) (C f:Addr):Prop where
 makes:W.makesIn K C=true
 init:W.findIn K (.ref C) "__init__" =some (some (.ref f))
 fn:W.isFn K (.ref f)=true
 kp:W.keepIn K (.ref C)=true
end
def PK(X:Cx)(kws:List Keyword)(t:TA):Prop:=
 ∀(pos:Pos) (pins:bD) (s:Shared) (σ:St) (H:Hp) (Q:List V ->Hp ->Prop),Inv X pins σ H s ->t σ H Q ->wpAny (model X.prog X.w) X.A (evalAll ((backToKw pos (keywordEach kws X.env)).map (·.2))) (AP X pins σ Q) X.xe s
section
variable{X:Cx}{CX:rA}{k:Nat}{f C:Addr}{fd:FuncData}{ps ks:List Str}{sp:Sp}{E:XK}{x m:Str}{p pos apos kpos:Pos}{e o:Expr}{es:List Expr}{kws:List Keyword}{te ta:TE}{t tk:TA}{nm:Option Str}
structure Oo (K:W.Frag) (fd:FuncData) (ps ks:List Str) (g:List Value ->List Value ->List Value) (gV:List V ->List V ->List V):Prop where
 to:∀(s:Shared) (us ws:List Value),K.In s.heap ->(g us ws).length=ps.length ->BindsTo s fd ⟨us,ks.zip ws⟩ (ps.zip (g us ws))
 rel:∀{vs:List V} {us:List Value} {zs:List V} {ws:List Value},Vals vs us ->Vals zs ws ->Vals (gV vs zs) (g us ws)
def Oq(sp:Sp)(gV:List V ->List V ->List V)(E:XK)(t tk:TA):TE:=fun σ H Q=>t σ H fun vs H1=>tk σ H1 fun zs H2=>sp (gV vs zs) H2 Q E
variable{g:List Value ->List Value ->List Value}{gV:List V ->List V ->List V}
end
structure aD (N P:List Str) (sc:Scope):Prop where
 kind:sc.kind= .function
 co:sc.isCoroutine=false
 gen:sc.isGenerator=false
 nd:N.Nodup
 pre:N.take P.length=P
 par:∀x∈P,sc.names.lookup x=some .local\/sc.names.lookup x=some .cell
 nofree:∀y∈sc.names,y.2≠ .free
theorem Xa{kindOf:Str ->Option NameKind}{x:Str}:∀{binds:List (Str×Value)} {m:Str ->Option Value},(∀v,(x,v)∉binds) ->bindL kindOf binds m x=m x
 | [],_,_=>rfl
 | (n,v)::r,m,h=>by
  unfold bindL;rw[Xa fun w hw=>h w (List.mem_cons_of_mem _ hw)];split
  ·have:x≠n:=by rintro rfl;exact h v zW
   simp [this]
  ·rfl
theorem Xb{kindOf:Str ->Option NameKind}{x:Str}:∀{binds:List (Str×Value)} {m:Str ->Option Value},(∀v,(x,v)∉binds) ->bindC kindOf binds m x=m x
 | [],_,_=>rfl
 | (n,v)::r,m,h=>by
  unfold bindC;rw[Xb fun w hw=>h w (List.mem_cons_of_mem _ hw)];split
  ·rfl
  ·have:x≠n:=by rintro rfl;exact h v zW
   simp [this]
theorem Xc{kindOf:Str ->Option NameKind}{x:Str}{v:Value}:∀{P:List Str} {vs:List Value} {i:Nat} {m:Str ->Option Value},P.Nodup ->P[i]?=some x ->vs[i]?=some v ->kindOf x=some .local ->
  bindL kindOf (P.zip vs) m x=some v
 | [],_,_,_,_,h,_,_=>by simp at h
 | _::_,[],_,_,_,_,h,_=>by simp at h
 | p::P,w::vs,0,m,nd,h1,h2,hk=>by
  simp at h1 h2;subst h1;subst h2;show bindL kindOf ((p,w)::P.zip vs) m p=_;unfold bindL;rw[Xa fun v hv=>(List.nodup_cons.mp nd).1 (List.of_mem_zip hv).1,if_pos hk];simp
 | p::P,w::vs,i+1,m,nd,h1,h2,hk=>by
  show bindL kindOf ((p,w)::P.zip vs) m x=_;unfold bindL;exact Xc (i:=i) (List.nodup_cons.mp nd).2 (by simpa using h1) (by simpa using h2) hk
theorem Xd{kindOf:Str ->Option NameKind}{x:Str}{v:Value}:∀{P:List Str} {vs:List Value} {i:Nat} {m:Str ->Option Value},P.Nodup ->P[i]?=some x ->vs[i]?=some v ->kindOf x≠some .local ->
  bindC kindOf (P.zip vs) m x=some v
 | [],_,_,_,_,h,_,_=>by simp at h
 | _::_,[],_,_,_,_,h,_=>by simp at h
 | p::P,w::vs,0,m,nd,h1,h2,hk=>by
  simp at h1 h2;subst h1;subst h2;show bindC kindOf ((p,w)::P.zip vs) m p=_;unfold bindC;rw[Xb fun v hv=>(List.nodup_cons.mp nd).1 (List.of_mem_zip hv).1,if_neg hk];simp
 | p::P,w::vs,i+1,m,nd,h1,h2,hk=>by
  show bindC kindOf ((p,w)::P.zip vs) m x=_;unfold bindC;exact Xd (i:=i) (List.nodup_cons.mp nd).2 (by simpa using h1) (by simpa using h2) hk
def start(N:List Str)(vs:List V):St:=vs.map some++List.replicate (N.length - vs.length) none
def j7(CX:rA)(P:Program)(w:World)(K:W.Frag)(mg:Str ->Option Value)(base:Heap)(N:List Str)(qual:Str)(scope:Scope)(f:Addr)(cd:Value)(A:Around)(outer:List Env)(s:Shared)(H:Hp)(E:XK):Cx where
 prog:=P
 w:=w
 K:=K
 mg:=mg
 base:=base
 A:=A.deeper (envOfC qual scope s.heap.objs.size f cd)
 N:=N
 s₀:=s
 H₀:=H
 env:=envOfC qual scope s.heap.objs.size f cd
 outer:=outer
 stack:=envOfC qual scope s.heap.objs.size f cd::outer
 ex:= []
 calm:=true
 fn:=fun _=>true
 pn:= []
 xe:=fun e s' =>wpAny (model P w) (A.deeper (envOfC qual scope s.heap.objs.size f cd)) (leaving (envOfC qual scope s.heap.objs.size f cd) e) (fun _ s'' =>CX outer H s E e s'') (fun e' s'' =>CX outer H s E e' s'') s'
theorem Xe{sc:Scope}{n:Nat}{x:Str}(h:sc.names.lookup x=some .cell):∃c,(cellsFrom n sc.names []).lookup x=some c:=by
 have q:=W.cellsFrom_some sc.names n [] (.inl h);exact Option.isSome_iff_exists.mp q
theorem zvn{CX:rA}{P:Program}{w:World}{K:W.Frag}{mg:Str ->Option Value}{base:Heap}{N ps:List Str}{qual:Str}{scope:Scope}{f:Addr}{cd:Value}{A:Around}{outer:List Env}{s s1:Shared}{H:Hp}{E:XK}{us:List Value}{vs:List V}
  (S:aD N ps scope) (hd:A.handled=none) (e0:vH P w K mg base A outer s H) (hl:vs.length=ps.length) (r:Vals vs us)
  (x:InCallC s s.heap.objs.size (bindL (envOfC qual scope s.heap.objs.size f cd).kindOf (ps.zip us) fun _=>none) (cellsFrom (s.heap.objs.size+1) scope.names []) (bindC (envOfC qual scope s.heap.objs.size f cd).kindOf (ps.zip us) fun _=>none) s1):
  Inv (j7 CX P w K mg base N qual scope f cd A outer s H E) [] (start N vs) H s1:=by
 have hpl:ps.length<=N.length:=by have:=congrArg List.length S.pre;rw[List.length_take] at this;omega
 obtain⟨h1,tk,rfl,hk⟩:=x.done;have Fd:∀b:Addr,b∉ (j7 CX P w K mg base N qual scope f cd A outer s H E).ex:=fun b z=>absurd (show b∈ ([]:List Addr) from z) (by simp)
 refine⟨⟨e0.mod,S.kind,rfl,rfl,zM _,fun y z c h1 h2=> ?_,fun y hy=> ?_,fun y c _ h=> ?_,fun _=>hd,Around.frames_deeper e0.frames,.inr ⟨rfl,rfl⟩,fun b z=>absurd z (Fd b),e0.bs,e0.BP,fun b _ _=>Fd b,fun b z=>absurd z (Fd b),e0.funs,e0.Ed⟩,
  rfl,e0.bare,Un.kept hk,⟨_,x.toInCall.ns,fun i y v h1 h2 h3=> ?_⟩,fun y c h=>⟨_,x.cell y c h⟩,e0.hok.fresh (zM _),fun y c h=> ?_,fun p hp=>absurd (show p∈ ([]:bD) from hp) (by simp),e0.hok.kept hk,?_⟩
 ·exact name_of_addr x.apart (PySem.mem_of_lookup h1) (PySem.mem_of_lookup h2)
 ·have hy:scope.names.lookup y=some .cell\/scope.names.lookup y=some .free:=hy;rcases hy with hy | hy
  ·exact Xe hy
  ·exact absurd rfl (S.nofree _ (PySem.mem_of_lookup hy))
 ·exact Nat.le_of_lt (x.above y c (PySem.mem_of_lookup h))
 ·have hi:i<vs.length:=by
   unfold start at h2;by_cases hi:i<vs.length
   ·exact hi
   ·rw[List.getElem?_append_right (by simpa using hi)] at h2
    rw[List.getElem?_replicate] at h2;split at h2<;>cases h2
  have ha:vs[i]?=some v:=by
   unfold start at h2;rw[List.getElem?_append_left (by simpa using hi),List.getElem?_map] at h2
   cases e:vs[i]? with
   | none=>rw[e] at h2;cases h2
   | some a=>rw[e] at h2;cases h2;rfl
  obtain⟨u,hu,rv⟩:=r.get ha;have hp:ps[i]?=some y:=by
   rw[<- S.pre,List.getElem?_take_of_lt (by omega)];exact h1
  have Xf:ps.Nodup:=by rw[<- S.pre];exact S.nd.sublist (List.take_sublist _ _)
  refine⟨u,rv,?_⟩;rcases S.par y (yZ hp) with k | k
  ·exact .inl ⟨k,Xc Xf hp hu k⟩
  ·obtain⟨c,e⟩:=Xe (n:=s.heap.objs.size+1) k;refine .inr ⟨.inl k,c,e,?_⟩;have q:=x.cell y c e;rw[Xd Xf hp hu (by show scope.names.lookup y≠_;rw[k];decide)] at q
   exact q
 ·exact e0.hok.fresh (Nat.le_of_lt (x.above y c (PySem.mem_of_lookup h)))
 ·unfold start;show _=N.length;rw[List.length_append,List.length_map,List.length_replicate];omega
theorem Xg{CX:rA}{P:Program}{w:World}{K:W.Frag}{mg:Str ->Option Value}{base:Heap}{k:Nat}{f:Addr}{name qual:Str}{params:Arguments}{body:List Stmt}{scope:Scope}{dV kV doc pm cdv ct oc:Value}{an od:Option Addr}
  {osl:Array (Option Value)} {N ps:List Str} {sp:Sp} (lk:K.lookup f=some ⟨oc,od,.func (W.fnOf name qual params body scope dV kV doc pm an cdv ct),osl⟩) (hcd:W.codeIn K cdv qual=true) (S:aD N ps scope)
  (len:∀vs H Q E,sp vs H Q E ->vs.length=ps.length)
  (hbody:∀(A:Around) (outer:List Env) (s:Shared) (H:Hp) (vs:List V) (Q:VK) (E:XK),fB k (A.deeper (envOfC qual scope s.heap.objs.size f cdv)) ->sp vs H Q E ->
   ∃t,sG (j7 CX P w K mg base N qual scope f cdv A outer s H E) body t/\t {nx:=fun _ H' =>Q .non H',rt:=Q} (start N vs) H):
  eY P w K mg base CX (k+1) f (W.fnOf name qual params body scope dV kV doc pm an cdv ct) ps sp:=by
 refine⟨len,fun A outer s H args us vs Q E hr e0 hb r hsp=> ?_⟩;have hl:=len _ _ _ _ hsp;have KX:K.In s.heap:=e0.mod.Ec.keeps fun b o e=>(e0.bs b o e).1;have lim:s.heap.NoLimit:=e0.mod.nolimit.keeps fun b o e=>(e0.bs b o e).1;have hkind:∀y∈ps.zip us,scope.names.lookup y.1=some .local\/ (scope.names.lookup y.1=some .cell/\ ((cellsFrom (s.heap.objs.size+1) scope.names []).lookup y.1).isSome=true):=fun⟨n,v⟩ hy=>by
  rcases S.par n (List.of_mem_zip hy).1 with q | q
  ·exact .inl q
  ·exact .inr ⟨q,W.cellsFrom_some _ _ _ (.inl q)⟩
 refine codeAny_call_function hr.depth (KX _ _ lk) rfl S.co S.gen rfl (W.codeRec_of KX hcd) (hb _ _ _ _ ?_);refine wpAny_newFunctionEnv_cells S.kind hkind fun env he s1 x=> ?_;subst he;refine⟨lim.keeps x.toInCall.keep,codeAny_func ?_⟩;obtain⟨t,ht,hq⟩:=hbody A outer s H vs Q E (hr.deeper _) hsp;have I:Inv (j7 CX P w K mg base N qual scope f cdv A outer s H E) [] (start N vs) H s1:=zvn S hr.hd e0 hl r x;refine wpAny_mono (ht [] s1 (start N vs) H _ I hq) (fun fl s' hs=> ?_) fun e s' hs=>hs;have fin:∀{σ' :St} {H' :Hp} {v:V} {u:Value},Inv (j7 CX P w K mg base N qual scope f cdv A outer s H E) [] σ' H' s' ->RelV v u ->Q v H' ->CE outer P w H s Q u s' :=
  fun{σ' H' v u} J rv q=>⟨v,H',J.os,J.bare,J.base,J.hok,rv,q⟩
 cases fl with
 | ret u=>
  obtain⟨v,σ',H',J,rv,q⟩:=hs;exact fin J rv q
 | next=>
  obtain⟨σ',H',J,q⟩:=hs;exact fin (v:=V.non) (u:=Value.none) J rfl q
 | brk=>
  obtain⟨_,_,_,q⟩:=hs;exact False.elim q
 | cont=>
  obtain⟨_,_,_,q⟩:=hs;exact False.elim q
section
variable{X:Cx}{x:Str}{p pos:Pos}{e:Expr}{es:List Expr}{t:TA}{id T:String}{r:List V ->Hp ->VK ->Prop}
def Fe(r:List V ->Hp ->VK ->Prop)(t:TA):TE:=fun σ H Q=>t σ H fun vs H1=>r vs H1 Q
theorem Fg(hc:cP X (.builtin id) r)(hg:Gl X x)(hm:X.mg x=none)(hv:bootBuiltins x=some (.builtin id))(ha:PA X (e::es) t)(hn:x≠ "__name__" :=by decide)(hdb:(x==("__debug__" :Str))=false:=by decide)
  (he:starEach (e::es) X.env=(false,eval e X.env)::starEach es X.env:=by rfl) (hpl:(backTo pos (starEach es X.env)).any (·.1)=false:=by rfl):PE X (.Call (.Name x p) (e::es) [] pos) (Fe r t):=by
 intro pins s σ H Q I h;refine wpAny_Call_Name_kw (vB I hg hm hv ?_ hn hdb);exact PyProof.Rows.callWith_builtin1 (bG (ha pos pins s σ H _ I h) fun us s1 Ot=>by obtain⟨vs,H1,I1,r1,q1⟩:=Ot;exact hc pins s1 σ H1 vs us Q I1 r1 q1) he hpl
theorem Ou(hc:cP X (.type T) r)(hg:Gl X x)(hm:X.mg x=none)(hv:bootBuiltins x=some (.type T))(ha:PA X (e::es) t)(hn:x≠ "__name__" :=by decide)(hdb:(x==("__debug__" :Str))=false:=by decide)
  (he:starEach (e::es) X.env=(false,eval e X.env)::starEach es X.env:=by rfl) (hpl:(backTo pos (starEach es X.env)).any (·.1)=false:=by rfl):PE X (.Call (.Name x p) (e::es) [] pos) (Fe r t):=by
 intro pins s σ H Q I h;refine wpAny_Call_Name_kw (vB I hg hm hv ?_ hn hdb);exact PyProof.Rows.callWith_type1 (bG (ha pos pins s σ H _ I h) fun us s1 Ov=>by obtain⟨vs,H1,I1,r1,q1⟩:=Ov;exact hc pins s1 σ H1 vs us Q I1 r1 q1) he hpl
end
end L2
namespace HT
open PySem PyProof.Rows
def lexLt:List Int ->List Int ->Bool
 | [],[]=>false
 | [],_::_=>true
 | _::_,[]=>false
 | x::xs,y::ys=>if x=y then lexLt xs ys else decide (x<y)
section
open PySem.SeqAt
open PySem.AutoSeq1 (wpAny_loadPart')
open PySem.MeetsSeq PySem.MeetsSeq2 PySem.MeetsSeq3
end
section
variable{prog:Program}{w:World}{A:Around}{E:bL}{s:Shared}
def sIx(n d:Nat):Option Int ->Nat
 | none=>d
 | some v=>if v<0 then(v+ (n:Int)).toNat else min v.toNat n
end
end HT
namespace L2
open PySem PySem.Spec PyProof.Rows
abbrev TO:=St ->Hp ->(Option Int ->Hp ->Prop) ->Prop
def PO(X:Cx)(e:Option Expr)(t:TO):Prop:=
 ∀(pins:bD) (s:Shared) (σ:St) (H:Hp) (Q:Option Int ->Hp ->Prop),Inv X pins σ H s ->t σ H Q ->
  wpAny (model X.prog X.w) X.A (evalPart e X.env) (fun u s' =>∃o H',Inv X pins σ H' s' /\IsPart u o/\Q o H') X.xe s
def z32:TO:=fun _ H Q=>Q none H
def Fi(t:TE):TO:=fun σ H Q=>t σ H fun x H1=>∃i,x= .int i/\Q (some i) H1
section
variable{X:Cx}{e:Expr}{te:TE}{lo hi:Option Expr}{tl th:TO}{pos p2:Pos}
theorem z1z:PO X none z32:=by
 intro pins s σ H Q I h;rw[evalPart_none];exact z9 ⟨none,H,I,.none,h⟩
theorem z2c(h:PE X e te):PO X (some e) (Fi te):=by
 intro pins s σ H Q I hw;rw[evalPart_some];refine bG (h pins s σ H _ I hw) fun u s1 Ow=> ?_;obtain⟨x,H1,I1,r1,q1⟩:=Ow;obtain⟨i,rfl,q⟩:=q1;obtain⟨t,rfl⟩:=r1;exact⟨some i,H1,I1,.int i t,q⟩
def Xh(X:Cx)(r:V ->Option Int ->Option Int ->Hp ->VK ->Prop):Prop:=
 ∀(pins:bD) (s:Shared) (σ:St) (H:Hp) (x:V) (v vl vu:Value) (lo hi:Option Int) (sl:Addr) (Q:VK),Inv X pins σ H s ->RelV x v ->s.heap.IsSliceOf sl vl vu .none ->IsPart vl lo ->IsPart vu hi ->r x lo hi H Q ->
  ∃T id,typeLookup (.type T) "__getitem__" =pure (some (.builtin id))/\s.TypeIs v T/\wpAny (model X.prog X.w) X.A (getItem v (.ref sl)) (EP X pins σ Q) X.xe s
def tSl(r:V ->Option Int ->Option Int ->Hp ->VK ->Prop)(te:TE)(tl th:TO):TE:=fun σ H Q=>te σ H fun x H1=>tl σ H1 fun l H2=>th σ H2 fun u H3=>r x l u H3 Q
theorem zx1{r:V ->Option Int ->Option Int ->Hp ->VK ->Prop}(hr:Xh X r)(he:PE X e te)(hl:PO X lo tl)(hu:PO X hi th):PE X (.Subscript e (.Slice lo hi none p2) pos) (tSl r te tl th):=by
 intro pins s σ H Q I h;refine Subscript_ (bG (he pins s σ H _ I h) fun v s1 Ox=> ?_);obtain⟨x,H1,I1,r1,q1⟩:=Ox;refine wpAny_Slice (bG (hl pins s1 σ H1 _ I1 q1) fun vl s2 ⟨l,H2,I2,pl,q2⟩=>bG (hu pins s2 σ H2 _ I2 q2) fun vu s3 ⟨u,H3,I3,pu,q3⟩=> ?_);rw[evalPart_none];refine z9 ?_;have I4:Inv X pins σ H3 {s3 with heap:=s3.heap.push {cls:= .type "slice",data:= .fields #[vl,vu,.none]}}:=I3.kept (t' :=s3.toks) fun b ob q=>zZ _ q;obtain⟨T,id,hT,ht,hg⟩:=hr pins {s3 with heap:=s3.heap.push {cls:= .type "slice",data:= .fields #[vl,vu,.none]}} σ H3 x v vl vu l u s3.heap.objs.size Q I4 r1 (Heap.IsSliceOf.new ..) pl pu q3;show wpAny (model X.prog X.w) X.A (subscriptTail e (.Slice lo hi none p2) v (.ref s3.heap.objs.size)) (EP X pins σ Q) X.xe {s3 with heap:=s3.heap.push {cls:= .type "slice",data:= .fields #[vl,vu,.none]}};exact tail_any (ops:= [.ref s3.heap.objs.size,v]) ht hT hg (by with_unfolding_all rfl)
def pR(xs:List V)(lo hi:Option Int):List V:=(xs.drop (HT.sIx xs.length 0 lo)).take (HT.sIx xs.length xs.length hi - HT.sIx xs.length 0 lo)
theorem zql(xs:List V)(lo hi:Option Int):(pR xs lo hi).length<=xs.length:=by
 unfold pR;rw[List.length_take,List.length_drop];omega
def aaN(K:W.Frag):V ->Option Int ->Option Int ->Hp ->VK ->Prop:=fun x lo hi H Q=>∃a xs,x= .ref a/\je K H a xs/\
 ¬(HT.sIx xs.length 0 lo=0/\HT.sIx xs.length xs.length hi=xs.length)/\∀p,H p=none ->Q (.ref p) (upd H p (.tup (pR xs lo hi)))
def aaO(K:W.Frag):R2:=fun x y H Q=>∃a b ns ms,x= .ref a/\y= .ref b/\je K H a (ns.map V.int)/\je K H b (ms.map V.int)/\Q (.bl (HT.lexLt ns ms)) H
def Xi(K:W.Frag):R2:=fun x y H Q=>∃a b xs ys,x= .ref a/\y= .ref b/\je K H a xs/\je K H b ys/\xs≠ []/\xs.length+ys.length<=sizeLine/\
 (ys= [] ->Q (.ref a) H)/\ (ys≠ [] ->∀p,H p=none ->Q (.ref p) (upd H p (.tup (xs++ys))))
end
def rB(n:Nat)(i:Int):Option Nat:=if 0<=i then(if i<n then some i.toNat else none) else if -(n:Int)<=i then some (i+n).toNat else none
def jy{α:Type}(xs:List α)(i:Int):Option α:=(rB xs.length i).bind fun j=>xs[j]?
theorem Xj{n:Nat}{i:Int}{j:Nat}(h:rB n i=some j):seqIndex? i n=some j/\j<n/\ -(n:Int)<=i/\i<n:=by
 unfold rB at h;by_cases h0:0<=i
 ·rw[if_pos h0] at h;by_cases h1:i<n
  ·rw[if_pos h1] at h;have e:i.toNat=j:=zF h;exact⟨by rw[seqIndex_of h0 h1,e],by omega,by omega,h1⟩
  ·rw[if_neg h1] at h;cases h
 ·rw[if_neg h0] at h;by_cases h1: -(n:Int)<=i
  ·rw[if_pos h1] at h;have e:(i+n).toNat=j:=zF h;exact⟨by rw[seqIndex_neg (by omega) h1,e],by omega,h1,by omega⟩
  ·rw[if_neg h1] at h;cases h
theorem Oz{α:Type}{xs:List α}{i:Int}{v:α}(h:jy xs i=some v):∃j,seqIndex? i xs.length=some j/\xs[j]?=some v/\j<xs.length/\ -(xs.length:Int)<=i/\i<xs.length:=by
 unfold jy at h;cases e:rB xs.length i with
 | none=>rw[e] at h;cases h
 | some j=>
  rw[e] at h;obtain⟨h1,h2,h3,h4⟩:=Xj e;exact⟨j,h1,h,h2,h3,h4⟩
theorem vI{α:Type}{xs:List α}{j:Nat}{v:α}(h:xs[j]?=some v):jy xs (j:Int)=some v:=by
 have hj:j<xs.length:=(zU.mp h).1;have e:rB xs.length (j:Int)=some j:=by
  unfold rB;rw[if_pos (by omega),if_pos (by omega)];simp
 unfold jy;rw[e];exact h
def OD(b:Expr):Prop:=∀o i,subscripted b false o i=operate [o,i] (getItem o i)
def J2(X:Cx)(r:R2):Prop:=
 ∀(value slice:Expr) (pins:bD) (s:Shared) (σ:St) (H:Hp) (x y:V) (v u:Value) (Q:VK),Inv X pins σ H s ->RelV x v ->RelV y u ->r x y H Q ->
  subscripted slice false v u=operate [v,u] (getItem v u) ->wpAny (model X.prog X.w) X.A (subscriptTail value slice v u) (EP X pins σ Q) X.xe s
def MtR(X:Cx)(id:String)(r:V ->List V ->Hp ->VK ->Prop):Prop:=
 ∀(pins:bD) (s:Shared) (σ:St) (H:Hp) (x:V) (xs:List V) (v:Value) (us:List Value) (Q:VK),Inv X pins σ H s ->RelV x v ->Vals xs us ->r x xs H Q ->
  wpAny (model X.prog X.w) X.A (call (.builtin id) (v::us)) (EP X pins σ Q) X.xe s
section
variable{X:Cx}{a b:Expr}{ta tb:TE}{pos:Pos}
theorem Xk{r:R2}(hr:J2 X r)(ha:PE X a ta)(hb:PE X b tb)(hs:OD b):PE X (.Subscript a b pos) (Eu r ta tb):=by
 intro pins s σ H Q I h;exact Subscript_ (yG ha hb I h fun v u s2 x y H2 I2 rx ry q=>hr a b pins s2 σ H2 x y v u Q I2 rx ry q (hs _ _))
def Fj(K:W.Frag):R2:=fun x y H Q=>∃p xs i v,x= .ref p/\y= .int i/\fZ K H p xs/\jy xs i=some v/\Q v H
def Fl(K:W.Frag):R2:=fun x y H Q=>∃p xs i v,x= .ref p/\y= .int i/\je K H p xs/\jy xs i=some v/\Q v H
def Fo:R2:=fun x y H Q=>∃z i c,x= .str z/\y= .int i/\z.length<=sizeLine/\jy z.cps.toList i=some c/\Q (.str ⟨#[c]⟩) H
theorem Xl:J2 X (Fj X.K):=by
 intro value slice pins s σ H x y v u Q I rx ry h hs;obtain⟨p,xs,i,z,rfl,rfl,hq,he,q⟩:=h;cases rx;obtain⟨t,rfl⟩:=ry;obtain⟨its,r,pl,hz⟩:=I.list hq;obtain⟨j,h1,h2,h3,h4,h5⟩:=Oz he;obtain⟨w,ew,jR⟩:=r.get h2;have hl:=r.length;have hn:=jD;have fin:EP X pins σ Q w s:=⟨z,H,I,jR,q⟩;by_cases h0:0<=i
 ·have hj:i.toNat=j:=by
   rw[seqIndex_of h0 h5] at h1;exact zF h1
  exact item_listR pl.isList h0 (by omega) (by rw[hj];simpa using ew) fin hs
 ·have hj:(i+ (its.toArray.size:Int)).toNat=j:=by
   rw[seqIndex_neg (by omega) h4] at h1
   rw[List.size_toArray,<- hl];exact zF h1
  exact subscriptTail_builtinR (x:=w) pl.isList.typeIs slot_list_getitem.lookup
   (wpAny_getItem_list_neg (Q:=fun r s' =>r=w/\EP X pins σ Q r s') pl.isList (by omega) (by rw[List.size_toArray]<;>omega) (by omega) (by rw[hj];simpa using ew) ⟨rfl,fin⟩) hs
theorem z4t:J2 X (Fl X.K):=by
 intro value slice pins s σ H x y v u Q I rx ry h hs;obtain⟨p,xs,i,z,rfl,rfl,hq,he,q⟩:=h;cases rx;obtain⟨t,rfl⟩:=ry;obtain⟨its,r,pl,hz⟩:=I.tuple hq;obtain⟨j,h1,h2,h3,h4,h5⟩:=Oz he;obtain⟨w,ew,jR⟩:=r.get h2;have hl:=r.length;have hn:=jD;have fin:EP X pins σ Q w s:=⟨z,H,I,jR,q⟩;exact subscriptTail_builtinR (x:=w) pl.typeIs slot_tuple_getitem.lookup
  (getItem_tuple (j:=j) (Q:=fun r s' =>r=w/\EP X pins σ Q r s') pl (by omega) (by omega) (by rw[List.size_toArray,<- hl];exact h1) (by simpa using ew) ⟨rfl,fin⟩) hs
theorem z46:J2 X Fo:=by
 intro value slice pins s σ H x y v u Q I rx ry h hs;obtain⟨z,i,c,rfl,rfl,hz,he,q⟩:=h;obtain⟨t,rfl⟩:=rx;obtain⟨t',rfl⟩:=ry;obtain⟨j,h1,h2,h3,h4,h5⟩:=Oz he;have hl:z.cps.toList.length=z.length:=by simp [Str.length]
 rw[hl] at h1 h4 h5;have hn:=jD;exact tail_any (typeIs_str s z t) slot_str_getitem.lookup (getItem_str (c:=c) (by
  have e1:decide (i< -(2^63:Int))=false:=decide_eq_false (by omega)
  have e2:decide (i≥2^63)=false:=decide_eq_false (by omega)
  rw[e1,e2,Bool.or_false]) (by rw[h1];simpa using h2) ⟨.str ⟨#[c]⟩,H,I.tok _,⟨_,rfl⟩,q⟩) hs
def rIx(K:W.Frag):R2:=fun x y H Q=>Fj K x y H Q\/Fl K x y H Q\/Fo x y H Q
theorem zth(its:List Value)(n j:Nat)(u:Value):Obj.mapSeq (·.setIfInBounds j u) {cls:= .type "list",data:= .seq its.toArray n}={cls:= .type "list",data:= .seq (its.set j u).toArray n}:=by
 simp [Obj.mapSeq]
theorem Inv.lst{pins:bD}{σ:St}{H:Hp}{s:Shared}{p:Addr}{xs:List V}(I:Inv X pins σ H s)(h:H p=some (.lst xs)):
  ∃(its:List Value) (n:Nat),Vals xs its/\s.heap.get? p=some {cls:= .type "list",data:= .seq its.toArray n}/\xs.length<=sizeLine:=by
 obtain⟨z,its,n,r,e⟩:=I.hok p _ h;exact⟨its,n,r,e,z⟩
theorem Inv.lstUpd{pins:bD}{σ:St}{H:Hp}{s:Shared}{p:Addr}{xs ys:List V}{its its' :List Value}{n n' :Nat}{f:Obj ->Obj}(I:Inv X pins σ H s)(h:H p=some (.lst xs))
  (ho:s.heap.get? p=some {cls:= .type "list",data:= .seq its.toArray n}) (hf:f {cls:= .type "list",data:= .seq its.toArray n}={cls:= .type "list",data:= .seq its'.toArray n'}) (r:Vals ys its') (hz:ys.length<=sizeLine) (t:Nat):
  Inv X pins σ (upd H p (.lst ys)) {s with heap:=s.heap.update p f,toks:=t}:=by
 have e:(s.heap.update p f).get? p=some {cls:= .type "list",data:= .seq its'.toArray n'}:=by
  rw[Heap.get?_update_self f ho (by rw[hf]<;>rfl),hf]
 refine I.write (x:=p) (e:=p) (by rw[h];trivial) (.inl rfl) (fun b u hb q=>(Heap.get?_update_other _ _ (Ne.symm hb)).trans q) ⟨_,e⟩ ?_
 exact⟨hz,its',n',r,e⟩
def Fp:V ->V ->V ->Hp ->(Hp ->Prop) ->Prop:=fun o i v H Q=>∃p xs k j,o= .ref p/\i= .int k/\H p=some (.lst xs)/\rB xs.length k=some j/\Q (upd H p (.lst (xs.set j v)))
theorem zy7:En X Fp:=by
 intro pins s σ H o i v ov iv u Q I ro ri rv h;obtain⟨p,xs,k,j,rfl,rfl,hp,hj,q⟩:=h;cases ro;obtain⟨t,rfl⟩:=ri;obtain⟨its,n,r,ho,hz⟩:=I.lst hp;obtain⟨h1,h2,h3,h4⟩:=Xj hj;have hl:=r.length;have hn:=jD;have I' :Inv X pins σ (upd H p (.lst (xs.set j v))) {s with heap:=s.heap.update p (Obj.mapSeq (·.setIfInBounds j u))}:=
  I.lstUpd hp ho (zth its n j u) (r.set rv j) (by rw[List.length_set];exact hz) s.toks
 by_cases h0:0<=k
 ·have hk:k.toNat=j:=by
   rw[seqIndex_of h0 h4] at h1;exact zF h1
  exact W.ki_setAt ho h0 (by omega) (by rw[List.size_toArray,<- hl];exact h4) (by rw[hk];exact⟨_,I',q⟩)
 ·have hk:(k+ (its.toArray.size:Int)).toNat=j:=by
   rw[seqIndex_neg (by omega) h3] at h1
   rw[List.size_toArray,<- hl];exact zF h1
  exact W.ki_setBack ho (by omega) (by rw[List.size_toArray,<- hl];exact h3) (by omega) (by rw[hk];exact⟨_,I',q⟩)
theorem zoi(lo hi:Option Int)(n:Nat):(sliceBounds lo hi none n).1=((HT.sIx n 0 lo:Nat):Int)/\ (sliceBounds lo hi none n).2.1=((HT.sIx n n hi:Nat):Int)/\ (sliceBounds lo hi none n).2.2=1:=by
 refine⟨?_,?_,rfl⟩
 ·cases lo with
  | none=>simp [sliceBounds,HT.sIx]
  | some i=>
   simp only [sliceBounds,HT.sIx,Option.getD_none,show(1:Int)>0 by decide,if_true]
   by_cases h:i<0
   ·simp only [h,if_true]<;>omega
   ·simp only [h,if_false]<;>omega
 ·cases hi with
  | none=>simp [sliceBounds,HT.sIx]
  | some i=>
   simp only [sliceBounds,HT.sIx,Option.getD_none,show(1:Int)>0 by decide,if_true]
   by_cases h:i<0
   ·simp only [h,if_true]<;>omega
   ·simp only [h,if_false]<;>omega
theorem zma(its:List Value)(lo hi:Option Int):slicePick its.toArray lo hi none=((its.drop (HT.sIx its.length 0 lo)).take (HT.sIx its.length its.length hi - HT.sIx its.length 0 lo)).toArray:=by
 obtain⟨h1,h2,h3⟩:=zoi lo hi its.toArray.size;unfold slicePick;rw[h1,h2,h3];simp only [sliceRange_one,pick_run,List.size_toArray]<;>rfl
def OJ(K:W.Frag):V ->Option Int ->Option Int ->Hp ->VK ->Prop:=fun x lo hi H Q=>∃a xs,x= .ref a/\fZ K H a xs/\∀p,H p=none ->Q (.ref p) (upd H p (.lst (pR xs lo hi)))
theorem z1p:Xh X (OJ X.K):=by
 intro pins s σ H x v vl vu lo hi sl Q I rx hs pl pu h;obtain⟨a,xs,rfl,hx,q⟩:=h;cases rx;obtain⟨its,r,ht,hz⟩:=I.list hx;have hlen:=r.length;refine⟨"list",_,slot_list_getitem.lookup,ht.isList.typeIs,?_⟩;refine wpAny_getItem_list_slice ht.isList hs pl pu .none (by simp) ?_ (by rw[List.size_toArray]<;>omega)
 rw[zma,<- hlen];refine⟨.ref s.heap.objs.size,_,I.laid (t' :=s.toks) (o:= .lst (pR xs lo hi)) (fun b ob q=>zZ _ q) (zM _) ?_,rfl,q _ (I.hok.fresh (zM _))⟩;exact⟨zN (zql xs lo hi) hz,_,0,(r.drop (HT.sIx xs.length 0 lo)).take (HT.sIx xs.length xs.length hi - HT.sIx xs.length 0 lo),zY _ rfl⟩
def iI:V ->Bool
 | .non=>true
 | .bl _=>true
 | .int _=>true
 | .str _=>true
 | _=>false
def vJ:V ->V ->Bool
 | .non,.non=>true
 | .bl a,.bl b=>a==b
 | .bl a,.int b=>(if a then 1 else 0)==b
 | .int a,.bl b=>a==(if b then 1 else 0)
 | .int a,.int b=>a==b
 | .str a,.str b=>a==b
 | _,_=>false
theorem z4b{A:Around}{s:Shared}{y x:V}{u v:Value}(ry:RelV y u)(rx:RelV x v)(fy:iI y=true)(fx:iI x=true):SeqAt.EqAt A s u v (vJ y x):=by
 cases y with
 | non=>
  cases ry;cases x with
  | non=>cases rx;exact SeqAt.EqAt.same _
  | bl b=>cases rx;exact SeqAt.EqAt.none_bool b
  | int b=>obtain⟨t,rfl⟩:=rx;exact SeqAt.EqAt.none_int b t
  | str b=>obtain⟨t,rfl⟩:=rx;exact SeqAt.EqAt.none_str b t
  | _=>exact absurd (show false=true from fx) zH
 | bl a=>
  cases ry;cases x with
  | non=>cases rx;exact SeqAt.EqAt.bool_none a
  | bl b=>cases rx;exact SeqAt.EqAt.bool_bool a b
  | int b=>obtain⟨t,rfl⟩:=rx;exact SeqAt.EqAt.bool_int a b t
  | str b=>obtain⟨t,rfl⟩:=rx;exact SeqAt.EqAt.bool_str a b t
  | _=>exact absurd (show false=true from fx) zH
 | int a=>
  obtain⟨t',rfl⟩:=ry;cases x with
  | non=>cases rx;exact SeqAt.EqAt.int_none a t'
  | bl b=>cases rx;exact SeqAt.EqAt.int_bool a t' b
  | int b=>obtain⟨t,rfl⟩:=rx;exact SeqAt.EqAt.int_int a t' b t
  | str b=>obtain⟨t,rfl⟩:=rx;exact SeqAt.EqAt.int_str a t' b t
  | _=>exact absurd (show false=true from fx) zH
 | str a=>
  obtain⟨t',rfl⟩:=ry;cases x with
  | non=>cases rx;exact SeqAt.EqAt.str_none a t'
  | bl b=>cases rx;exact SeqAt.EqAt.str_bool a t' b
  | int b=>obtain⟨t,rfl⟩:=rx;exact SeqAt.EqAt.str_int a t' b t
  | str b=>obtain⟨t,rfl⟩:=rx;exact SeqAt.EqAt.str_str a t' b t
  | _=>exact absurd (show false=true from fx) zH
 | _=>exact absurd (show false=true from fy) zH
def vK(x:V)(u:Value):Bool:=match u with
 | .none=>vJ .non x
 | .bool b=>vJ (.bl b) x
 | .int i _=>vJ (.int i) x
 | .str z _=>vJ (.str z) x
 | _=>false
theorem Xm{x y:V}{u:Value}(r:RelV y u)(f:iI y=true):vK x u=vJ y x:=by
 cases y with
 | non=>cases r;rfl
 | bl b=>cases r;rfl
 | int i=>obtain⟨t,rfl⟩:=r;rfl
 | str z=>obtain⟨t,rfl⟩:=r;rfl
 | _=>exact absurd (show false=true from f) zH
theorem O1{x:V}:∀{xs:List V} {us:List Value},Vals xs us ->xs.all iI=true ->us.any (vK x)=xs.any fun y=>vJ y x
 | _,_,.nil,_=>rfl
 | y::xs,u::us,.cons r t,f=>by
  rw[List.all_cons,Bool.and_eq_true] at f;rw[List.any_cons,List.any_cons,Xm r f.1,O1 t f.2]
theorem O2{A:Around}{s:Shared}{x:V}{v:Value}(rx:RelV x v)(fx:iI x=true):∀{xs:List V} {us:List Value},Vals xs us ->xs.all iI=true ->∀u∈us,SeqAt.EqAt A s u v (vK x u)
 | _,_,.nil,_=>fun u hu=>by cases hu
 | y::xs,u::us,.cons r t,f=>fun u' hu=>by
  rw[List.all_cons,Bool.and_eq_true] at f;rcases zT.mp hu with rfl | hu
  ·rw[Xm r f.1];exact z4b r rx f.1 fx
  ·exact O2 rx fx t f.2 u' hu
def inV(x:V)(xs:List V):Bool:=xs.any fun y=>vJ y x
def rIn(K:W.Frag)(neg:Bool):R2:=fun x y H Q=>∃p xs,y= .ref p/\ (fZ K H p xs\/je K H p xs)/\iI x=true/\xs.all iI=true/\Q (.bl (if neg then !inV x xs else inV x xs)) H
theorem Xn:iH X (compareOp .In) (rIn X.K false):=by
 intro pins s σ H x y v u Q I rx ry h;obtain⟨p,xs,rfl,hq,fx,fs,q⟩:=h;cases ry;rcases hq with hq | hq
 ·obtain⟨its,r,pl,hz⟩:=I.list hq;refine SeqAt.in_listAt (vK x) pl.isList (fun w hw=>O2 rx fx r fs w (by simpa using hw)) ⟨.bl _,H,I,rfl,?_⟩
  rw[show its.toArray.any (vK x)=its.any (vK x) by simp,O1 r fs]
  exact q
 ·obtain⟨its,r,pl,hz⟩:=I.tuple hq;refine SeqAt.in_tupleAt (vK x) pl (fun w hw=>O2 rx fx r fs w (by simpa using hw)) ⟨.bl _,H,I,rfl,?_⟩
  rw[show its.toArray.any (vK x)=its.any (vK x) by simp,O1 r fs]
  exact q
theorem Xo:cP X (.builtin "len") (fun xs H Q=>∃p ys,xs= [.ref p]/\ (fZ X.K H p ys\/je X.K H p ys)/\Q (.int ys.length) H):=by
 intro pins s σ H xs us Q I r h;obtain⟨p,ys,rfl,hq,q⟩:=h;obtain⟨u,rfl,rx⟩:=vals1 r;cases rx;have hn:=jD;rcases hq with hq | hq
 ·obtain⟨its,r',pl,hz⟩:=I.list hq;have hlen:=r'.length;exact Calls.call_len_list pl.isList (by simp only [List.size_toArray]<;>omega) ⟨.int ys.length,H,I.tok _,⟨s.toks+1,by rw[List.size_toArray,hlen]⟩,q⟩
 ·obtain⟨its,r',pl,hz⟩:=I.tuple hq;have hlen:=r'.length;exact len_tuple pl (by simp only [List.size_toArray]<;>omega) ⟨.int ys.length,H,I.tok _,⟨s.toks+1,by rw[List.size_toArray,hlen]⟩,q⟩
theorem znq:cP X (.builtin "len") (fun xs H Q=>∃z,xs= [.str z]/\z.length<=sizeLine/\Q (.int z.length) H):=by
 intro pins s σ H xs us Q I r h;obtain⟨z,rfl,hz,q⟩:=h;obtain⟨u,rfl,t,rfl⟩:=vals1 r;have hn:=jD;exact len_str (by omega) ⟨.int z.length,H,I.tok _,⟨_,rfl⟩,q⟩
theorem Xp:cP X (.type "list") (fun xs H Q=>∃p ys,xs= [.ref p]/\ (fZ X.K H p ys\/je X.K H p ys)/\∀l,H l=none ->Q (.ref l) (upd H l (.lst ys))):=by
 intro pins s σ H xs us Q I r h;obtain⟨p,ys,rfl,hq,q⟩:=h;obtain⟨u,rfl,rx⟩:=vals1 r;cases rx;have fin:∀(its:List Value),Vals ys its ->ys.length<=sizeLine ->∀(h' :Heap) (c' :Nat),(∀b o',s.heap.get? b=some o' ->h'.get? b=some o') ->
   h'.get? s.heap.objs.size=some {cls:= .type "list",dict:=none,data:= .seq its.toArray c',slots:= #[]} ->EP X pins σ Q (.ref s.heap.objs.size) {s with heap:=h'}:=fun its r' hz h' c' kp e=>
  ⟨.ref s.heap.objs.size,_,I.laid (t' :=s.toks) kp (zM _) (show aV X.prog X.w _ h' _ (.lst ys) from ⟨hz,its,c',r',e⟩),rfl,q _ (I.hok.fresh (zM _))⟩
 rcases hq with hq | hq
 ·obtain⟨its,r',pl,hz⟩:=I.list hq;have hlen:=r'.length;obtain⟨o,ho,hc,n,hd⟩:=pl.isList;exact call_list_seq p (.inl rfl) ho hc hd (fun h' c' kp e=>fin its r' hz h' c' kp e) (by simp only [List.size_toArray]<;>omega)
 ·obtain⟨its,r',pl,hz⟩:=I.tuple hq;have hlen:=r'.length;obtain⟨o,ho,hc,n,hd⟩:=pl;exact call_list_seq p (.inr rfl) ho hc hd (fun h' c' kp e=>fin its r' hz h' c' kp e) (by simp only [List.size_toArray]<;>omega)
def J3(K:W.Frag)(T:String)(x:V)(H:Hp):Prop:=match x with
 | .str _=>T= "str"
 | .int _=>T= "int"
 | .ref p=>(T= "list" /\∃xs,fZ K H p xs)\/ (T= "tuple" /\∃o,K.lookup p=some o/\o.cls= .type "tuple" /\o.dict=none)\/
   (T= "dict" /\ ((∃kvs,H p=some (.dK kvs))\/∃kvs,H p=some (.dT kvs)))\/ (T= "set" /\∃S n,H p=some (.set S n))
 | _=>False
theorem z5g{pins:bD}{σ:St}{H:Hp}{s:Shared}{T:String}{x:V}{v:Value}(I:Inv X pins σ H s)(r:RelV x v)(ty:J3 X.K T x H):
  s.TypeIs v T/\∀a,v= .ref a ->∃ob,s.heap.get? a=some ob/\ob.dict=none:=by
 cases x with
 | str z=>
  obtain⟨t,rfl⟩:=r;cases (show T= "str" from ty);exact⟨typeIs_str s z t,fun _ e=>nomatch e⟩
 | int i=>
  obtain⟨t,rfl⟩:=r;cases (show T= "int" from ty);exact⟨typeIs_int s i t,fun _ e=>nomatch e⟩
 | ref p=>
  cases r;rcases ty with ⟨rfl,xs,hq⟩ | ⟨rfl,o,hk,hc,hd⟩ | ⟨rfl,hk⟩ | ⟨rfl,S,n,hk⟩
  ·obtain⟨its,_,pl,_⟩:=I.list hq;refine⟨pl.isList.typeIs,fun a e=> ?_⟩;cases e;obtain⟨o,n,e,c,hd,_⟩:=pl;exact⟨o,e,hd⟩
  ·refine⟨⟨o,I.kIn p o hk,hc⟩,fun a e=> ?_⟩;cases e;exact⟨o,I.kIn _ o hk,hd⟩
  ·have z:∃o,s.heap.get? p=some o/\o.ExactDict:=by
    rcases hk with ⟨kvs,hk⟩ | ⟨kvs,hk⟩
    ·obtain⟨_,_,_,_,o,_,_,e,ex,_⟩:=I.hok p _ hk;exact⟨o,e,ex⟩
    ·obtain⟨_,_,_,_,o,_,_,e,ex,_⟩:=I.hok p _ hk;exact⟨o,e,ex⟩
   obtain⟨o,e,ex⟩:=z;refine⟨⟨o,e,ex.1⟩,fun a e2=> ?_⟩;cases e2;exact⟨o,e,ex.2.1⟩
  ·obtain⟨o,_,_,_,e,ex,_⟩:=I.hok p _ hk;refine⟨⟨o,e,ex.1⟩,fun a e2=> ?_⟩;cases e2;exact⟨o,e,ex.2.1⟩
 | _=>exact False.elim ty
def aaP(K:W.Frag)(T:String)(r:V ->List V ->Hp ->VK ->Prop)(to:TE):TE:=fun σ H Q=>to σ H fun x H1=>J3 K T x H1/\r x [] H1 Q
def tBM(K:W.Frag)(T:String)(r:V ->List V ->Hp ->VK ->Prop)(to:TE)(t:TA):TE:=fun σ H Q=>to σ H fun x H1=>J3 K T x H1/\t σ H1 fun xs H2=>r x xs H2 Q
variable{o e:Expr}{es:List Expr}{to:TE}{t:TA}{name:Str}{apos cpos:Pos}{T id:String}{r:V ->List V ->Hp ->VK ->Prop}
theorem z7i(pa:PlainAttrs T)(slot:Slot T name id)(hty:typeOf (.builtin id)=pure (.type "method_descriptor"))(hm:MtR X id r)(ho:PE X o to)(ha:PA X (e::es) t)
  (hbase:attributeBase o name X.env (eval o X.env)=eval o X.env:=by rfl)
  (hfew:((backTo cpos (starEach (e::es) X.env)).all (fun x=> !x.1)&&(backToKw cpos (keywordEach [] X.env)).all (fun x=>x.1.isSome)
   &&decide ((e::es).length+ ([]:List Keyword).length+ (if ([]:List Keyword).isEmpty then 0 else 1)<30))=true:=by rfl)
  (hline:(apos.endLine==cpos.line)=true:=by rfl) (hs:starEach (e::es) X.env=(false,eval e X.env)::starEach es X.env:=by rfl) (hplain:(backTo cpos (starEach es X.env)).any (·.1)=false:=by rfl):
  PE X (.Call (.Attribute o name apos) (e::es) [] cpos) (tBM X.K T r to t):=by
 intro pins s σ H Q I h;refine wpAny_Call_method_late hbase hfew hline rfl (bG (ho pins s σ H _ I h) fun v s1 O3=> ?_);obtain⟨x,H1,I1,r1,ty,q1⟩:=O3;obtain⟨h1,h2⟩:=z5g I1 r1 ty;refine⟨T,id,pa,slot,hty,h1,h2,?_⟩;have hA:=ha cpos pins s1 σ H1 _ I1 q1;rw[hs] at hA⊢;refine Calls.callWith_builtin (by show(false || (backTo cpos (starEach es X.env)).any (·.1))=false;rw[hplain]<;>rfl) (Calls.evalArgs_plain ?_)
 exact bG hA fun us s2 O4=>by obtain⟨vs,H2,I2,r2,q2⟩:=O4;exact hm pins s2 σ H2 x vs v us Q I2 r1 r2 q2
end
def MtM(X:Cx)(id:String)(r:V ->List V ->Hp ->VK ->Prop):Prop:=
 ∀(pins:bD) (s:Shared) (σ:St) (H:Hp) (x:V) (xs:List V) (v:Value) (us:List Value) (Q:VK),Inv X pins σ H s ->RelV x v ->Vals xs us ->r x xs H Q ->
  wpAny (model X.prog X.w) X.A (call (.builtin id) (v::us)) (EP X pins σ Q) X.xe s
theorem Vals.one:∀{x:V} {us:List Value},Vals [x] us ->∃u,us= [u]/\RelV x u
 | _,_,.cons r .nil=>⟨_,rfl,r⟩
theorem Vals.reverse{xs:List V}{us:List Value}(h:Vals xs us):Vals xs.reverse us.reverse:=by
 induction h with
 | nil=>exact .nil
 | cons r t ih=>rw[List.reverse_cons,List.reverse_cons];exact Vals.append ih (.cons r .nil)
section
variable{X:Cx}{pins:bD}{σ:St}{H:Hp}{s:Shared}{l b:Addr}{xs ys zs:List V}
theorem Inv.lset{its its' :List Value}{n:Nat}{f:Array Value ->Array Value}{t' :Nat}(I:Inv X pins σ H s)(hH:H l=some (.lst xs))
  (e:s.heap.get? l=some {cls:= .type "list",data:= .seq its.toArray n}) (hf:f its.toArray=its'.toArray) (hv:Vals ys its') (hz:ys.length<=sizeLine):
  Inv X pins σ (upd H l (.lst ys)) {s with heap:=s.heap.update l (Obj.mapSeq f),toks:=t'}:=by
 have q:=PySem.IsL.update e f;rw[hf] at q;refine I.write (x:=l) (e:=l) (by rw[hH];exact trivial) (.inl rfl) (fun b' u hb hu=>(Heap.get?_update_other s.heap (Obj.mapSeq f) (Ne.symm hb)).trans hu) ⟨_,q⟩ ?_
 exact⟨hz,its',_,hv,q⟩
theorem Inv.lnew{its:List Value}{t' :Nat}(I:Inv X pins σ H s)(hv:Vals ys its)(hz:ys.length<=sizeLine):
  Inv X pins σ (upd H s.heap.objs.size (.lst ys)) {s with heap:=s.heap.push {cls:= .type "list",data:= .seq its.toArray},toks:=t'}:=
 I.laid (fun _ _ q=>zZ _ q) (zM _) ⟨hz,its,0,hv,zY _ rfl⟩
theorem Inv.fresh(I:Inv X pins σ H s):H s.heap.objs.size=none:=I.hok.fresh (zM _)
theorem Inv.lstM(I:Inv X pins σ H s)(hH:H l=some (.lst xs)):xs.length<=sizeLine/\∃(its:List Value) (n:Nat),Vals xs its/\xs.length=its.length/\s.heap.get? l=some {cls:= .type "list",data:= .seq its.toArray n}:=by
 obtain⟨z,its,n,r,e⟩:=I.hok l _ hH;exact⟨z,its,n,r,r.length,e⟩
theorem zyb{n:Nat}(h:n<=sizeLine):Builtin.List.listTooLong n=false:=by
 unfold Builtin.List.listTooLong;exact decide_eq_false (by omega)
end
section
variable{X:Cx}
def z1k:V ->List V ->Hp ->VK ->Prop:=fun x vs H Q=>∃l xs y,x= .ref l/\vs= [y]/\H l=some (.lst xs)/\xs.length<sizeLine/\Q .non (upd H l (.lst (xs++ [y])))
theorem Xq:MtM X "list.append" z1k:=by
 intro pins s σ H x vs v us Q I rx rv h;obtain⟨l,xs,y,rfl,rfl,hH,hz,q⟩:=h;cases rx;obtain⟨u,rfl,ru⟩:=rv.one;obtain⟨z,its,n,r,hl,e⟩:=I.lstM hH;refine call_meets F.slot_list_append ⟨_,e,rfl⟩ F.entry_list_append (F.args_list_append_2 _ _) (PySem.list_append l its.toArray n u (by rw[List.size_toArray];omega)) ⟨e,?_⟩
 refine⟨.non,_,I.lset (its' :=its++ [u]) hH e (by simp) (r.append (.cons ru .nil)) ?_,rfl,q⟩
 rw[List.length_append,List.length_singleton];omega
def z6y:V ->List V ->Hp ->VK ->Prop:=fun x vs H Q=>∃l b xs zs,x= .ref l/\vs= [.ref b]/\H l=some (.lst xs)/\H b=some (.lst zs)/\xs.length+zs.length<=sizeLine/\Q .non (upd H l (.lst (xs++zs)))
def aaQ:V ->List V ->Hp ->VK ->Prop:=fun x vs H Q=>∃l xs y,x= .ref l/\vs= []/\H l=some (.lst xs)/\xs[xs.length - 1]?=some y/\Q y (upd H l (.lst xs.dropLast))
def O5:V ->List V ->Hp ->VK ->Prop:=fun x vs H Q=>∃l xs i k y,x= .ref l/\vs= [.int i]/\H l=some (.lst xs)/\ -(2^63)<=i/\i<2^63/\seqIndex? i xs.length=some k/\xs[k]?=some y/\Q y (upd H l (.lst (xs.eraseIdx k)))
def z6h:V ->List V ->Hp ->VK ->Prop:=fun x vs H Q=>∃l xs,x= .ref l/\vs= []/\H l=some (.lst xs)/\Q .non (upd H l (.lst xs.reverse))
def O6:V ->List V ->Hp ->VK ->Prop:=fun x vs H Q=>∃l xs,x= .ref l/\vs= []/\H l=some (.lst xs)/\Q .non (upd H l (.lst []))
def aaR:R2:=fun x y H Q=>∃l b xs zs,x= .ref l/\y= .ref b/\H l=some (.lst xs)/\H b=some (.lst zs)/\xs.length+zs.length<=sizeLine/\∀p,H p=none ->Q (.ref p) (upd H p (.lst (xs++zs)))
def aaS:R2:=fun x y H Q=>∃l k xs,x= .ref l/\y= .int k/\H l=some (.lst xs)/\ -(2^63)<=k/\k<2^63/\xs.length*k.toNat<=sizeLine/\
 ∀p,H p=none ->Q (.ref p) (upd H p (.lst (List.replicate k.toNat xs).flatten))
end
section
variable{prog:Program}{w:World}{A:Around}{E:bL}{s:Shared}
end
section
variable{X:Cx}
end
section
variable{κ:Type}[DecidableEq κ]
def dR(kvs:List (κ×V))(k:κ):Option V:=(kvs.find? fun kv=>decide (kv.1=k)).map (·.2)
def putK(kvs:List (κ×V))(k:κ)(v:V):List (κ×V):=
 if (kvs.any fun kv=>decide (kv.1=k))=true then kvs.map (fun kv=>if kv.1=k then(kv.1,v) else kv) else kvs++ [(k,v)]
def qG(kvs:List (κ×V))(k:κ):List (κ×V):=kvs.filter fun kv=>decide (kv.1≠k)
theorem O7{p:κ×V}{r:List (κ×V)}{k:κ}(e:p.1=k):dR (p::r) k=some p.2:=by simp [dR,List.find?_cons,e]
theorem O8{p:κ×V}{r:List (κ×V)}{k:κ}(e:¬p.1=k):dR (p::r) k=dR r k:=by simp [dR,List.find?_cons,e]
theorem Xr(k:κ):∀kvs:List (κ×V),(kvs.any fun kv=>decide (kv.1=k))=(dR kvs k).isSome
 | []=>rfl
 | p::r=>by
  rw[List.any_cons];by_cases e:p.1=k
  ·simp only [O7 e,decide_eq_true e,Bool.true_or,Option.isSome_some]
  ·rw[O8 e,decide_eq_false e,Bool.false_or];exact Xr k r
theorem Xu(kvs:List (κ×V))(k:κ)(v:V):(putK kvs k v).length<=kvs.length+1:=by
 unfold putK;split
 ·rw[List.length_map];omega
 ·rw[List.length_append,List.length_cons,List.length_nil];omega
theorem jC.fQ{o:Option V}{u:Option Value}(r:jC o u):o.isSome=u.isSome:=by
 cases o with
 | none=>cases u with
  | none=>rfl
  | some _=>exact(show False from r).elim
 | some _=>cases u with
  | none=>exact(show False from r).elim
  | some _=>rfl
theorem jC.getD{o:Option V}{u:Option Value}{d:V}{d' :Value}(r:jC o u)(rd:RelV d d'):RelV (o.getD d) (u.getD d'):=by
 cases o with
 | none=>cases u with
  | none=>exact rd
  | some _=>exact(show False from r).elim
 | some _=>cases u with
  | none=>exact(show False from r).elim
  | some _=>exact r
theorem KV.val{kvs:List (κ×V)}{vs:List (κ×Value)}(r:KV kvs vs)(k:κ):jC (dR kvs k) (valueAt vs k):=by
 unfold KV at r;induction r with
 | nil=>exact True.intro
 | @cons p q ps qs h t ih=>
  obtain⟨h1,h2⟩:=h;by_cases e:p.1=k
  ·have e' :q.1=k:=h1.symm.trans e;have b:valueAt (q::qs) k=some q.2:=by simp [valueAt,List.find?_cons,e']
   rw[O7 e,b];exact h2
  ·have e' :¬q.1=k:=fun z=>e (h1.trans z);have b:valueAt (q::qs) k=valueAt qs k:=by simp [valueAt,List.find?_cons,e']
   rw[O8 e,b];exact ih
theorem KV.any{kvs:List (κ×V)}{vs:List (κ×Value)}(r:KV kvs vs)(k:κ):(kvs.any fun kv=>decide (kv.1=k))=vs.any fun kv=>decide (kv.1=k):=by
 unfold KV at r;induction r with
 | nil=>rfl
 | cons h t ih=>rw[List.any_cons,List.any_cons,ih,h.1]
theorem KV.repl{kvs:List (κ×V)}{vs:List (κ×Value)}(r:KV kvs vs)(k:κ){y:V}{u:Value}(ry:RelV y u):
  KV (kvs.map fun kv=>if kv.1=k then(kv.1,y) else kv) (vs.map fun kv=>if kv.1=k then(kv.1,u) else kv):=by
 unfold KV at r⊢;induction r with
 | nil=>exact .nil
 | @cons p q ps qs h t ih=>
  rw[List.map_cons,List.map_cons];refine .cons ?_ ih;obtain⟨h1,h2⟩:=h;by_cases e:p.1=k
  ·rw[if_pos e,if_pos (h1.symm.trans e)];exact⟨h1,ry⟩
  ·rw[if_neg e,if_neg (fun z=>e (h1.trans z))];exact⟨h1,h2⟩
theorem KV.put{kvs:List (κ×V)}{vs:List (κ×Value)}(r:KV kvs vs)(k:κ){y:V}{u:Value}(ry:RelV y u):KV (putK kvs k y) (stored vs k u):=by
 unfold putK stored;rw[r.any k];by_cases e:(vs.any fun kv=>decide (kv.1=k))=true
 ·rw[if_pos e,if_pos e];exact r.repl k ry
 ·rw[if_neg e,if_neg e];exact Paired.snoc r ⟨rfl,ry⟩
theorem KV.length{kvs:List (κ×V)}{vs:List (κ×Value)}(r:KV kvs vs):kvs.length=vs.length:=Paired.length r
end
theorem BZ{P:Program}{w:World}{k:Key}{u:Value}(r:RelV (kV k) u):(jd P w).is k u=true:=by
 cases k with
 | inl i=>obtain⟨t,e⟩:=(show∃t,u=Value.int i t from r);subst e;exact zpp P w i t
 | inr x=>obtain⟨t,e⟩:=(show∃t,u=Value.str x t from r);subst e;exact Wq P w x t
theorem Xv{P:Program}{w:World}:∀{ks:List Key} {us:List Value},Vals (ks.map kV) us ->ItemsAre (jd P w) ks us
 | [],_,r=>by rw[List.map_nil] at r;cases r;exact .nil
 | k::ks,_,r=>by
  rw[List.map_cons] at r;cases r with
  | cons h t=>exact .cons (BZ h) (Xv t)
abbrev KT(H:Hp):List (List Key×V) ->List (List Key×Addr×Value) ->Prop:=Paired fun p q=>p.1=q.1/\H q.2.1=some (.tup (p.1.map kV))/\RelV p.2 q.2.2
theorem KT.val{H:Hp}{kvs:List (List Key×V)}{xs:List (List Key×Addr×Value)}(r:KT H kvs xs)(k:List Key):jC (dR kvs k) ((atKey xs k).map (·.2)):=by
 induction r with
 | nil=>exact True.intro
 | @cons p q ps qs h t ih=>
  obtain⟨h1,_,h2⟩:=h;by_cases e:p.1=k
  ·have e' :q.1=k:=h1.symm.trans e;have b:atKey (q::qs) k=some q.2:=by simp [atKey,List.find?_cons,e']
   rw[O7 e,b];exact h2
  ·have e' :¬q.1=k:=fun z=>e (h1.trans z);have b:atKey (q::qs) k=atKey qs k:=by simp [atKey,List.find?_cons,e']
   rw[O8 e,b];exact ih
theorem KT.repl{H:Hp}{kvs:List (List Key×V)}{xs:List (List Key×Addr×Value)}(r:KT H kvs xs)(k:List Key){y:V}{u:Value}(ry:RelV y u):
  KT H (kvs.map fun kv=>if kv.1=k then(kv.1,y) else kv) (xs.map (putAt k u)):=by
 induction r with
 | nil=>exact .nil
 | @cons p q ps qs h t ih=>
  rw[List.map_cons,List.map_cons];refine .cons ?_ ih;obtain⟨h1,h2,h3⟩:=h;unfold putAt;by_cases e:p.1=k
  ·rw[if_pos e,if_pos (h1.symm.trans e)];exact⟨h1,h2,ry⟩
  ·rw[if_neg e,if_neg (fun z=>e (h1.trans z))];exact⟨h1,h2,h3⟩
theorem KT.put{H:Hp}{kvs:List (List Key×V)}{xs:List (List Key×Addr×Value)}(r:KT H kvs xs)(k:List Key){b:Addr}{y:V}{u:Value}(hb:H b=some (.tup (k.map kV)))(ry:RelV y u):
  KT H (putK kvs k y) (storedH xs k b u):=by
 have e:(kvs.any fun kv=>decide (kv.1=k))=(atKey xs k).isSome:=by
  rw[Xr,(r.val k).fQ,Option.isSome_map]
 unfold putK storedH;rw[e];by_cases q:(atKey xs k).isSome=true
 ·rw[if_pos q,if_pos q];exact r.repl k ry
 ·rw[if_neg q,if_neg q];exact Paired.snoc r ⟨rfl,hb,ry⟩
theorem KT.keeps{H H' :Hp}{kvs:List (List Key×V)}{xs:List (List Key×Addr×Value)}(r:KT H kvs xs)(ht:∀b ys,H b=some (.tup ys) ->H' b=some (.tup ys)):KT H' kvs xs:=
 Paired.mapP r fun _ _ z=>⟨z.1,ht _ _ z.2.1,z.2.2⟩
section
variable{P:Program}{w:World}{H:Hp}{h:Heap}{a:Addr}
theorem Xw{u:HO}(ok:ig P w H h)(e:Rd H a u):aV P w H h a u:=e.ok ok
theorem uU{kvs:List (Key×V)}(ok:ig P w H h)(e:Rd H a (.dK kvs)):kvs.length<=sizeLine/\ (a==sysModules)=false/\∃vs,KV kvs vs/\h.DictOf (jd P w) a vs:=
 show aV P w H h a (.dK kvs) from Xw ok e
theorem Fq{kvs:List (Key×V)}(ok:ig P w H h)(e:H a=some (.dK kvs)):kvs.length<=sizeLine/\ (a==sysModules)=false/\∃vs,KV kvs vs/\h.DictOf (jd P w) a vs:=uU ok (.inl e)
theorem Ca{ks:List Key}(ok:ig P w H h)(e:H a=some (.tup (ks.map kV))):(tupleKind (jd P w)).is h ks a:=by
 obtain⟨_,its,r,o,h1,h2,n,h3⟩:=(show aV P w H h a (.tup (ks.map kV)) from ok a _ e);exact⟨o,its.toArray,n,h1,h2,h3,by simpa using Xv r⟩
theorem yK{kvs:List (List Key×V)}(ok:ig P w H h)(e:Rd H a (.dT kvs)):kvs.length<=sizeLine/\ (a==sysModules)=false/\
  ∃xs,KT H kvs xs/\h.DictOfH (tupleKind (jd P w)) a xs:=by
 obtain⟨z,y,xs,r,o,es,ep,h1,h2,h3,h4,h5⟩:=(show aV P w H h a (.dT kvs) from Xw ok e);refine⟨z,y,xs,r,o,es,ep,h1,h2,h3,h4,fun x hx=> ?_,h5⟩;have all:∀{l:List (List Key×V)} {m:List (List Key×Addr×Value)},KT H l m ->∀x∈m,(tupleKind (jd P w)).is h x.1 x.2.1:=by
  intro l m q;induction q with
  | nil=>intro x hx;exact nomatch hx
  | @cons p q ps qs hq t ih=>
   intro x hx;rcases zT.mp hx with e | hx
   ·subst e;exact Ca ok (by rw[<- hq.1];exact hq.2.1)
   ·exact ih x hx
 exact all r x hx
theorem z69{kvs:List (List Key×V)}(ok:ig P w H h)(e:H a=some (.dT kvs)):kvs.length<=sizeLine/\ (a==sysModules)=false/\
  ∃xs,KT H kvs xs/\h.DictOfH (tupleKind (jd P w)) a xs:=yK ok (.inl e)
end
def iB(H:Hp)(a:Addr)(y:V)(r:Option V):Prop:=
 (∃kvs k,Rd H a (.dK kvs)/\y=kV k/\r=dR kvs k)\/∃kvs k b,Rd H a (.dT kvs)/\y= .ref b/\H b=some (.tup (k.map kV))/\r=dR kvs k
def oF(H:Hp)(a:Addr)(y v:V)(H' :Hp):Prop:=
 (∃kvs k,H a=some (.dK kvs)/\y=kV k/\kvs.length<sizeLine/\H' =upd H a (.dK (putK kvs k v)))\/
 ∃kvs k b,H a=some (.dT kvs)/\y= .ref b/\H b=some (.tup (k.map kV))/\kvs.length<sizeLine/\H' =upd H a (.dT (putK kvs k v))
theorem iB.k{H:Hp}{a:Addr}{kvs:List (Key×V)}{k:Key}(e:H a=some (.dK kvs)):iB H a (kV k) (dR kvs k):= .inl ⟨kvs,k,.inl e,rfl,rfl⟩
theorem oF.k{H:Hp}{a:Addr}{kvs:List (Key×V)}{k:Key}{v:V}(e:H a=some (.dK kvs))(hl:kvs.length<sizeLine):oF H a (kV k) v (upd H a (.dK (putK kvs k v))):= .inl ⟨kvs,k,e,rfl,hl,rfl⟩
section
variable{X:Cx}{pins:bD}{σ:St}{H:Hp}{s:Shared}{a:Addr}{y v:V}{u r:Value}{o:Option V}{A:Around}{E:bL}
theorem Inv.big(I:Inv X pins σ H s):sysModules<s.heap.objs.size:=by
 have h:mainGlobals<s.heap.objs.size:=(I.mod.glob.keeps I.bk).lt;exact Nat.lt_trans (by decide) h
theorem zv0{Q:bL}(hu:A.units+1<cLine)(I:Inv X pins σ H s)(g:iB H a y (some v))(ry:RelV y u)(h:∀w' s',Inv X pins σ H s' ->RelV v w' ->Q w' s'):
  wpAny (model X.prog X.w) A (getItem (.ref a) u) Q E s:=by
 rcases g with ⟨kvs,k,e,ey,l⟩ | ⟨kvs,k,b,e,ey,eb,l⟩
 ·subst ey;obtain⟨z,hd,vs,rel,dd⟩:=uU I.hok e;obtain⟨w',hw,jR⟩:=jC.some_of (v:=v) (o:=valueAt vs k) (by rw[l];exact rel.val k)
  exact wpAny_getItem_of (BZ ry) dd.mapOf hw (h w' _ (I.tok _) jR)
 ·subst ey;cases (show u=Value.ref b from ry);obtain⟨z,hd,xs,rel,dd⟩:=yK I.hok e;obtain⟨w',hw,jR⟩:=jC.some_of (v:=v) (o:=(atKey xs k).map (·.2)) (by rw[l];exact rel.val k)
  obtain⟨p,hp,hp2⟩:=Option.map_eq_some_iff.mp hw;refine wpAny_getItem_heap (tupleKind_room_in1 hu) (Ca I.hok eb) dd hp ?_;rw[hp2];exact h w' _ (I.tok _) jR
theorem O9{Q:bL}(hu:A.units+1<cLine)(I:Inv X pins σ H s)(g:iB H a y o)(ry:RelV y u)(h:∀s',Inv X pins σ H s' ->Q (.bool o.isSome) s'):
  wpAny (model X.prog X.w) A (compareOp .In u (.ref a)) Q E s:=by
 rcases g with ⟨kvs,k,e,ey,l⟩ | ⟨kvs,k,b,e,ey,eb,l⟩
 ·subst ey;obtain⟨z,hd,vs,rel,dd⟩:=uU I.hok e;refine wpAny_in_of (BZ ry) hd dd.mapOf ?_;rw[<- (rel.val k).fQ,<- l];exact h _ (I.tok _)
 ·subst ey;cases (show u=Value.ref b from ry);obtain⟨z,hd,xs,rel,dd⟩:=yK I.hok e;refine wpAny_in_heap (tupleKind_room_in1 hu) (Ca I.hok eb) hd dd ?_;have q:=(rel.val k).fQ;rw[Option.isSome_map] at q;rw[<- q,<- l];exact h _ (I.tok _)
theorem z3p{Q:bL}(hu:A.units+1<cLine)(I:Inv X pins σ H s)(g:iB H a y o)(ry:RelV y u)(h:∀s',Inv X pins σ H s' ->Q (.bool (!o.isSome)) s'):
  wpAny (model X.prog X.w) A (compareOp .NotIn u (.ref a)) Q E s:=by
 rcases g with ⟨kvs,k,e,ey,l⟩ | ⟨kvs,k,b,e,ey,eb,l⟩
 ·subst ey;obtain⟨z,hd,vs,rel,dd⟩:=uU I.hok e;refine wpAny_notIn_of (BZ ry) hd dd.mapOf ?_;rw[<- (rel.val k).fQ,<- l];exact h _ (I.tok _)
 ·subst ey;cases (show u=Value.ref b from ry);obtain⟨z,hd,xs,rel,dd⟩:=yK I.hok e;refine wpAny_notIn_heap (tupleKind_room_in1 hu) (Ca I.hok eb) hd dd ?_;have q:=(rel.val k).fQ;rw[Option.isSome_map] at q;rw[<- q,<- l];exact h _ (I.tok _)
theorem Xx{h' :Heap}{t' :Nat}{ob:HO}(I:Inv X pins σ H s)(mu:DY (H a))(hs:Heap.SameBut a s.heap h')(he:∃q,h'.get? a=some q)(new:aV X.prog X.w (upd H a ob) h' a ob):
  Inv X pins σ (upd H a ob) {s with heap:=h',toks:=t'}:=
 I.write (x:=a) (e:=a) mu (.inl rfl) (fun b q hb z=>(hs.2 b hb).trans z) he new
theorem z50{P:Program}{w:World}{H' :Hp}{h' :Heap}{kvs:List (Key×V)}{vs:List (Key×Value)}(z:kvs.length<=sizeLine)(hd:(a==sysModules)=false)(rel:KV kvs vs)(dd:h'.DictOf (jd P w) a vs):
  aV P w H' h' a (.dK kvs):=⟨z,hd,vs,rel,dd⟩
theorem zun{H' :Hp}{Q:Unit ->Shared ->Prop}(hu:A.units+1<cLine)(I:Inv X pins σ H s)(g:oF H a y v H')(ry:RelV y u)(rv:RelV v r)(h:∀s',Inv X pins σ H' s' ->Q () s'):
  wpAny (model X.prog X.w) A (setItem (.ref a) u r) Q E s:=by
 rcases g with ⟨kvs,k,e,ey,l,eH⟩ | ⟨kvs,k,b,e,ey,eb,l,eH⟩
 ·subst ey eH;obtain⟨z,hd,vs,rel,dd⟩:=Fq I.hok e;have hz:vs.length<=sizeLine:=by rw[<- rel.length];exact z
  have hl:(putK kvs k v).length<=sizeLine:=by have:=Xu kvs k v;omega
  refine wpAny_setItem_pairs (hsz:=hz) (BZ ry) dd fun h' Ft hs=>h _ ?_;have he:∃q,h'.get? a=some q:=let ⟨q,_,_,hq,_⟩:=Ft;⟨q,hq⟩;exact Xx I (by rw[e];exact True.intro) hs he (z50 hl hd (rel.put k rv) Ft)
 ·subst ey eH;cases (show u=Value.ref b from ry);obtain⟨z,hd,xs,rel,dd⟩:=z69 I.hok e;have hz:xs.length<=sizeLine:=by rw[<- Paired.length rel];exact z
  have hl:(putK kvs k v).length<=sizeLine:=by have:=Xu kvs k v;omega
  refine wpAny_setItem_heap (hsz:=hz) (tupleKind_room_in1 hu) (Ca I.hok eb) dd fun h' Ft hs=>h _ ?_;obtain⟨q,es,ep,hq,h2,h3,h4,_,h5⟩:=Ft;refine Xx I (by rw[e];exact True.intro) hs ⟨q,hq⟩ ⟨hl,hd,_,(rel.put k eb rv).keeps fun c ys ec=> ?_,q,es,ep,hq,h2,h3,h4,h5⟩
  rw[dH (z6n ec e (fun z=>nomatch z))];exact ec
end
section
variable{X:Cx}{pins:bD}{σ:St}{H:Hp}{s:Shared}{a:Addr}{kvs:List (Key×V)}{k:Key}{u:Value}{A:Around}{E:bL}
theorem z7f{Q:bL}(I:Inv X pins σ H s)(e:Rd H a (.dK kvs))(h:∀t s',Inv X pins σ H s' ->Q (.int kvs.length t) s'):wpAny (model X.prog X.w) A (call (.builtin "len") [.ref a]) Q E s:=by
 obtain⟨z,hd,vs,rel,dd⟩:=uU I.hok e;refine call_len_dict hd dd (by rw[<- rel.length];rw[sizeLine_eq] at z;omega) ?_
 rw[<- rel.length];exact h _ _ (I.tok _)
end
def vL(i:Expr):Prop:=∀ov iv,subscripted i false ov iv=operate [ov,iv] (getItem ov iv)
theorem z3d{prog:Program}{w:World}{A:Around}{E:bL}{s:Shared}{env:Env}{value slice:Expr}{pos:Pos}{T id:String}{Q:bL}
  (hl:typeLookup (.type T) "__getitem__" =pure (some (.builtin id))) (hs:vL slice)
  (h:wpAny (model prog w) A (eval value env) (fun o s₁=>wpAny (model prog w) A (eval slice env) (fun i s₂=>s₂.TypeIs o T/\wpAny (model prog w) A (getItem o i) Q E s₂) E s₁) E s):
  wpAny (model prog w) A (eval (.Subscript value slice pos) env) Q E s:=by
 refine Subscript_ (wpAny_mono h (fun o s₁ h₁=>wpAny_mono h₁ (fun i s₂ h₂=> ?_) fun _ _ x=>x) fun _ _ x=>x);obtain⟨hT,h₂⟩:=h₂;unfold subscriptTail;refine z8 ?_;rw[getitemInPython_of_ne hT.not_modules];refine z8 (wpAny_specialOf hT hl ?_);have fin:wpAny (model prog w) A (subscripted slice false o i) (fun r s₃=>wpAny (model prog w) A (letTemporaryGo value o r>>=fun _=>pure r) Q E s₃) E s₂:=by
  rw[hs o i];exact wpAny_operating (wpAny_mono h₂ (fun r s₃ h₃=>z8 (wpAny_letTemporaryGo (z9 h₃))) fun _ _ x=>x)
 first
  | exact z9 (z8 fin)
  | exact z8 (z9 (z8 fin))
  | exact z8 fin
theorem zq6{X:Cx}{pins:bD}{σ:St}{H:Hp}{s:Shared}{a:Addr}{y:V}{o:Option V}(I:Inv X pins σ H s)(g:iB H a y o):s.TypeIs (.ref a) "dict" :=by
 rcases g with ⟨kvs,k,e,_,_⟩ | ⟨kvs,k,b,e,_,_,_⟩
 ·obtain⟨_,_,vs,_,dd⟩:=uU I.hok e;exact dd.typeIs
 ·obtain⟨_,_,xs,_,dd⟩:=yK I.hok e;exact dd.typeIs
def Fv(td ty:TE):TE:=fun σ H Q=>td σ H fun x H1=>ty σ H1 fun y H2=>∃a v,x= .ref a/\iB H2 a y (some v)/\Q v H2
def Pa(ty td:TE):TE:=fun σ H Q=>ty σ H fun y H1=>td σ H1 fun x H2=>∃a o,x= .ref a/\iB H2 a y o/\Q (.bl o.isSome) H2
def z3g(ty td:TE):TE:=fun σ H Q=>ty σ H fun y H1=>td σ H1 fun x H2=>∃a o,x= .ref a/\iB H2 a y o/\Q (.bl (!o.isSome)) H2
def Fw(td ty tv:TE):TS:=fun D σ H=>tv σ H fun v H1=>td σ H1 fun x H2=>ty σ H2 fun y H3=>∃a H4,x= .ref a/\oF H3 a y v H4/\D.nx σ H4
def Xy(td ty tv:TE)(rd:V ->V ->Hp ->VK ->Prop):TS:=fun D σ H=>td σ H fun x H1=>ty σ H1 fun y H2=>∃a v,x= .ref a/\iB H2 a y (some v)/\
 tv σ H2 fun y2 H3=>rd v y2 H3 fun z H4=>∃H5,oF H4 a y z H5/\D.nx σ H5
def Xz(td ty:TE):TS:=fun D σ H=>td σ H fun x H1=>ty σ H1 fun y H2=>∃a kvs k,x= .ref a/\H2 a=some (.dK kvs)/\y=kV k/\ (dR kvs k).isSome=true/\D.nx σ (upd H2 a (.dK (qG kvs k)))
section
variable{X:Cx}{o i e value:Expr}{pos pos' tpos:Pos}{td ty tv:TE}
theorem XC(hu:X.A.units+1<cLine)(ho:PE X o td)(hi:PE X i ty)(hs:vL i):PE X (.Subscript o i pos) (Fv td ty):=by
 intro pins s σ H Q I h;refine z3d PySem.F.slot_dict_getitem.lookup hs (bG (ho pins s σ H _ I h) fun u s1 ⟨x,H1,I1,rx,q1⟩=>bG (hi pins s1 σ H1 _ I1 q1) fun iv s2 ⟨y,H2,I2,ry,a,v,ex,g,q2⟩=> ?_);subst ex;obtain rfl:u=Value.ref a:=rx;exact⟨zq6 I2 g,zv0 hu I2 g ry fun w' s3 I3 jR =>⟨v,H2,I3,jR,q2⟩⟩
theorem z4k(hu:X.A.units+1<cLine)(hi:PE X i ty)(ho:PE X o td):PC X .In i o (Pa ty td):=by
 intro pins s σ H Q I h;refine bG (hi pins s σ H _ I h) fun iv s1 ⟨y,H1,I1,ry,q1⟩=>bG (ho pins s1 σ H1 _ I1 q1) fun u s2 ⟨x,H2,I2,rx,a,ov,ex,g,q2⟩=> ?_;subst ex;obtain rfl:u=Value.ref a:=rx;exact O9 hu I2 g ry fun s3 I3=>⟨.bl ov.isSome,H2,I3,rfl,q2⟩
theorem zvg(hu:X.A.units+1<cLine)(hi:PE X i ty)(ho:PE X o td):PC X .NotIn i o (z3g ty td):=by
 intro pins s σ H Q I h;refine bG (hi pins s σ H _ I h) fun iv s1 ⟨y,H1,I1,ry,q1⟩=>bG (ho pins s1 σ H1 _ I1 q1) fun u s2 ⟨x,H2,I2,rx,a,ov,ex,g,q2⟩=> ?_;subst ex;obtain rfl:u=Value.ref a:=rx;exact z3p hu I2 g ry fun s3 I3=>⟨.bl (!ov.isSome),H2,I3,rfl,q2⟩
theorem Pb(hu:X.A.units+1<cLine)(ho:PE X o td)(hi:PE X i ty)(hv:PE X value tv)(hs:swapsWith value (some (.Subscript o i pos')) pos.line X.env=pure false):
  PS X (.Assign [.Subscript o i pos'] value pos) (Fw td ty tv):=by
 intro pins s σ H D I h;refine wpAny_Assign_Subscript (bG (hv pins s σ H _ I h) fun r s1 ⟨v,H1,I1,rv,q1⟩=>bG (ho pins s1 σ H1 _ I1 q1) fun u s2 ⟨x,H2,I2,rx,q2⟩=>bG (hi pins s2 σ H2 _ I2 q2) fun iv s3 ⟨y,H3,I3,ry,a,H4,ex,g,q3⟩=> ?_) hs;subst ex;obtain rfl:u=Value.ref a:=rx;exact zun hu I3 g ry rv fun s4 I4=>⟨σ,H4,I4,q3⟩
end
theorem zx6{P:Program}{w:World}{H:Hp}(h:Heap)(hb:sysModules<h.objs.size):aV P w H (h.push {cls:= .type "dict",data:= .dict #[]}) h.objs.size (.dK []):=
 ⟨Nat.zero_le _,beq_eq_false_iff_ne.mpr (Ne.symm (zJ hb)),[],.nil,Heap.DictOf.new h⟩
def yL:TE:=fun _ H Q=>∀p,H p=none ->Q (.ref p) (upd H p (.dK []))
def Pg:TE:=fun _ H Q=>∀p,H p=none ->Q (.ref p) (upd H p (.dT []))
section
variable{X:Cx}{pos:Pos}
theorem zz0:PE X (.Dict [] [] pos) yL:=fun pins s σ H Q I h=>
 wpAny_Dict_empty ⟨.ref s.heap.objs.size,_,I.laid (a:=s.heap.objs.size) (o:= .dK []) (t' :=s.toks) (fun _ _ q=>zZ _ q) (zM _) (zx6 s.heap I.big),rfl,h _ (I.hok.fresh (zM _))⟩
end
def pU:List (TE×TE) ->St ->Hp ->(List (V×V) ->Hp ->Prop) ->Prop
 | [],_,H,Q=>Q [] H
 | (tk,tv)::r,σ,H,Q=>tk σ H fun x H1=>tv σ H1 fun y H2=>pU r σ H2 fun ps H3=>Q ((x,y)::ps) H3
abbrev VV:List (V×V) ->List (Value×Value) ->Prop:=Paired fun p q=>RelV p.1 q.1/\RelV p.2 q.2
def PPs(X:Cx)(pos:Pos)(keys:List (Option Expr))(values:List Expr)(Ph:List (TE×TE)):Prop:=
 ∀(pins:bD) (s:Shared) (σ:St) (H:Hp) (Q:List (V×V) ->Hp ->Prop),Inv X pins σ H s ->pU Ph σ H Q ->
  wpAny (model X.prog X.w) X.A (evalPairs (pairTrees keys values X.env pos)) (fun vs s' =>∃ps H',Inv X pins σ H' s' /\VV ps vs/\Q ps H') X.xe s
def yM(kvs more:List (Key×V)):List (Key×V):=more.foldl (fun acc kv=>putK acc kv.1 kv.2) kvs
def XD(Ph:List (TE×TE)):TE:=fun σ H Q=>∀p,H p=none ->pU Ph σ (upd H p (.dK [])) fun ps H2=>H2 p=some (.dK [])/\∃kvs:List (Key×V),ps=kvs.map (fun kv=>(kV kv.1,kv.2))/\kvs.length<=15/\Q (.ref p) (upd H2 p (.dK (yM [] kvs)))
structure M1 (X:Cx) (o:Expr) (m:Str) (apos:Pos) (e:Expr) (cpos:Pos):Prop where
 base:attributeBase o m X.env (eval o X.env)=eval o X.env
 few:((backTo cpos (starEach [e] X.env)).all (fun x=> !x.1)&&(backToKw cpos (keywordEach [] X.env)).all (fun x=>x.1.isSome)
  &&decide (([e]:List Expr).length+ ([]:List Keyword).length+ (if ([]:List Keyword).isEmpty then 0 else 1)<30))=true
 line:(apos.endLine==cpos.line)=true
 trees:backTo cpos (starEach [e] X.env)= [(false,eval e X.env)]
structure M2 (X:Cx) (o:Expr) (m:Str) (apos:Pos) (e f:Expr) (cpos:Pos):Prop where
 base:attributeBase o m X.env (eval o X.env)=eval o X.env
 few:((backTo cpos (starEach [e,f] X.env)).all (fun x=> !x.1)&&(backToKw cpos (keywordEach [] X.env)).all (fun x=>x.1.isSome)
  &&decide (([e,f]:List Expr).length+ ([]:List Keyword).length+ (if ([]:List Keyword).isEmpty then 0 else 1)<30))=true
 line:(apos.endLine==cpos.line)=true
 trees:backTo cpos (starEach [e,f] X.env)= [(false,eval e X.env),(false,eval f X.env)]
def Ce(H:Hp)(a:Addr):Prop:=(∃kvs,Rd H a (.dK kvs))\/∃kvs,Rd H a (.dT kvs)
theorem Pj{X:Cx}{pins:bD}{σ:St}{H:Hp}{s:Shared}{a:Addr}(I:Inv X pins σ H s)(d:Ce H a):
  s.TypeIs (.ref a) "dict" /\ (∀b,Value.ref a= .ref b ->∃ob,s.heap.get? b=some ob/\ob.dict=none)/\ (a==sysModules)=false:=by
 rcases d with ⟨kvs,e⟩ | ⟨kvs,e⟩
 ·obtain⟨_,hd,vs,_,dd⟩:=uU I.hok e;refine⟨dd.typeIs,fun b q=> ?_,hd⟩;cases q;obtain⟨ob,_,_,h1,h2,_⟩:=dd;exact⟨ob,h1,h2.2.1⟩
 ·obtain⟨_,hd,xs,_,dd⟩:=yK I.hok e;refine⟨dd.typeIs,fun b q=> ?_,hd⟩;cases q;obtain⟨ob,_,_,h1,h2,_⟩:=dd;exact⟨ob,h1,h2.2.1⟩
section
variable{X:Cx}{pins:bD}{σ:St}{H:Hp}{s:Shared}{a:Addr}{y d:V}{u r:Value}{o:Option V}{A:Around}{E:bL}
theorem z4r{Q:bL}(hu:A.units+1<cLine)(I:Inv X pins σ H s)(g:iB H a y o)(ry:RelV y u)(rd:RelV d r)(h:∀w' s',Inv X pins σ H s' ->RelV (o.getD d) w' ->Q w' s'):
  wpAny (model X.prog X.w) A (call (.builtin "dict.get") [.ref a,u,r]) Q E s:=by
 rcases g with ⟨kvs,k,e,ey,l⟩ | ⟨kvs,k,b,e,ey,eb,l⟩
 ·subst ey;obtain⟨z,hd,vs,rel,dd⟩:=uU I.hok e;refine call_meetsIn PySem.F.slot_dict_get dd.typeIs PySem.F.entry_dict_get (PySem.F.args_dict_get_3 _ _ _) (meets_dict_get_default (jd X.prog X.w) a (BZ ry) hd r) ⟨_,dd.mapOf,h _ _ (I.tok _) ?_⟩;rw[l];exact(rel.val k).getD rd
 ·subst ey;cases (show u=Value.ref b from ry);obtain⟨z,hd,xs,rel,dd⟩:=yK I.hok e;refine call_meetsIn PySem.F.slot_dict_get dd.typeIs PySem.F.entry_dict_get (PySem.F.args_dict_get_3 _ _ _) (meetsH_dict_get_default (tupleKind (jd X.prog X.w)) a b hd r) ⟨tupleKind_room_in1 hu,k,xs,Ca I.hok eb,dd,h _ _ (I.tok _) ?_⟩;rw[l];exact(rel.val k).getD rd
end
def Pk(td ty:TE):TE:=fun σ H Q=>td σ H fun x H1=>∃a,x= .ref a/\Ce H1 a/\ty σ H1 fun y H2=>∃o,iB H2 a y o/\Q (o.getD .non) H2
def yN(td ty tx:TE):TE:=fun σ H Q=>td σ H fun x H1=>∃a,x= .ref a/\Ce H1 a/\ty σ H1 fun y H2=>tx σ H2 fun z H3=>∃o,iB H3 a y o/\Q (o.getD z) H3
def Pn(td ty:TE):TE:=fun σ H Q=>td σ H fun x H1=>∃a,x= .ref a/\Ce H1 a/\ty σ H1 fun y H2=>∃kvs k v,H2 a=some (.dK kvs)/\y=kV k/\dR kvs k=some v/\Q v (upd H2 a (.dK (qG kvs k)))
def Pr(td ty tx:TE):TE:=fun σ H Q=>td σ H fun x H1=>∃a,x= .ref a/\Ce H1 a/\ty σ H1 fun y H2=>tx σ H2 fun z H3=>∃kvs k,H3 a=some (.dK kvs)/\y=kV k/\
 (∀v,dR kvs k=some v ->Q v (upd H3 a (.dK (qG kvs k))))/\ (dR kvs k=none ->Q z H3)
section
variable{X:Cx}{o e f:Expr}{apos cpos:Pos}{td ty tx:TE}
theorem zzb(hu:X.A.units+1<cLine)(ho:PE X o td)(he:PE X e ty)(hf:PE X f tx)(m:M2 X o "get" apos e f cpos):PE X (.Call (.Attribute o "get" apos) [e,f] [] cpos) (yN td ty tx):=by
 intro pins s σ H Q I h;refine wpAny_Call_method m.base m.few m.line PySem.F.plainAttrs_dict PySem.F.slot_dict_get PySem.F.type_dict_get (bG (ho pins s σ H _ I h) fun u s1 Pu=> ?_);obtain⟨x,H1,I1,rx,a,ex,d,q1⟩:=Pu;subst ex;obtain rfl:u=Value.ref a:=rx;obtain⟨t1,t2,_⟩:=Pj I1 d;refine⟨t1,t2,?_⟩;rw[m.trees];refine Calls.callWith_builtin rfl (Calls.evalArgs_plain (Calls.spliced_cons (bG (he pins s1 σ H1 _ I1 q1) fun iv s2 ⟨y,H2,I2,ry,q2⟩=>
  Calls.spliced_cons (bG (hf pins s2 σ H2 _ I2 q2) fun fv s3 ⟨z,H3,I3,rz,ov,g,q3⟩=>Calls.spliced_nil ?_))))
 exact z4r hu I3 g ry rz fun w' s4 I4 jR =>⟨_,H3,I4,jR,q3⟩
end
section
variable{X:Cx}{pins:bD}{σ:St}{H:Hp}{s:Shared}{a:Addr}{kvs:List (Key×V)}{A:Around}{E:bL}
end
section
variable{X:Cx}{pins:bD}{σ:St}{H:Hp}{s:Shared}{a:Addr}{y:V}{u:Value}{A:Around}{E:bL}
end
end L2
namespace XF
open PySem PySem.W PySem.Calls PyProof.Rows
theorem zju{P:Params}{h:Heap}:∀(ns:List Int) (vs:List Value),WellAll P h vs (ns.map WData.int) ->IntsAre vs ns:=by
 intro ns;induction ns with
 | nil=>
  intro vs w;rw[List.map_nil] at w;cases w;exact .nil
 | cons n ns ih=>
  intro vs w;rw[List.map_cons] at w;cases w with
  | cons a b=>
   cases a;exact .cons _ _ (ih _ b)
theorem zwi{l:OpenLaw}{n:Nat}(hn:l.most=some n){P:Params}{h:Heap}{args:List WData}{vals:List Value}
  (hpre:l.row.toRowW.claim.pre args=true) (hwl:WellAll P h vals args):
  ∃a vs ns,vals= [Value.ref a]/\args= [WData.list (ns.map WData.int)]/\h.get? a=some {cls:= .type "list",data:= .seq vs.toArray}/\IntsAre vs ns/\ns.length<=n:=by
 have hsh:WShape.hasAll [] args [.list .int]=true:=(pre_splitW hpre).1;have hc:l.pre.holds [] {args:=args}=true:=(pre_splitW hpre).2;obtain⟨d,r,rfl,h1,h2⟩:=hasAllW_cons hsh;obtain rfl:=hasAllW_nil h2;obtain⟨xs,rfl,h3⟩:=hasW_list h1;obtain⟨ns,rfl⟩:=items_int h3;have hlen:ns.length<=n:=by
  unfold OpenLaw.pre at hc;have h4:(WTm.not (.lt (.lit (.int (n:Int))) (.len (.arg 0)))).holds [] {args:= [.list (ns.map .int)]}=true:=by
   have h4:=(holds_andW hc).1;rw[hn] at h4;exact h4
  have h5:=condW_of h4 (w_not (w_lt w_lit (w_len_list (w_arg rfl))));rw[List.length_map] at h5;refine Nat.le_of_not_lt fun q=> ?_;have q' :(n:Int)< ((ns.length:Nat):Int):=by omega
  first
   | (rw[decide_eq_true q'] at h5;exact absurd h5 (by decide))
   | (simp at h5;omega)
 cases hwl with
 | cons w1 w2=>
  cases w2;cases w1 with
  | list ho hall=>exact⟨_,_,ns,rfl,rfl,ho,zju ns _ hall,hlen⟩
theorem zu3(l:OpenLaw)(args:List WData):l.row.toRowW.claim.post args (.bool true) args=true:=
 postW_of (r:=l.row.toRowW) (X:=(true==true))
  (show WShape.has [] (.bool true) .bool=true by first | rfl | decide | simp [WShape.has,WShape.arms,WShape.armsAll])
  (show(WTm.eq .res (.lit (.bool true))).value [] {args:=args,res:=some (.bool true),after:=args}=some (.bool (true==true)) from w_eq_bool (w_res rfl) w_lit) rfl
theorem oG{l:OpenLaw}{n:Nat}{q:Program}{loose:List Str}{XP:(Str ->Option Value) ->Heap ->Prop}{YP:World ->Heap ->Prop}{d:DefRec}
  (hn:l.most=some n) (hdf:d.params.defaults= [])
  (call:∀(w:World) (s₀ s₁:Shared) (mg mb:Str ->Option Value) (fa:Addr) (o:Obj) (pm cd doc:Value) (a:Addr) (vs:List Value) (ns:List Int),
   Ground q loose [] XP w s₀ mg mb s₁.heap ->YP w s₁.heap ->
   s₁.heap.get? fa=some o ->o.data= .func (docDef d.name d.params d.body d.scope pm cd doc) ->s₁.heap.CodeRec cd d.name ->mg d.name=some (.ref fa) ->
   s₁.heap.get? a=some {cls:= .type "list",data:= .seq vs.toArray} ->IntsAre vs ns ->ns.length<=n ->s₁.gens= #[] ->
   codeAny (model l.prog w) callerA (.call (.ref fa) ⟨[.ref a],[]⟩) (fun r s' =>r= .ok (.ret (.bool true))/\OldK s₁.heap s'.heap/\s'.os=s₁.os/\AllBare s'.gens) s₁):
  WalkO q loose XP YP l.row.toRowW d [] (fun f vs=>PySem.call f vs):=by
 intro w s₀ s₁ mg mb G Y fa o pm cd doc dV kV ho hd hcd hD hmg hg args vals as hpre hlay hrd hwl hlo;obtain rfl:dV= .none:=Dflts.none hD hdf;obtain rfl:kV= .none:=Dflts.noKw hD;obtain⟨a,vs,ns,rfl,rfl,hobj,hints,hlen⟩:=zwi hn hpre hwl;refine enter_call (codeAny_mono (call w s₀ s₁ mg mb fa o pm cd doc a vs ns G Y ho (fd_plain hd) hcd hmg hobj hints hlen hg) fun r s' hq=> ?_);obtain⟨rfl,h2,h3,h4⟩:=hq;exact⟨.inl ⟨.bool true,.bool true,[],rfl,fun _=>rfl,.bool true,zu3 l _,fun _=>⟨List.Pairwise.nil,fun _ hm=>(nomatch hm)⟩⟩,h2,h3,h4⟩
section
variable{prog:Program}{w:World}{A:Around}{E:bL}{s:Shared}{K:Frag}
def Px(h:Heap):Heap:={h with objs:= #[]}
def ledger(h:Heap)(L d:Addr):bD:=(List.range h.objs.size).filterMap fun a=>if a=L\/a=d then none else(h.get? a).map fun o=>(a,o)
end
end XF
namespace L2
open PySem PySem.Spec PyProof.Rows
theorem XH:∀{vs:List Value} {ns:List Int},IntsAre vs ns ->Vals (ns.map V.int) vs
 | _,_,.nil=> .nil
 | _,_,.cons n t h=> .cons ⟨t,rfl⟩ (XH h)
def Only(H:Hp):Prop:=∀b,H b=none\/∃o xs,H b=some (.frz o (.lst xs))
theorem zzv{P:Program}{w:World}{K:W.Frag}{mg mb:Str ->Option Value}{CX:rA}{k:Nat}{fa a:Addr}{fd:FuncData}{x:Str}{sp:Sp}{s₁:Shared}{vs:List Value}{ns:List Int}
  (KX:K.In s₁.heap) (hns:s₁.heap.Ns mainGlobals mg) (hb:s₁.heap.Ns builtinsNs mb) (hbb:∀x:Str,x≠ "__name__" ->mb x=bootBuiltins x) (hlim:s₁.heap.NoLimit) (hg:s₁.gens= #[])
  (ha:s₁.heap.get? a=some {cls:= .type "list",data:= .seq vs.toArray}) (hi:IntsAre vs ns) (hl:ns.length<=sizeLine) (hr:fB k callerA)
  (F:∀base:Heap,K.In base ->base.Ns mainGlobals mg ->eY P w K mg base CX k fa fd [x] sp) (hbind:∀(s:Shared) (u:Value),BindsTo s fd ⟨[u],[]⟩ [(x,u)])
  (hsp:∀H:Hp,Only H ->fZ K H a (ns.map V.int) ->sp [.ref a] H (fun v _=>v= .bl true) fun _ _ _=>False)
  (Py:∀H e s',CX [] H s₁ (fun _ _ _=>False) e s' ->False):
  codeAny (model P w) callerA (.call (.ref fa) ⟨[.ref a],[]⟩) (fun r s' =>r= .ok (.ret (.bool true))/\OldK s₁.heap s'.heap/\s'.os=s₁.os/\AllBare s'.gens) s₁:=by
 have rv:=XH hi;have lenV:=hi.length
 
 have core:∀H:Hp,Only H ->fZ K H a (ns.map V.int) ->ig P w H s₁.heap ->(∀b,H b≠none ->b=a) ->(H a≠none ->K.lookup a=none) ->
   codeAny (model P w) callerA (.call (.ref fa) ⟨[.ref a],[]⟩) (fun r s' =>r= .ok (.ret (.bool true))/\OldK s₁.heap s'.heap/\s'.os=s₁.os/\AllBare s'.gens) s₁:=by
  intro H hO hS hok hA hK;have qH:∀{b:Addr} {o:Obj},s₁.heap.get? b=some o ->H b=none ->(nj s₁.heap H).get? b=some o:=fun e n=>zzf e n;have Fd:∀{b:Addr} {o:Obj} {es:Array DictEntry} {ep:Nat},s₁.heap.get? b=some o ->o.data= .dict es ep ->H b=none:=fun{b o es ep} e d=>by
   cases q:H b with
   | none=>rfl
   | some u=>
    have e' :b=a:=hA b (by rw[q];simp)
    subst e';rw[ha] at e;cases e;have d' :Data.seq vs.toArray _=Data.dict es ep:=d;cases d'
  have J4:∀{b:Addr} {m:Str ->Option Value},s₁.heap.Ns b m ->(nj s₁.heap H).Ns b m:=fun{b m} Fy=>by obtain⟨o,es,ep,e,d,r⟩:=Fy;exact⟨o,es,ep,qH e (Fd e d),d,r⟩
  have XJ:K.In (nj s₁.heap H):=fun b o e=>qH (KX b o e) (by
   cases q:H b with
   | none=>rfl
   | some u=>
    have e' :b=a:=hA b (by rw[q];simp)
    subst e';rw[hK (by rw[q];simp)] at e;cases e)
  have hM:Mod K mg (nj s₁.heap H):=⟨XJ,J4 hns,⟨mb,J4 hb,hbb⟩,let ⟨mc,h1,h2⟩:=hlim;⟨mc,J4 h1,h2⟩⟩;have e0:vH P w K mg (nj s₁.heap H) callerA [] s₁ H:=⟨rfl,hM,fun b o e=>z28 e,Nat.le_of_eq (zxp _ _),trivial,fun b hb=>absurd (show b∈ ([]:List Addr) from hb) (by simp),hok,.of_eq hg⟩
  refine codeAny_mono ((F _ XJ (J4 hns)).run callerA [] s₁ H ⟨[.ref a],[]⟩ [.ref a] [.ref a] _ _ hr e0 (hbind s₁ (.ref a)) (.cons rfl .nil) (hsp H hO hS)) fun r s' h=> ?_;cases r with
  | error e=>exact(Py H e s' h).elim
  | ok fl=>
   cases fl with
   | next=>exact False.elim h
   | brk=>exact False.elim h
   | cont=>exact False.elim h
   | ret u=>
    obtain⟨v,H',os,bare,un,hok',r',q⟩:=h;have q' :v= .bl true:=q;subst q';obtain rfl:u=Value.bool true:=r';refine⟨rfl,OldK.of_keep fun b o e=> ?_,os,bare⟩;cases q:H b with
    | none=>exact un.keep b o e q (by intro z;exact absurd (show b∈ ([]:List Addr) from z) (by simp)) (by simp)
    | some u=>
     rcases hO b with z | ⟨ob,xs,z⟩
     ·rw[q] at z;cases z
     ·have z2:=un.mF b ob _ z;obtain⟨e1,_⟩:=hok b _ z;obtain⟨e2,_⟩:=hok' b _ z2;rw[e] at e1;cases e1;exact e2
 cases hk:K.lookup a with
 | some o=>
  
  have e:=KX a o hk;rw[ha] at e;cases e;refine core (fun _=>none) (fun _=> .inl rfl) (.inr ⟨_,vs.toArray,_,hk,rfl,rfl,rfl,by rw[List.size_toArray,lenV];exact hl,by simpa using rv⟩) (fun b u z=>by have z' :(none:Option HO)=some u:=z;cases z') (fun b z=>absurd rfl z) fun z=>absurd rfl z
 | none=>
  refine core (fun b=>if b=a then some (.frz {cls:= .type "list",data:= .seq vs.toArray} (.lst (ns.map V.int))) else none) (fun b=> ?_) (.inl (.inr ⟨{cls:= .type "list",data:= .seq vs.toArray},if_pos rfl⟩)) (fun b u z=> ?_) (fun b z=> ?_) fun _=>hk
  ·by_cases hb:b=a
   ·exact .inr ⟨_,_,if_pos hb⟩
   ·exact .inl (if_neg hb)
  ·by_cases hb:b=a
   ·have z' :=(if_pos hb).symm.trans z;cases z';subst hb;exact⟨ha,by rw[List.length_map];exact hl,vs,_,rv,ha⟩
   ·have z' :=(if_neg hb).symm.trans z;cases z'
  ·by_cases hb:b=a
   ·exact hb
   ·exact absurd (if_neg hb) z
abbrev KOf{K:W.Frag}{h:Heap}(_:K.In h):W.Frag:=K
def z6q(s:Stmt)(j:Nat):Stmt:=match s with
 | .ClassDef _ _ _ body _ _ _ _ _ _ _=>body.getD j (.Pass ⟨0,0,0,0⟩)
 | _=> .Pass ⟨0,0,0,0⟩
def vM(s:Stmt):Arguments:=match s with
 | .FunctionDef _ a _ _ _ _ _ _ _ _=>a
 | _=>{posonlyargs:= [],args:= [],vararg:=none,kwonlyargs:= [],kw_defaults:= [],kwarg:=none,defaults:= []}
def sX(s:Stmt):List Stmt:=match s with
 | .FunctionDef _ _ b _ _ _ _ _ _ _=>b
 | _=> []
def bV(s:Stmt):Scope:=match s with
 | .FunctionDef _ _ _ _ _ _ sc _ _ _=>sc
 | _=>{kind:= .function,names:= [],isGenerator:=false,isCoroutine:=false}
abbrev CX0:rA:=fun _ _ _ _ _ _=>False
abbrev E0:XK:=fun _ _ _=>False
structure fP (K:W.Frag) (x qual:Str) (st:Stmt) (f:Addr) (fd:FuncData):Prop where
 ex:∃(oc:Value) (od:Option Addr) (kV doc pm:Value) (an:Option Addr) (cdv ct:Value) (osl:Array (Option Value)),
  fd=W.fnOf x qual (vM st) (sX st) (bV st) .none kV doc pm an cdv ct/\K.lookup f=some ⟨oc,od,.func fd,osl⟩/\W.codeIn K cdv qual=true
 kp:W.keepIn K (.ref f)=true
section
variable{P:Program}{w:World}{K:W.Frag}{mg:Str ->Option Value}{base:Heap}
theorem fP.binds{x qual:Str}{st:Stmt}{f:Addr}{fd:FuncData}{ps:List Str}(F:fP K x qual st f fd)
  (h:∀(kV doc pm:Value) (an:Option Addr) (cdv ct:Value) (us:List Value),us.length=ps.length ->bindArgs (W.fnOf x qual (vM st) (sX st) (bV st) .none kV doc pm an cdv ct) ⟨us,[]⟩=pure (ps.zip us)):Binds K fd ps []:=by
 obtain⟨oc,od,kV,doc,pm,an,cdv,ct,osl,rfl,lk,hcd⟩:=F.ex;exact .all (h kV doc pm an cdv ct)
end
section
variable{X:Cx}
end
def Same(H H' :Hp):Prop:=∀b o,H b=some o ->H' b=some o
theorem Same.refl(H:Hp):Same H H:=fun _ _ h=>h
theorem Same.trans{H H1 H2:Hp}(a:Same H H1)(b:Same H1 H2):Same H H2:=fun c o h=>b c o (a c o h)
theorem Same.free{H H' :Hp}(e:Same H H'){l:Addr}(h:H' l=Option.none):H l=Option.none:=by
 cases q:H l with
 | none=>rfl
 | some o=>
  rw[e l o q] at h;cases h
theorem Same.seq{K:W.Frag}{H H' :Hp}{a:Addr}{xs:List V}(e:Same H H')(h:fZ K H a xs):fZ K H' a xs:=by
 rcases h with (h | ⟨o,h⟩) | h
 ·exact .inl (.inl (e _ _ h))
 ·exact .inl (.inr ⟨o,e _ _ h⟩)
 ·exact .inr h
section
variable{X:Cx}
end
section
variable{κ:Type}[DecidableEq κ]
end
end L2
namespace L3
open PySem PySem.Spec PyProof.Rows L2
abbrev St:=L2.St
inductive D where
 | non | bl (b:Bool) | int (i:Int) | str (x:Str) | tup (xs:List D) | lst (xs:List D) | exc (C:Addr) | ptr (a:Addr)
 | obj (C:Addr) (fs:List Str) (xs:List D) | dic (ks:List Key) (xs:List D) | iC (ks:List (List Key)) (xs:List D) | nq (ks:List Key) (xs:List D)
def FJ(a C:Addr):HO:= .ext fun h=>∃o vs,h.get? a=some o/\o.cls= .ref C/\o.data= .fields vs/\vs[2]?=some Value.none
def Pz(F:Hp)(a:Addr):Prop:=∃o C,F a=some (.frz o (FJ a C))
mutual
def Rep(K:W.Frag)(F:Hp):D ->V ->Prop
 | .non,v=>v= .non
 | .bl b,v=>v= .bl b
 | .int i,v=>v= .int i
 | .str x,v=>v= .str x
 | .tup ds,v=>∃a vs,v= .ref a/\je K F a vs/\ak K F ds vs
 | .lst ds,v=>∃a vs,v= .ref a/\fZ K F a vs/\ak K F ds vs
 | .exc C,v=>∃a o,v= .ref a/\F a=some (.frz o (FJ a C))
 | .ptr a,v=>v= .ref a
 | .obj C fs ds,v=>∃a dx vs,v= .ref a/\F a=some (.ins C dx (fs.zip vs))/\fs.length=vs.length/\ak K F ds vs
 | .dic ks ds,v=>∃a vs,v= .ref a/\F a=some (.dK (ks.zip vs))/\ks.length=vs.length/\ak K F ds vs
 | .iC ks ds,v=>∃a vs,v= .ref a/\F a=some (.dT (ks.zip vs))/\ks.length=vs.length/\ak K F ds vs
 | .nq ks ds,v=>∃a o vs,v= .ref a/\F a=some (.frz o (.dK (ks.zip vs)))/\ks.length=vs.length/\ak K F ds vs
def ak(K:W.Frag)(F:Hp):List D ->List V ->Prop
 | [],vs=>vs= []
 | d::ds,vs=>∃v r,vs=v::r/\Rep K F d v/\ak K F ds r
end
theorem lA{K:W.Frag}{H H' :Hp}{a:Addr}{xs:List V}(e:Same H H')(h:je K H a xs):je K H' a xs:=by
 rcases h with (h | ⟨o,h⟩) | h
 ·exact .inl (.inl (e _ _ h))
 ·exact .inl (.inr ⟨o,e _ _ h⟩)
 ·exact .inr h
mutual
theorem XM{K:W.Frag}{F F' :Hp}(e:Same F F'):∀(d:D) (v:V),Rep K F d v ->Rep K F' d v
 | .non,_,h=>by unfold Rep at h⊢;exact h
 | .bl _,_,h=>by unfold Rep at h⊢;exact h
 | .int _,_,h=>by unfold Rep at h⊢;exact h
 | .str _,_,h=>by unfold Rep at h⊢;exact h
 | .tup ds,_,h=>by
  unfold Rep at h⊢;obtain⟨a,vs,h0,h1,h2⟩:=h;exact⟨a,vs,h0,lA e h1,wJ e ds vs h2⟩
 | .lst ds,_,h=>by
  unfold Rep at h⊢;obtain⟨a,vs,h0,h1,h2⟩:=h;exact⟨a,vs,h0,e.seq h1,wJ e ds vs h2⟩
 | .ptr _,_,h=>by unfold Rep at h⊢;exact h
 | .exc C,_,h=>by
  unfold Rep at h⊢;obtain⟨a,o,h0,h1⟩:=h;exact⟨a,o,h0,e _ _ h1⟩
 | .obj C fs ds,_,h=>by
  unfold Rep at h⊢;obtain⟨a,dx,vs,h0,h1,h3,h4⟩:=h;exact⟨a,dx,vs,h0,e _ _ h1,h3,wJ e ds vs h4⟩
 | .dic ks ds,_,h=>by
  unfold Rep at h⊢;obtain⟨a,vs,h0,h1,h3,h4⟩:=h;exact⟨a,vs,h0,e _ _ h1,h3,wJ e ds vs h4⟩
 | .iC ks ds,_,h=>by
  unfold Rep at h⊢;obtain⟨a,vs,h0,h1,h3,h4⟩:=h;exact⟨a,vs,h0,e _ _ h1,h3,wJ e ds vs h4⟩
 | .nq ks ds,_,h=>by
  unfold Rep at h⊢;obtain⟨a,o,vs,h0,h1,h3,h4⟩:=h;exact⟨a,o,vs,h0,e _ _ h1,h3,wJ e ds vs h4⟩
theorem wJ{K:W.Frag}{F F' :Hp}(e:Same F F'):∀(ds:List D) (vs:List V),ak K F ds vs ->ak K F' ds vs
 | [],_,h=>by unfold ak at h⊢;exact h
 | d::ds,_,h=>by
  unfold ak at h⊢;obtain⟨v,r,h0,h1,h2⟩:=h;exact⟨v,r,h0,XM e d v h1,wJ e ds r h2⟩
end
theorem Rep.up{K:W.Frag}{F F' :Hp}{d:D}{v:V}(h:Rep K F d v)(e:Same F F'):Rep K F' d v:=XM e d v h
theorem ak.up{K:W.Frag}{F F' :Hp}{ds:List D}{vs:List V}(h:ak K F ds vs)(e:Same F F'):ak K F' ds vs:=wJ e ds vs h
theorem iu{K:W.Frag}{F:Hp}:∀{ds:List D} {vs:List V},ak K F ds vs ->ds.length=vs.length
 | [],_,h=>by unfold ak at h;subst h;rfl
 | _::_,_,h=>by
  unfold ak at h;obtain⟨v,r,rfl,_,h2⟩:=h;simp only [List.length_cons,iu h2]
theorem oH{K:W.Frag}{F:Hp}:∀{ds:List D} {vs:List V} {i:Nat} {d:D},ak K F ds vs ->ds[i]?=some d ->∃v,vs[i]?=some v/\Rep K F d v
 | [],_,_,_,_,e=>by simp at e
 | _::_,_,0,_,h,e=>by
  unfold ak at h;obtain⟨v,r,rfl,h1,_⟩:=h;simp at e;subst e;exact⟨v,rfl,h1⟩
 | _::_,_,i+1,d,h,e=>by
  unfold ak at h;obtain⟨v,r,rfl,_,h2⟩:=h;obtain⟨u,e1,e2⟩:=oH (i:=i) h2 (by simpa using e)
  exact⟨u,by simpa using e1,e2⟩
theorem XQ{K:W.Frag}{F:Hp}:∀{ds:List D} {vs:List V} {i:Nat} {v:V},ak K F ds vs ->vs[i]?=some v ->∃d,ds[i]?=some d/\Rep K F d v
 | [],_,_,_,h,e=>by unfold ak at h;subst h;simp at e
 | d::_,_,0,_,h,e=>by
  unfold ak at h;obtain⟨v,r,rfl,h1,_⟩:=h;simp at e;subst e;exact⟨d,rfl,h1⟩
 | _::_,_,i+1,v,h,e=>by
  unfold ak at h;obtain⟨v',r,rfl,_,h2⟩:=h;obtain⟨u,e1,e2⟩:=XQ (i:=i) h2 (by simpa using e)
  exact⟨u,by simpa using e1,e2⟩
theorem yO{K:W.Frag}{F:Hp}:∀{ds es:List D} {vs us:List V},ak K F ds vs ->ak K F es us ->ak K F (ds++es) (vs++us)
 | [],_,_,_,h,k=>by unfold ak at h;subst h;exact k
 | _::_,_,_,_,h,k=>by
  unfold ak at h;obtain⟨v,r,rfl,h1,h2⟩:=h;show ak K F (_::(_++_)) _;unfold ak;exact⟨v,_,rfl,h1,yO h2 k⟩
theorem FN{K:W.Frag}{F:Hp}{d:D}{v:V}(h:Rep K F d v):ak K F [d] [v]:=by
 unfold ak;exact⟨v,[],rfl,h,by unfold ak;rfl⟩
theorem pW{K:W.Frag}{F:Hp}{d:D}{v:V}{ds:List D}{vs:List V}(h:Rep K F d v)(k:ak K F ds vs):ak K F (d::ds) (v::vs):=by
 unfold ak;exact⟨v,vs,rfl,h,k⟩
theorem XR{K:W.Frag}{F:Hp}:∀{ds:List D} {vs:List V} (n:Nat),ak K F ds vs ->ak K F (ds.take n) (vs.take n)
 | _,_,0,_=>by simp [ak]
 | [],_,_+1,h=>by unfold ak at h;subst h;simp [ak]
 | _::_,_,n+1,h=>by
  unfold ak at h;obtain⟨u,r,rfl,h1,h2⟩:=h;exact pW h1 (XR n h2)
theorem XS{K:W.Frag}{F:Hp}:∀{ds:List D} {vs:List V} (n:Nat),ak K F ds vs ->ak K F (ds.drop n) (vs.drop n)
 | _,_,0,h=>h
 | [],_,_+1,h=>by unfold ak at h;subst h;simp [ak]
 | _::_,_,n+1,h=>by
  unfold ak at h;obtain⟨u,r,rfl,h1,h2⟩:=h;exact XS n h2
def sY(H:Hp)(b:Addr)(o:HO):Prop:=H b=none\/ (∃xs,o= .tup xs)/\H b=some o
theorem sY.back(s:Same H H1)(h:sY H1 b o):sY H b o:=by
 rcases h with h | ⟨⟨xs,e⟩,h⟩
 ·exact .inl (s.free h)
 ·cases q:H b with
  | none=>exact .inl q
  | some u=>
   have:=s _ _ q;rw[h] at this;cases this;exact .inr ⟨⟨xs,e⟩,q⟩
structure Gr (F H F' H' :Hp):Prop where
 f:Same F F'
 g:Same F' H'
 h:Same H H'
 n:∀b o,F' b=some o ->F b=none ->sY H b o
theorem Gr.refl(h:Same F H):Gr F H F H:=⟨.refl _,h,.refl _,fun b o e n=>by rw[e] at n;cases n⟩
theorem Gr.trans(a:Gr F H F1 H1)(b:Gr F1 H1 F2 H2):Gr F H F2 H2:=by
 refine⟨a.f.trans b.f,b.g,a.h.trans b.h,fun c o e n=> ?_⟩;cases q:F1 c with
 | none=>exact sY.back a.h (b.n c o e q)
 | some u=>have:=b.f _ _ q;rw[e] at this;cases this;exact a.n c _ q n
theorem Gr.laid(h:Same F H)(hp:H p=none):Gr F H (L2.upd F p o) (L2.upd H p o):=by
 refine⟨fun b u e=> ?_,fun b u e=> ?_,fun b u e=> ?_,fun b u e n=> ?_⟩
 ·rw[dH (mC (h b u e) hp)];exact e
 ·by_cases hb:b=p
  ·subst hb;rw[mQ] at e⊢;exact e
  ·rw[dH hb] at e⊢;exact h b u e
 ·rw[dH (mC e hp)];exact e
 ·by_cases hb:b=p
  ·subst hb;exact .inl hp
  ·rw[dH hb,n] at e;cases e
inductive T where
 | leaf (d:D) | lst (ts:List T) | dic (ks:List L2.Key) (ts:List T) | iC (ks:List (List L2.Key)) (ts:List T) | ob (C:Addr) (fs:List Str) (ts:List T) | kt (k:List L2.Key)
def cG:Key ->D | .inl i=> .int i | .inr x=> .str x
def sZ(fs:List Str):Bool:= !decide (fs= [("points" :Str)])
mutual
def TR(K:W.Frag)(F H:Hp):T ->V ->List Addr ->Prop
 | .leaf d,v,as=>as= []/\Rep K F d v
 | .lst ts,v,as=>∃a vs bs,v= .ref a/\as=a::bs/\H a=some (.lst vs)/\c7 K F H ts vs bs
 | .dic ks ts,v,as=>∃a vs bs,v= .ref a/\as=a::bs/\H a=some (.dK (ks.zip vs))/\ks.length=vs.length/\c7 K F H ts vs bs
 | .iC ks ts,v,as=>∃a vs bs,v= .ref a/\as=a::bs/\H a=some (.dT (ks.zip vs))/\ks.length=vs.length/\c7 K F H ts vs bs
 | .ob C fs ts,v,as=>∃a dx vs bs,v= .ref a/\as=a::dx::bs/\H a=some (.ins C dx (fs.zip vs))/\H dx=some (.own a)/\fs.length=vs.length/\sZ fs=true/\c7 K F H ts vs bs
 | .kt k,v,as=>as= []/\∃a,v= .ref a/\F a=some (.tup (k.map kV))
def c7(K:W.Frag)(F H:Hp):List T ->List V ->List Addr ->Prop
 | [],vs,as=>vs= []/\as= []
 | t::ts,vs,as=>∃v us bs cs,vs=v::us/\as=bs++cs/\TR K F H t v bs/\c7 K F H ts us cs
end
section
variable{K:W.Frag}{F H F' H' :Hp}
mutual
theorem TR.move(f:Same F F'):∀(t:T) (v:V) (as:List Addr),(∀a∈as,∀u,H a=some u ->H' a=some u) ->TR K F H t v as ->TR K F' H' t v as
 | .leaf d,v,as,k,h=>by unfold TR at h⊢;exact⟨h.1,h.2.up f⟩
 | .lst ts,v,as,k,h=>by
  unfold TR at h⊢;obtain⟨a,vs,bs,e1,rfl,e3,h⟩:=h;exact⟨a,vs,bs,e1,rfl,k a zW _ e3,c7.move f ts vs bs (fun b hb=>k b (zV _ hb)) h⟩
 | .dic ks ts,v,as,k,h=>by
  unfold TR at h⊢;obtain⟨a,vs,bs,e1,rfl,e3,e4,h⟩:=h;exact⟨a,vs,bs,e1,rfl,k a zW _ e3,e4,c7.move f ts vs bs (fun b hb=>k b (zV _ hb)) h⟩
 | .iC ks ts,v,as,k,h=>by
  unfold TR at h⊢;obtain⟨a,vs,bs,e1,rfl,e3,e4,h⟩:=h;exact⟨a,vs,bs,e1,rfl,k a zW _ e3,e4,c7.move f ts vs bs (fun b hb=>k b (zV _ hb)) h⟩
 | .ob C fs ts,v,as,k,h=>by
  unfold TR at h⊢;obtain⟨a,dx,vs,bs,e1,rfl,e3,e4,e5,e6,h⟩:=h;exact⟨a,dx,vs,bs,e1,rfl,k a zW _ e3,k dx (zV _ zW) _ e4,e5,e6,c7.move f ts vs bs (fun b hb=>k b (zV _ (zV _ hb))) h⟩
 | .kt _,v,as,k,h=>by unfold TR at h⊢;obtain⟨e,a,e1,e2⟩:=h;exact⟨e,a,e1,f _ _ e2⟩
theorem c7.move(f:Same F F'):∀(ts:List T) (vs:List V) (as:List Addr),(∀a∈as,∀u,H a=some u ->H' a=some u) ->c7 K F H ts vs as ->c7 K F' H' ts vs as
 | [],vs,as,k,h=>by unfold c7 at h⊢;exact h
 | t::ts,vs,as,k,h=>by
  unfold c7 at h⊢;obtain⟨v,us,bs,cs,e1,rfl,h1,h2⟩:=h;exact⟨v,us,bs,cs,e1,rfl,TR.move f t v bs (fun b hb=>k b (zO _ hb)) h1,c7.move f ts us cs (fun b hb=>k b (zP _ hb)) h2⟩
end
def LD(u:HO):Prop:=(∃vs,u= .lst vs)\/ (∃kvs,u= .dK kvs)\/ (∃kvs,u= .dT kvs)\/ (∃C dx kvs,u= .ins C dx kvs/\sZ (kvs.map (·.1))=true)\/∃a,u= .own a
theorem X3:∀{fs:List Str} {vs:List V},fs.length=vs.length ->(fs.zip vs).map (·.1)=fs
 | [],_,_=>rfl
 | _::_,[],h=>by cases h
 | f::fs,v::vs,h=>by rw[List.zip_cons_cons,List.map_cons,X3 (by simpa using h)]
theorem LD.tup(h:LD (.tup xs)):False:=by rcases h with ⟨_,z⟩ | ⟨_,z⟩ | ⟨_,z⟩ | ⟨_,_,_,z,_⟩ | ⟨_,z⟩<;>cases z
mutual
theorem TR.there:∀(t:T) (v:V) (as:List Addr),TR K F H t v as ->∀a∈as,∃u,H a=some u/\LD u
 | .leaf d,v,as,h,a,ha=>by unfold TR at h;rw[h.1] at ha;cases ha
 | .lst ts,v,as,h,a,ha=>by
  unfold TR at h;obtain⟨b,vs,bs,e1,rfl,e3,h⟩:=h;rcases zT.mp ha with rfl | ha
  ·exact⟨_,e3,.inl ⟨_,rfl⟩⟩
  ·exact c7.there ts vs bs h a ha
 | .dic ks ts,v,as,h,a,ha=>by
  unfold TR at h;obtain⟨b,vs,bs,e1,rfl,e3,_,h⟩:=h;rcases zT.mp ha with rfl | ha
  ·exact⟨_,e3,.inr (.inl ⟨_,rfl⟩)⟩
  ·exact c7.there ts vs bs h a ha
 | .iC ks ts,v,as,h,a,ha=>by
  unfold TR at h;obtain⟨b,vs,bs,e1,rfl,e3,_,h⟩:=h;rcases zT.mp ha with rfl | ha
  ·exact⟨_,e3,.inr (.inr (.inl ⟨_,rfl⟩))⟩
  ·exact c7.there ts vs bs h a ha
 | .ob C fs ts,v,as,h,a,ha=>by
  unfold TR at h;obtain⟨b,dx,vs,bs,e1,rfl,e3,e4,e5,e6,h⟩:=h;rcases zT.mp ha with rfl | ha
  ·exact⟨_,e3,.inr (.inr (.inr (.inl ⟨_,_,_,rfl,by rw[X3 e5];exact e6⟩)))⟩
  ·rcases zT.mp ha with rfl | ha
   ·exact⟨_,e4,.inr (.inr (.inr (.inr ⟨_,rfl⟩)))⟩
   ·exact c7.there ts vs bs h a ha
 | .kt _,v,as,h,a,ha=>by unfold TR at h;rw[h.1] at ha;cases ha
theorem c7.there:∀(ts:List T) (vs:List V) (as:List Addr),c7 K F H ts vs as ->∀a∈as,∃u,H a=some u/\LD u
 | [],vs,as,h,a,ha=>by unfold c7 at h;rw[h.2] at ha;cases ha
 | t::ts,vs,as,h,a,ha=>by
  unfold c7 at h;obtain⟨v,us,bs,cs,e1,rfl,h1,h2⟩:=h;rcases zR.mp ha with ha | ha
  ·exact TR.there t v bs h1 a ha
  ·exact c7.there ts us cs h2 a ha
end
end
mutual
def toD:T ->D
 | .leaf d=>d
 | .lst ts=> .lst (fC ts)
 | .dic ks ts=> .dic ks (fC ts)
 | .iC ks ts=> .iC ks (fC ts)
 | .ob C fs ts=> .obj C fs (fC ts)
 | .kt k=> .tup (k.map cG)
def fC:List T ->List D
 | []=> []
 | t::ts=>toD t::fC ts
end
theorem J5{K:W.Frag}{F:Hp}:∀ks:List Key,ak K F (ks.map cG) (ks.map kV)
 | []=>by unfold List.map ak;rfl
 | .inl i::ks=>pW (by unfold cG Rep;rfl) (J5 ks)
 | .inr x::ks=>pW (by unfold cG Rep;rfl) (J5 ks)
section
variable{K:W.Frag}{F H F' :Hp}
mutual
theorem TR.rep(f:Same F F'):∀(t:T) (v:V) (as:List Addr),(∀a∈as,∀u,H a=some u ->F' a=some u) ->TR K F H t v as ->Rep K F' (toD t) v
 | .leaf d,v,as,k,h=>by unfold TR at h;unfold toD;exact h.2.up f
 | .lst ts,v,as,k,h=>by
  unfold TR at h;obtain⟨a,vs,bs,e1,rfl,e3,h⟩:=h;unfold toD Rep;exact⟨a,vs,e1,.inl (.inl (k a zW _ e3)),c7.rep f ts vs bs (fun b hb=>k b (zV _ hb)) h⟩
 | .dic ks ts,v,as,k,h=>by
  unfold TR at h;obtain⟨a,vs,bs,e1,rfl,e3,e4,h⟩:=h;unfold toD Rep;exact⟨a,vs,e1,k a zW _ e3,e4,c7.rep f ts vs bs (fun b hb=>k b (zV _ hb)) h⟩
 | .iC ks ts,v,as,k,h=>by
  unfold TR at h;obtain⟨a,vs,bs,e1,rfl,e3,e4,h⟩:=h;unfold toD Rep;exact⟨a,vs,e1,k a zW _ e3,e4,c7.rep f ts vs bs (fun b hb=>k b (zV _ hb)) h⟩
 | .ob C fs ts,v,as,k,h=>by
  unfold TR at h;obtain⟨a,dx,vs,bs,e1,rfl,e3,e4,e5,e6,h⟩:=h;unfold toD Rep;exact⟨a,dx,vs,e1,k a zW _ e3,e5,c7.rep f ts vs bs (fun b hb=>k b (zV _ (zV _ hb))) h⟩
 | .kt k,v,as,_,h=>by
  unfold TR at h;obtain⟨_,a,e1,e2⟩:=h;unfold toD Rep;exact⟨a,_,e1,.inl (.inl (f _ _ e2)),J5 k⟩
theorem c7.rep(f:Same F F'):∀(ts:List T) (vs:List V) (as:List Addr),(∀a∈as,∀u,H a=some u ->F' a=some u) ->c7 K F H ts vs as ->ak K F' (fC ts) vs
 | [],vs,as,k,h=>by unfold c7 at h;unfold fC ak;exact h.1
 | t::ts,vs,as,k,h=>by
  unfold c7 at h;obtain⟨v,us,bs,cs,e1,rfl,h1,h2⟩:=h;unfold fC ak;exact⟨v,us,e1,TR.rep f t v bs (fun b hb=>k b (zO _ hb)) h1,c7.rep f ts us cs (fun b hb=>k b (zP _ hb)) h2⟩
end
end
inductive Slot where
 | no | pu (d:D) | ow (ds:List D) | tr (as:List Addr) (t:T)
def jf(K:W.Frag)(F H H0:Hp):Slot ->Option V ->Prop
 | .no,_=>True
 | .pu d,o=>∃v,o=some v/\Rep K F d v
 | .ow ds,o=>∃a vs,o=some (.ref a)/\H a=some (.lst vs)/\F a=none/\H0 a=none/\ak K F ds vs
 | .tr as t,o=>∃v,o=some v/\as.Nodup/\ (∀b∈as,F b=none/\H0 b=none)/\TR K F H t v as
def eZ:Slot ->Option V ->Addr ->Prop
 | .ow _,o,a=>o=some (.ref a)
 | .tr as _,_,a=>a∈as
 | _,_,_=>False
def jg(Γ:List Slot)(σ:St)(i:Nat)(a:Addr):Prop:=∃s o,Γ[i]?=some s/\σ[i]?=some o/\eZ s o a
structure SR (K:W.Frag) (F0 H0 F H:Hp) (σ:St) (Γ:List Slot):Prop where
 gr:Gr F0 H0 F H
 len:σ.length=Γ.length
 sl:∀(i:Nat) s,Γ[i]?=some s ->∃o,σ[i]?=some o/\jf K F H H0 s o
 ap:∀(i j:Nat) a,jg Γ σ i a ->jg Γ σ j a ->i=j
section
variable{K:W.Frag}{F0 H0 F H F' H' :Hp}{σ:St}{Γ:List Slot}
theorem SR.g(R:SR K F0 H0 F H σ Γ):Same F H:=R.gr.g
theorem uV(r:jf K F H H0 s o)(h:eZ s o a):F a=none/\H0 a=none/\∃u,H a=some u/\LD u:=by
 cases s with
 | no=>exact h.elim
 | pu d=>exact h.elim
 | ow ds=>obtain⟨b,vs,rfl,h1,h2,h3,_⟩:=r;cases h;exact⟨h2,h3,_,h1,.inl ⟨_,rfl⟩⟩
 | tr as t=>obtain⟨v,_,_,h2,h3⟩:=r;exact⟨(h2 a h).1,(h2 a h).2,TR.there t v as h3 a h⟩
theorem FP(r:jf K F H H0 s o)(f:Same F F')(k:∀a,eZ s o a ->F' a=none/\∀u,H a=some u ->H' a=some u):jf K F' H' H0 s o:=by
 cases s with
 | no=>trivial
 | pu d=>
  obtain⟨v,e,r⟩:=r;exact⟨v,e,r.up f⟩
 | ow ds=>
  obtain⟨a,vs,e,e1,e2,e3,r⟩:=r;obtain⟨k1,k2⟩:=k a e;exact⟨a,vs,e,k2 _ e1,k1,e3,r.up f⟩
 | tr as t=>
  obtain⟨v,e,nd,h,r⟩:=r;exact⟨v,e,nd,fun b hb=>⟨(k b hb).1,(h b hb).2⟩,TR.move f t v as (fun a ha=>(k a ha).2) r⟩
theorem ztl(r:jf K F H H0 s o)(g:Gr F H F' H'):jf K F' H' H0 s o:=
 FP r g.f fun a ha=>by
  obtain⟨h1,_,u,h3,ld⟩:=uV r ha;refine⟨?_,fun u e=>g.h _ _ e⟩;cases q:F' a with
  | none=>rfl
  | some w=>
   rcases g.n a w q h1 with z | ⟨⟨xs,e⟩,z⟩
   ·rw[h3] at z;cases z
   ·rw[h3] at z;cases z;subst e;exact ld.tup.elim
theorem SR.grow(R:SR K F0 H0 F H σ Γ)(g:Gr F H F' H'):SR K F0 H0 F' H' σ Γ:=by
 refine⟨R.gr.trans g,R.len,fun i s e=> ?_,R.ap⟩;obtain⟨o,e1,r⟩:=R.sl i s e;exact⟨o,e1,ztl r g⟩
theorem FQ(h:jg (Γ.set i s) (σ.set i o) j a):(j=i/\eZ s o a)\/ (j≠i/\jg Γ σ j a):=by
 obtain⟨t,p,e1,e2,h⟩:=h;by_cases hj:i=j
 ·subst hj;have hi:i<Γ.length:=by
   rcases Nat.lt_or_ge i Γ.length with h | h
   ·exact h
   ·rw[List.getElem?_eq_none (by simpa using h)] at e1;cases e1
  have hi' :i<σ.length:=by
   rcases Nat.lt_or_ge i σ.length with h | h
   ·exact h
   ·rw[List.getElem?_eq_none (by simpa using h)] at e2;cases e2
  rw[List.getElem?_set_self hi] at e1;rw[List.getElem?_set_self hi'] at e2;cases e1;cases e2;exact .inl ⟨rfl,h⟩
 ·rw[List.getElem?_set_ne hj] at e1 e2;exact .inr ⟨Ne.symm hj,t,p,e1,e2,h⟩
def Apart(σ:St)(Γ:List Slot)(a:Addr):Prop:=∀j,¬jg Γ σ j a
theorem SR.apart(R:SR K F0 H0 F H σ Γ)(h:H a=none):Apart σ Γ a:=fun j hq1=>by
 obtain⟨s,o,e1,e2,q⟩:=hq1;obtain⟨o',e3,r⟩:=R.sl j s e1;rw[e2] at e3;cases e3;obtain⟨_,_,u,e,_⟩:=uV r q;rw[h] at e;cases e
theorem SR.put(R:SR K F0 H0 F H σ Γ)(i:Nat)(r:jf K F H H0 s o)(ha:∀a,eZ s o a ->Apart σ Γ a):SR K F0 H0 F H (σ.set i o) (Γ.set i s):=by
 refine⟨R.gr,by simp [R.len],fun j t e=> ?_,fun j k a e1 e2=> ?_⟩
 ·by_cases hj:i=j
  ·subst hj;have hi:i<Γ.length:=by
    rcases Nat.lt_or_ge i Γ.length with h | h
    ·exact h
    ·rw[List.getElem?_eq_none (by simpa using h)] at e;cases e
   rw[List.getElem?_set_self hi] at e;cases e;exact⟨o,List.getElem?_set_self (by rw[R.len];exact hi),r⟩
  ·rw[List.getElem?_set_ne hj] at e;rw[List.getElem?_set_ne hj];exact R.sl j t e
 ·rcases FQ e1 with ⟨rfl,q1⟩ | ⟨n1,q1⟩
  ·rcases FQ e2 with ⟨rfl,_⟩ | ⟨_,q2⟩
   ·rfl
   ·exact(ha a q1 _ q2).elim
  ·rcases FQ e2 with ⟨rfl,q2⟩ | ⟨_,q2⟩
   ·exact(ha a q2 _ q1).elim
   ·exact R.ap j k a q1 q2
theorem SR.set(R:SR K F0 H0 F H σ Γ)(i:Nat)(r:Rep K F d v):SR K F0 H0 F H (σ.set i (some v)) (Γ.set i (.pu d)):=R.put i ⟨v,rfl,r⟩ fun _ h=>h.elim
theorem SR.drop(R:SR K F0 H0 F H σ Γ)(i:Nat)(o:Option V):SR K F0 H0 F H (σ.set i o) (Γ.set i .no):=R.put i trivial fun _ h=>h.elim
theorem SR.setOw(R:SR K F0 H0 F H σ Γ)(i:Nat)(h1:H a=some (.lst vs))(h2:F a=none)(h3:H0 a=none)(r:ak K F ds vs)(ha:Apart σ Γ a):
  SR K F0 H0 F H (σ.set i (some (.ref a))) (Γ.set i (.ow ds)):=R.put i ⟨a,vs,rfl,h1,h2,h3,r⟩ fun b h=>by cases h;exact ha
theorem PB(g:Same F H)(h1:H a=some (.lst vs))(h2:F a=none):Same F (L2.upd F a (.lst vs))/\Same (L2.upd F a (.lst vs)) H:=by
 refine⟨fun b u e=> ?_,fun b u e=> ?_⟩
 ·rw[dH (mC e h2)];exact e
 ·by_cases hb:b=a
  ·subst hb;rw[mQ] at e;cases e;exact h1
  ·rw[dH hb] at e;exact g b u e
theorem SR.frzM(R:SR K F0 H0 F H σ Γ)(s1:Same F F')(s2:Same F' H)(n:∀b u,F' b=some u ->F b=none ->H0 b=none/\Apart σ Γ b):SR K F0 H0 F' H σ Γ:=by
 refine⟨⟨R.gr.f.trans s1,s2,R.gr.h,fun b o e q=> ?_⟩,R.len,fun j s e=> ?_,R.ap⟩
 ·cases z:F b with
  | none=>exact .inl (n b o e z).1
  | some u=>have:=s1 _ _ z;rw[e] at this;cases this;exact R.gr.n b _ z q
 ·obtain⟨o,e1,r⟩:=R.sl j s e;refine⟨o,e1,FP r s1 fun b hb=>⟨?_,fun _ q=>q⟩⟩;obtain⟨h1,_,_⟩:=uV r hb;cases q:F' b with
  | none=>rfl
  | some u=>exact((n b u q h1).2 j ⟨s,o,e,e1,hb⟩).elim
def aaT(F H:Hp):Hp:=fun b=>match F b with | some u=>some u | none=>match H b with | some (.tup xs)=>some (.tup xs) | _=>none
theorem SR.frzA(R:SR K F0 H0 F H σ Γ)(h1:H a=some (.lst vs))(h2:F a=none)(h3:H0 a=none)(ha:Apart σ Γ a):SR K F0 H0 (L2.upd F a (.lst vs)) H σ Γ:=by
 obtain⟨s1,s2⟩:=PB R.g h1 h2;refine R.frzM s1 s2 fun b u e n=> ?_;by_cases hb:b=a
 ·subst hb;exact⟨h3,ha⟩
 ·rw[dH hb,n] at e;cases e
theorem yP(e1:σ[i]?=some o):σ.set i o=σ:=by
 obtain⟨hl,e2⟩:=zU.mp e1;rw[<- e2];simp
theorem SR.less(R:SR K F0 H0 F H σ Γ)(e:Γ[i]?=some s)(e1:σ[i]?=some o)(h:eZ s o a):Apart σ (Γ.set i .no) a:=fun j q=>by
 have q' :jg (Γ.set i .no) (σ.set i o) j a:=by rw[yP e1];exact q
 rcases FQ q' with ⟨_,z⟩ | ⟨n,z⟩
 ·exact z
 ·exact n (R.ap j i a z ⟨s,o,e,e1,h⟩)
theorem SR.dropAt(R:SR K F0 H0 F H σ Γ)(e1:σ[i]?=some o):SR K F0 H0 F H σ (Γ.set i .no):=by
 have q:=R.drop i o;rw[yP e1] at q;exact q
theorem SR.frz(R:SR K F0 H0 F H σ Γ)(e:Γ[i]?=some (.ow ds)):∃a F',σ[i]?=some (some (.ref a))/\Same F F' /\SR K F0 H0 F' H σ (Γ.set i (.pu (.lst ds)))/\Rep K F' (.lst ds) (.ref a):=by
 obtain⟨o,e1,a,vs,rfl,h1,h2,h3,r⟩:=R.sl i _ e;obtain⟨s1,_⟩:=PB R.g h1 h2;have rp:Rep K (L2.upd F a (.lst vs)) (.lst ds) (.ref a):=by
  unfold Rep;exact⟨a,vs,rfl,.inl (.inl mQ),r.up s1⟩
 have R2:=((R.dropAt e1).frzA h1 h2 h3 (R.less e e1 (show eZ (Slot.ow ds) (some (.ref a)) a from rfl))).set i rp;rw[yP e1,List.set_set] at R2;exact⟨a,_,e1,s1,R2,rp⟩
theorem SR.wrO(R:SR K F0 H0 F H σ Γ)(e:Γ[i]?=some s)(e1:σ[i]?=some o)(h:eZ s o a)(r:jf K F (L2.upd H a u) H0 t o)(ht:∀b,eZ t o b ->eZ s o b):
  SR K F0 H0 F (L2.upd H a u) σ (Γ.set i t):=by
 obtain⟨o',e2,r0⟩:=R.sl i _ e;rw[e1] at e2;cases e2;obtain⟨h2,h3,w,h1,_⟩:=uV r0 h;have hi:i<Γ.length:=(zU.mp e).1;have R1:SR K F0 H0 F (L2.upd H a u) σ (Γ.set i .no):=by
  have R0:=R.dropAt e1;refine⟨⟨R0.gr.f,fun b u q=> ?_,fun b u q=> ?_,fun b o q n=>R0.gr.n b o q n⟩,R0.len,fun j s' q=> ?_,R0.ap⟩
  ·rw[dH (mC q h2)];exact R0.g b u q
  ·rw[dH (mC q h3)];exact R0.gr.h b u q
  ·obtain⟨o,p1,p2⟩:=R0.sl j s' q;refine⟨o,p1,FP p2 (.refl _) fun b hb=>⟨(uV p2 hb).1,fun u q' => ?_⟩⟩;have:b≠a:=fun z=>by subst z;exact R.less e e1 h j ⟨s',o,q,p1,hb⟩
   rw[dH this];exact q'
 have R2:=R1.put i r fun b hb=>R.less e e1 (ht b hb);rw[yP e1,List.set_set] at R2;exact R2
theorem SR.wr(R:SR K F0 H0 F H σ Γ)(e:Γ[i]?=some (.ow ds))(e1:σ[i]?=some (some (.ref a)))(r:ak K F es us):
  SR K F0 H0 F (L2.upd H a (.lst us)) σ (Γ.set i (.ow es)):=by
 obtain⟨o,e2,r0⟩:=R.sl i _ e;rw[e1] at e2;cases e2;obtain⟨h2,h3,_⟩:=uV r0 (show eZ (Slot.ow ds) (some (.ref a)) a from rfl);exact R.wrO e e1 (show eZ (Slot.ow ds) (some (.ref a)) a from rfl) ⟨a,us,rfl,mQ,h2,h3,r⟩ fun b hb=>hb
end
def X4(h B:Heap)(e:Addr)(cls:Value)(dd:Option Addr)(fl:Value):Prop:=
 ∃oe vs T oT ts,h.get? e=some oe/\ (oe.cls=cls/\oe.dict=dd/\vs[2]?=some Value.none)/\oe.data= .fields vs/\vs[1]?=some (.ref T)/\B.get? T=none/\T≠e/\h.get? T=some oT/\oT.data= .fields ts/\ts[3]?=some fl
def FT(B:Heap)(l:List Env)(a:Addr)(cls:Value)(h:Heap):Prop:=
 B.StaysIn h/\B.get? a=none/\h.FunFrames B l/\
  ((∃dd,X4 h B a cls dd .none)\/∃oe vs,h.get? a=some oe/\oe.cls=cls/\oe.data= .fields vs/\vs[1]?=some Value.none/\vs[2]?=some Value.none)
def qI(B:Heap)(l:List Env)(e:Addr)(cls:Value)(dd:Option Addr)(fl:Value)(h:Heap):Prop:=B.StaysIn h/\B.get? e=none/\h.FunFrames B l/\X4 h B e cls dd fl
section
variable{M:Model}{A:Around}{E:bL}{s:Shared}{B:Heap}{env:Env}{outer:List Env}{L a:Addr}{cls fl:Value}{dd:Option Addr}{Q:Unit ->Shared ->Prop}
theorem zwh(f:Array Value ->Array Value)(o:Obj):(Obj.mapFields f o).dict=o.dict:=by
 unfold Obj.mapFields;split<;>rfl
theorem Cg{h:Heap}{T b:Addr}{oT o:Obj}{ts:Array Value}(hT:h.get? T=some oT)(hd:oT.data= .fields ts)(hb:h.get? b=some o)(hn:∀vs,o.data≠ .fields vs):b≠T:=fun q=>by
 rw[q,hT] at hb;injection hb with hb;subst hb;exact hn ts hd
theorem FW{l:List Env}(x:qI B l a cls dd fl s.heap)(hQ:∀h',qI B l a cls dd .none h' ->s.heap.UpToSlots h' ->Q () {s with heap:=h'}):wpAny M A (setFlight (.ref a) none) Q E s:=by
 obtain⟨f1,f2,f3,oe,vs,T,oT,ts,he,hk,hd,h1,hB,hne,hT,hdT,h3⟩:=x;have far:∀b,b≠T ->(s.heap.update T (Obj.mapFields (·.setIfInBounds 3 ((none:Option Addr).elim Value.none fun f=>rawInt f)))).get? b=s.heap.get? b:=fun b hb=>Heap.get?_update_other _ _ (Ne.symm hb);have hz:3<ts.size:=(Array.getElem?_eq_some_iff.mp h3).1;unfold setFlight;refine z8 (wpAny_field he hd h1 ?_);rw[if_pos (by simp)]
 refine wpAny_setField hT hdT hz (hQ _ ⟨fun b o q=> ?_,f2,f3.of_keeps fun b o q n=>⟨o,?_,rfl⟩,oe,vs,T,_,_,(far a (Ne.symm hne)).trans he,hk,hd,h1,hB,hne,Heap.get?_update_self _ hT (Obj.isFreed_of_fields (Obj.data_mapFields hdT _)),Obj.data_mapFields hdT _,by simp [hz]⟩ fun b o q n=>⟨o.slots,?_⟩)
 ·exact(far b fun z=>by rw[z,hB] at q;cases q).trans (f1 b o q)
 ·exact(far b (Cg hT hdT q n)).trans q
 ·exact(far b (Cg hT hdT q n)).trans q
theorem tu{oe:Obj}{vs:Array Value}{head:Value}{more:Bool}(hfr:A.frames=some (env::outer))(hl:s.heap.FunFrames B (env::outer))(hf:env.frame=some L)(he:s.heap.get? a=some oe)(hkb:B.StaysIn s.heap)(hen:B.get? a=none)
  (hd:oe.data= .fields vs) (hz:1<vs.size) (h2:vs[2]?=some Value.none) (hQ:∀h',qI B (env::outer) a oe.cls oe.dict (rawInt L) h' ->s.heap.UpToSlots h' ->Q () {s with heap:=h'}):
  wpAny M A (do let x<- frameOf env;let pl<- entryPlaceOf L more;let b<- EntryCells.newEntry head x .none (rawInt L) .none pl;setField (.ref a) 1 b) Q E s:=by
 have nf:a∉ (env::outer).filterMap (·.frame):=fun hm=>by
  obtain⟨_,o,ho,hn⟩:=hl.mem hm;rw[he] at ho;injection ho with ho;subst ho;exact hn vs hd
 refine z8 (wpAny_frameOf_fun hfr hl hf fun h1 k1=> ?_);refine z8 (wpAny_entryPlaceOf fun pl hp=> ?_);unfold EntryCells.newEntry newFields;refine z8 (wpAny_newObj_type ?_ (hp.sizeOk5 _ _ _ _ _));have e1:h1.get? a=some oe:=(k1.2.1 a nf).trans he;have b1:B.StaysIn h1:=fun b o q=>(k1.2.1 b fun hm=>by rw[(hl.mem hm).1] at q;cases q).trans (hkb b o q)
 refine wpAny_setField (zZ _ e1) hd hz (hQ _ ?_ ?_)
 all_goals
  have ne:h1.objs.size≠a:=Nat.ne_of_gt (zG e1);have d3:=Obj.data_mapFields hd (·.setIfInBounds 1 (Value.ref h1.objs.size));have far:∀b o,b≠a ->h1.get? b=some o ->((h1.push {cls:= .type "traceback",dict:=none,data:= .fields ([head,.ref L,.none,rawInt L,.none]++ (if pl.isEmpty then List.replicate 6 Value.none else pl)).toArray}).update a (Obj.mapFields (·.setIfInBounds 1 (Value.ref h1.objs.size)))).get? b=some o:=
   fun b o hb q=>by rw[Heap.get?_update_other _ _ (Ne.symm hb)];exact zZ _ q
 ·refine⟨fun b o q=>far b o (fun z=>by rw[z,hen] at q;cases q) (b1 b o q),hen,hl.of_keeps fun b o q n=> ?_,?_⟩
  ·obtain⟨sl,k⟩:=k1.2.2 b o q;exact⟨_,far b _ (Cg he hd q n) k,rfl⟩
  ·exact⟨_,_,h1.objs.size,_,_,Heap.get?_update_self _ (zZ _ e1) (Obj.isFreed_of_fields d3),⟨Obj.cls_mapFields _ _,zwh _ _,by rw[Array.getElem?_setIfInBounds_ne (by decide)];exact h2⟩,d3,by simp [hz],b1.fresh,ne,
    (Heap.get?_update_other _ _ (Ne.symm ne)).trans (zY h1 rfl),rfl,by first | (simp;done) | (rcases hp with rfl | ⟨_,_,_,_,_,_,_,rfl⟩<;>simp)⟩
 ·intro b o q n;obtain⟨sl,k⟩:=k1.2.2 b o q;exact⟨sl,far b _ (Cg he hd q n) k⟩
theorem zx4(hfr:A.frames=some (env::outer))(hf:env.frame=some L)(x:FT B (env::outer) a cls s.heap)
  (hQ:∀h' dd,qI B (env::outer) a cls dd (rawInt L) h' ->s.heap.UpToSlots h' ->Q () {s with heap:=h'}):wpAny M A (noteFrame (.ref a) env) Q E s:=by
 obtain⟨f1,f2,f3,⟨dd,oe,vs,T,oT,ts,he,⟨rfl,rfl,h2⟩,hd,h1,hB,hne,hT,hdT,h3⟩ | ⟨oe,vs,he,rfl,hd,h1,h2⟩⟩:=x
 ·unfold noteFrame;simp only [hf];refine z8 (wpAny_field he hd h1 ?_);rw[if_pos (by simp)]
  refine z8 (wpAny_field hT hdT h3 ?_);rw[if_neg (by simp [rawInt])]
  refine z8 (wpAny_setField hT hdT (Array.getElem?_eq_some_iff.mp h3).1 ?_);have far:∀b,b≠T ->(s.heap.update T (Obj.mapFields (·.setIfInBounds 3 Value.none))).get? b=s.heap.get? b:=fun b hb=>Heap.get?_update_other _ _ (Ne.symm hb);refine tu (s:={s with heap:=s.heap.update T (Obj.mapFields (·.setIfInBounds 3 Value.none))}) hfr (f3.of_keeps fun b o q n=>⟨o,(far b (Cg hT hdT q n)).trans q,rfl⟩) hf ((far a (Ne.symm hne)).trans he) (fun b o q=>(far b fun z=>by rw[z,hB] at q;cases q).trans (f1 b o q)) f2 hd (Array.getElem?_eq_some_iff.mp h1).1 h2 fun h' w up=> ?_
  exact hQ h' _ w fun b o q n=>up b o ((far b (Cg hT hdT q n)).trans q) n
 ·unfold noteFrame;simp only [hf];refine z8 (wpAny_field he hd h1 ?_);rw[if_neg (by decide)]
  exact tu hfr f3 hf he f1 f2 hd (Array.getElem?_eq_some_iff.mp h1).1 h2 fun h' w up=>hQ h' _ w up
theorem ztz(hfr:A.frames=some (env::outer))(hf:env.frame=some L)(x:FT B (env::outer) a cls s.heap)
  (hQ:∀h',FT B outer a cls h' ->s.heap.UpToSlots h' ->Q () {s with heap:=h'}):wpAny M A (leaving env (.ref a)) Q E s:=by
 unfold leaving;refine z8 (zx4 hfr hf x fun h1 dd w up=>FW (s:={s with heap:=h1}) w fun h2 w2 up2=> ?_);obtain⟨k1,k2,⟨_,_,k3⟩,k4⟩:=w2;exact hQ h2 ⟨k1,k2,k3,.inl ⟨dd,k4⟩⟩ (up.trans up2)
end
def iw(P:Program)(w:World):rA:=fun outer H s E e s' =>
 ∃a C H' B,e= .ref a/\s'.os=s.os/\AllBare s'.gens/\Un (frs outer) [] H H' s.heap s'.heap/\ig P w H' s'.heap/\FT B outer a C s'.heap/\
  (∀b o,s.heap.get? b=some o ->b∉frs outer ->∃o',B.get? b=some o')/\ (∀b u,H' b=some u ->∃o',B.get? b=some o')/\E C none H'
theorem iw.imp(h:iw P w outer H s E e s')(k:∀C dx H',E C dx H' ->E' C dx H'):iw P w outer H s E' e s' :=by
 obtain⟨a,C,H',B,h1,h2,h3,h4,h5,h6,h7,h8,h9⟩:=h;exact⟨a,C,H',B,h1,h2,h3,h4,h5,h6,h7,h8,k _ _ _ h9⟩
section
variable{X:Cx}{pins:bD}{σ:St}{H H' :Hp}{s s' :Shared}{B:Heap}{h' :Heap}
theorem z1i(hok:ig X.prog X.w H' s'.heap)(b1:B.StaysIn s'.heap)(b2:B.StaysIn h')(uR:∀b u,H' b=some u ->∃o',B.get? b=some o'):ig X.prog X.w H' h' :=fun b u e=>
 (hok b u e).stay (fun c v hc q=>by
  have:∃o',B.get? c=some o' :=by
   rcases hc with rfl | hc
   ·exact uR _ _ e
   ·exact uR _ _ hc
  obtain⟨o',e'⟩:=this;have z:=b1 c o' e';rw[q] at z;cases z;exact b2 c _ e') (fun _ q=>q) fun _ _ q=>q
theorem z4u(I:Inv X pins σ H s)(hex:X.ex= [])(os:s'.os=s.os)(bare:AllBare s'.gens)(un:Un (frs X.stack) [] H H' s.heap s'.heap)(hok:ig X.prog X.w H' s'.heap)(b1:B.StaysIn s'.heap)(b2:B.StaysIn h')
  (inB:∀b o,s.heap.get? b=some o ->b∉frs X.stack ->∃o',B.get? b=some o') (up:s'.heap.UpToSlots h'):
  Un X.fs [] X.H₀ H' X.s₀.heap h' /\∀b o,X.s₀.heap.get? b=some o ->b∉X.fs ->∃o',B.get? b=some o' :=by
 have I' :Inv X pins σ H' s' :=I.call' os un hok bare (fun b z=>absurd z (by simp))
 have hb:=I'.base;rw[hex] at hb;have hb0:=I.base;rw[hex] at hb0;have FZ:∀b o,X.s₀.heap.get? b=some o ->b∉X.fs ->∃o',B.get? b=some o' :=fun b o e n=>by
  obtain⟨o1,e1⟩:=hb0.there b o e (by simp)
  refine inB b o1 e1 fun z=> ?_;rcases zT.mp (I.stkSub b z) with z | z
  ·exact absurd (zL (zG e) I.ok.above) (by rw[z];exact yV _)
  ·exact n z
 refine⟨⟨fun b o e n hf hx=> ?_,fun b o e n hf hx=> ?_,fun b o e n hx=>hb.free b o e n hx,fun b o e hx=> ?_,hb.tups,hb.mF,hb.m9⟩,FZ⟩
 ·have e1:=hb.keep b o e n hf (by simp)
  obtain⟨o',e'⟩:=FZ b o e hf;have z:=b1 b o' e';rw[e1] at z;cases z;exact b2 b _ e'
 ·obtain⟨sl,e1⟩:=hb.slot b o e n hf (by simp)
  obtain⟨_,o2,e2,nf⟩:=I.ok.funs.mem hf;rw[e] at e2;cases e2;obtain⟨sl',e3⟩:=up b _ e1 nf;exact⟨sl',e3⟩
 ·by_cases hf:b∈X.fs
  ·obtain⟨sl,e1⟩:=hb.slot b o e (I.ok.Ed b hf) hf (by simp)
   obtain⟨_,o2,e2,nf⟩:=I.ok.funs.mem hf;rw[e] at e2;cases e2;obtain⟨sl',e3⟩:=up b _ e1 nf;exact⟨_,e3⟩
  ·obtain⟨o',e'⟩:=FZ b o e hf;exact⟨o',b2 b o' e'⟩
theorem X5(I:Inv X pins σ H s)(hex:X.ex= [])(hst:X.stack=X.env::X.outer)(hfr:X.env.frame=some X.env.locals)
  (h:iw X.prog X.w X.stack H s E e s'):wpAny (model X.prog X.w) X.A (leaving X.env e) (fun _ s'' =>iw X.prog X.w X.outer X.H₀ X.s₀ E e s'') Eb s' :=by
 obtain⟨a,C,H',B,rfl,os,bare,un,hok,PJ,inB,uR,hE⟩:=h;refine ztz (by rw[I.ok.frames,hst]) hfr (by rw[<- hst];exact PJ) fun h' yQ up=> ?_
 obtain⟨un',FZ⟩:=z4u I hex os bare un hok PJ.1 yQ.1 inB up;exact⟨a,C,H',B,rfl,os.trans I.os,bare,un',z1i hok PJ.1 yQ.1 uR,yQ,FZ,uR,hE⟩
end
def oJ(K:W.Frag)(C:Addr):Prop:=W.excIn K C [.type "ValueError",.type "Exception",.type "BaseException",.type "object"] "ValueError.__new__" =true
theorem z0a{K:W.Frag}{h:Heap}{C:Addr}(X:K.In h)(q:oJ K C):
  ∃bm N nm qn bs hdct sn sub ab col dd k0 k1 k2 k3 k5 mN,h.get? C=some (excClassObj nm qn C N bs bm hdct sn sub ab col dd k0 k1 k2 k3 k5 "ValueError.__new__")/\h.Ns N mN/\mN "__init__" =none/\
   OwnTail h [.type "ValueError",.type "Exception",.type "BaseException",.type "object"] bm:=by
 unfold oJ W.excIn at q;split at q
 ·rename_i dd cd sl ho;split at q
  ·rename_i C' bm k0 k1 k2 k3 n k5 hm hs;simp only [Bool.and_eq_true,beq_iff_eq,Bool.not_eq_true'] at q;obtain⟨⟨⟨⟨⟨rfl,rfl⟩,hdel⟩,ht⟩,hok⟩,hni⟩:=q;obtain⟨nm,bs,mro,ns,qn,hd,sn,sub,ab,col,del⟩:=cd;dsimp only at hm hdel hok hni;subst hm hdel;obtain rfl:sl= #[k0,k1,k2,k3,some (.builtin "ValueError.__new__"),k5]:=by
    cases sl;simp only at hs;rw[hs]
   exact⟨bm,ns,nm,qn,bs,hd,sn,sub,ab,col,dd,k0,k1,k2,k3,k5,_,X _ _ ho,.of_isNs (W.isNs_of_in X hok),W.nsMap_none_of_in X hok hni,W.tail_of_in X ht⟩
  ·cases q
 ·cases q
abbrev PL:List Value:= [.type "ValueError",.type "Exception",.type "BaseException",.type "object"]
def Ga(K:W.Frag)(C:Addr):Bool:=match K.lookup C with
 | some ⟨.type "type",_,.cls cd,sl⟩=>(match cd.mro,sl.toList with
  | .ref C' ::bm,[_,_,_,_,some (.builtin n),_]=>C' ==C&&n== "ValueError.__new__" && !cd.hasDel&&W.tailIn K PL bm
  | _,_=>false)
 | _=>false
def tD(K:W.Frag)(C:Addr):Prop:=Ga K C=true
section
variable{X:Cx}{pins:bD}{σ:St}{H:Hp}{s:Shared}
theorem z2d(hl:h.FunFrames base l)(hm:Heap.MadeExcOf h h1 a (.ref C) vs):FT (W.hideAll h (frs l)) l a (.ref C) h1:=by
 obtain⟨t,he,_,_⟩:=hm.there;refine⟨fun b o q=>hm.keeps b o (W.of_hideAll _ q),?_,?_,.inr ⟨_,_,he,rfl,rfl,rfl,rfl⟩⟩
 ·cases q:(W.hideAll h (frs l)).get? a with
  | none=>rfl
  | some o=>
   have z:=W.of_hideAll _ q;rw[hm.new] at z;cases z
 ·have k:=W.funFrames_hide (as:=frs l) hl fun env he a ha=>List.mem_filterMap.mpr ⟨env,he,ha⟩;exact k.of_keeps fun b o e _=>⟨o,hm.keeps b o e,rfl⟩
theorem zyd{x:Str}{C:Addr}{np cpos pos:Pos}{e:Expr}{es:List Expr}{t:TA}{Q:Flow ->Shared ->Prop}{E:XK}(hg:Gl X x)(hm:X.mg x=some (.ref C))(hC:oJ X.K C)(ha:PA X (e::es) t)(hh:X.calm=true)
  (I:Inv X pins σ H s) (h:t σ H fun vs H1=>vs.length<=sizeLine/\E (.ref C) none H1)
  (px:∀H1 s1 e s',Inv X pins σ H1 s1 ->iw X.prog X.w X.stack H1 s1 (fun C' dx H' =>C' = .ref C/\dx=none/\H' =H1/\E (.ref C) none H1) e s' ->X.xe e s')
  (hd:(x==("__debug__" :Str))=false:=by decide) (he:starEach (e::es) X.env=(false,eval e X.env)::starEach es X.env:=by rfl) (hpl:(backTo cpos (starEach es X.env)).any (·.1)=false:=by rfl):
  wpAny (model X.prog X.w) X.A (exec (.Raise (some (.Call (.Name x np) (e::es) [] cpos)) none pos) X.env) Q X.xe s:=by
 obtain⟨bm,N,nm,qn,bs,hdct,sn,sub,ab,col,dd,k0,k1,k2,k3,k5,mN,e1,e2,e3,e4⟩:=z0a I.mod.Ec hC;refine wpAny_Raise_call_subT (C:=C) (nm:=nm) (q:=qn) (N:=N) (bs:=bs) (bm:=bm) (hdct:=hdct) (sn:=sn) (sub:=sub) (ab:=ab) (col:=col) (dd:=dd) (k0:=k0) (k1:=k1) (k2:=k2) (k3:=k3) (k5:=k5)
  PySem.F.excBase_ValueError (mN:=mN) (e4.hasType PySem.F.excBase_ValueError.hasBase) (I.ok.hd hh) ?_ e3 (Nj I hg hm ⟨rfl,?_⟩ hd)
 ·rw[he];show(false || (backTo cpos (starEach es X.env)).any (·.1))=false
  rw[hpl];rfl
 ·have key:=ha cpos pins s σ H _ I h;rw[he] at key⊢;refine Calls.evalArgs_plain (wpAny_mono key (fun us s2 ⟨vs,H1,I1,r,z,q⟩=>⟨rfl,by rw[<- r.length];exact z,I1.bk _ _ e1,e2.keeps I1.bk,e4.keeps I1.bk,fun h' a hm=> ?_⟩) fun _ _ y=>y)
  refine px H1 s2 _ _ I1 ⟨a,.ref C,H1,W.hideAll s2.heap (frs X.stack),rfl,rfl,I1.bare,Un.kept hm.keeps,I1.hok.kept hm.keeps,z2d I1.stack hm,fun b o e n=>⟨o,W.hideAll_get _ e n⟩,fun b u e=> ?_,rfl,rfl,rfl,q⟩;obtain⟨o,eo⟩:∃o,s2.heap.get? b=some o:=by
   have k:=I1.hok b u e;cases u with
   | lst xs=>obtain⟨_,_,_,_,e⟩:=k;exact⟨_,e⟩
   | tup xs=>obtain⟨_,_,_,o,e,_⟩:=k;exact⟨_,e⟩
   | dK kvs=>obtain⟨_,_,_,_,o,_,_,e,_⟩:=k;exact⟨_,e⟩
   | dT kvs=>obtain⟨_,_,_,_,o,_,_,e,_⟩:=k;exact⟨_,e⟩
   | set S n=>obtain⟨o,_,_,_,e,_⟩:=k;exact⟨_,e⟩
   | ins C dx fs=>obtain⟨_,_,_,e,_⟩:=k;exact⟨_,e⟩
   | own y=>exact k
   | xd fs=>obtain⟨_,⟨_,_,_,e,_⟩,_⟩:=k;exact⟨_,e⟩
   | rng lo hi=>obtain⟨_,_,_,e⟩:=k;exact⟨_,e⟩
   | frz ob u=>obtain⟨e,_⟩:=k;exact⟨_,e⟩
   | wF ps=>exact⟨_,(show s2.heap.get? b=some _ from k)⟩
   | met f y=>exact⟨_,(show s2.heap.get? b=some _ from k)⟩
   | ext φ=>obtain⟨_,e,_⟩:=k;exact e
  refine⟨o,W.hideAll_get _ eo fun z=> ?_⟩;have:=I1.stkFree b z;rw[e] at this;cases this
end
abbrev G2:=List Slot
abbrev XW:=G2 ->Value ->Prop
abbrev aK:=G2 ->(D ->G2 ->Prop) ->XW ->Prop
abbrev bA:=G2 ->(List D ->G2 ->Prop) ->XW ->Prop
abbrev TT2:=G2 ->(Bool ->G2 ->Prop) ->XW ->Prop
structure lB where
 nx:G2 ->Prop
 rt:D ->Prop
 bk:G2 ->Prop:=fun _=>False
 ct:G2 ->Prop:=fun _=>False
 rf:D ->Prop:=fun _=>False
 rT:T ->Prop:=fun _=>False
 rm:D ->G2 ->Prop:=fun _ _=>False
abbrev au:=lB ->G2 ->XW ->Prop
open Classical in
noncomputable def qJ (F0 F:Hp):Hp:=fun b=>if∃w,LD w/\F0 b=some w then none else F b
section
variable(K:W.Frag)(F0 H0:Hp)
def yR(t:aK)(E:XW):TE:=fun σ H Q=>∃F Γ P,SR K F0 H0 F H σ Γ/\t Γ P E/\∀d Γ' F' H' v,SR K F0 H0 F' H' σ Γ' ->Same F F' ->Rep K F' d v ->P d Γ' ->Q v H'
def Gb(t:TT2)(E:XW):TT:=fun σ H Q=>∃F Γ P,SR K F0 H0 F H σ Γ/\t Γ P E/\∀b Γ' F' H',SR K F0 H0 F' H' σ Γ' ->Same F F' ->P b Γ' ->Q b H'
def Gd(t:bA)(E:XW):TA:=fun σ H Q=>∃F Γ P,SR K F0 H0 F H σ Γ/\t Γ P E/\∀ds Γ' F' H' vs,SR K F0 H0 F' H' σ Γ' ->Same F F' ->ak K F' ds vs ->P ds Γ' ->Q vs H'
def X6(t:bA)(E:XW):TE:=fun σ H Q=>∃F Γ P,SR K F0 H0 F H σ Γ/\t Γ P E/\∀ds Γ' F' H' a vs,SR K F0 H0 F' H' σ Γ' ->Same F F' ->H' a=some (.lst vs) ->F' a=none ->H0 a=none ->ak K F' ds vs ->Apart σ Γ' a ->P ds Γ' ->Q (.ref a) H'
structure rC (F:Hp) (D2:lB) (D:Ends):Prop where
 nx:∀Γ F' H σ,SR K F0 H0 F' H σ Γ ->Same F F' ->D2.nx Γ ->D.nx σ H
 bk:∀Γ F' H σ,SR K F0 H0 F' H σ Γ ->Same F F' ->D2.bk Γ ->D.bk σ H
 ct:∀Γ F' H σ,SR K F0 H0 F' H σ Γ ->Same F F' ->D2.ct Γ ->D.ct σ H
 rt:∀d v F' H,Gr F0 H0 F' H ->Rep K F' d v ->D2.rt d ->D.rt v H
 rf:∀d v F' H,Gr F0 H0 F' H ->Rep K (qJ F0 F') d v ->D2.rf d ->D.rt v H
 rT:∀t v as F' H,Gr F0 H0 F' H ->as.Nodup ->(∀a∈as,F' a=none/\H0 a=none) ->TR K F' H t v as ->D2.rT t ->D.rt v H
 rm:∀d v Γ F' H σ,SR K F0 H0 F' H σ Γ ->Rep K F' d v ->D2.rm d Γ ->D.rt v H
def J6(t:au)(E:XW):TS:=fun D σ H=>∃F Γ D2,SR K F0 H0 F H σ Γ/\t D2 Γ E/\rC K F0 H0 F D2 D
end
theorem rC.mono{K:W.Frag}{F0 H0 F F' :Hp}{D2:lB}{D:Ends}(k:rC K F0 H0 F D2 D)(s:Same F F'):rC K F0 H0 F' D2 D:=
 ⟨fun Γ F1 H σ R s1 h=>k.nx Γ F1 H σ R (s.trans s1) h,fun Γ F1 H σ R s1 h=>k.bk Γ F1 H σ R (s.trans s1) h,fun Γ F1 H σ R s1 h=>k.ct Γ F1 H σ R (s.trans s1) h,k.rt,k.rf,k.rT,k.rm⟩
structure X7 where
 xe:bL
 pn:bD
abbrev _root_.L2.Cx.wsh(X:Cx)(z:X7):Cx:={X with xe:=z.xe,pn:=z.pn}
structure Ctx (X:Cx) (F0 H0:Hp) (E:XW):Prop where
 pX:∀pins σ Γ F H s e s',Inv X pins σ H s ->SR X.K F0 H0 F H σ Γ ->iw X.prog X.w X.stack H s (fun C dx H' =>∃Γ' F',SR X.K F0 H0 F' H' σ Γ' /\Same F F' /\E Γ' C/\dx=none) e s' ->X.xe e s'
 po:PassesOwn (model X.prog X.w) X.A X.env X.xe
theorem Ctx.px(cx:Ctx X F0 H0 E)(pins:bD)(σ:St)(Γ:G2)(F H:Hp)(s:Shared)(e:Value)(s' :Shared)(I:Inv X pins σ H s)(R:SR X.K F0 H0 F H σ Γ)(hx:iw X.prog X.w X.stack H s (fun C dx H' =>E Γ C/\dx=none/\Same H H') e s'):X.xe e s' :=
 cx.pX pins σ Γ F H s e s' I R (hx.imp fun _ _ H' ⟨h1,h2,h3⟩=>⟨Γ,F,R.grow ⟨.refl _,R.g.trans h3,h3,fun b o e n=>by rw[e] at n;cases n⟩,.refl _,h1,h2⟩)
def QE(X:Cx)(F0 H0:Hp)(e:Expr)(t:aK):Prop:=∀z E,Ctx (X.wsh z) F0 H0 E ->PE (X.wsh z) e (yR X.K F0 H0 t E)
def QF(X:Cx)(F0 H0:Hp)(e:Expr)(t:bA):Prop:=∀z E,Ctx (X.wsh z) F0 H0 E ->PE (X.wsh z) e (X6 X.K F0 H0 t E)
def QT(X:Cx)(F0 H0:Hp)(e:Expr)(t:TT2):Prop:=∀z E,Ctx (X.wsh z) F0 H0 E ->PT (X.wsh z) e (Gb X.K F0 H0 t E)
def QW(X:Cx)(F0 H0:Hp)(e:Expr)(t:TT2):Prop:=∀z E,Ctx (X.wsh z) F0 H0 E ->PW (X.wsh z) e (Gb X.K F0 H0 t E)
def QA(X:Cx)(F0 H0:Hp)(es:List Expr)(t:bA):Prop:=∀z E,Ctx (X.wsh z) F0 H0 E ->PA (X.wsh z) es (Gd X.K F0 H0 t E)
def QS(X:Cx)(F0 H0:Hp)(st:Stmt)(t:au):Prop:=∀z E,Ctx (X.wsh z) F0 H0 E ->PS (X.wsh z) st (J6 X.K F0 H0 t E)
def qK(X:Cx)(F0 H0:Hp)(st:List Stmt)(t:au):Prop:=∀z E,Ctx (X.wsh z) F0 H0 E ->sG (X.wsh z) st (J6 X.K F0 H0 t E)
section
variable{X:Cx}{e:Expr}{es:List Expr}{st:Stmt}{sts:List Stmt}
theorem jh(h:PE X e t)(hi:∀σ H Q,t' σ H Q ->t σ H Q):PE X e t' :=fun pins s σ H Q I q=>h pins s σ H Q I (hi _ _ _ q)
theorem Ge(h:PT X e t)(hi:∀σ H Q,t' σ H Q ->t σ H Q):PT X e t' :=fun pins s σ H Q I q=>h pins s σ H Q I (hi _ _ _ q)
theorem X8(h:PW X e t)(hi:∀σ H Q,t' σ H Q ->t σ H Q):PW X e t' :=fun w pins s σ H Q I q=>h w pins s σ H Q I (hi _ _ _ q)
theorem Yb(h:PA X es t)(hi:∀σ H Q,t' σ H Q ->t σ H Q):PA X es t' :=fun p pins s σ H Q I q=>h p pins s σ H Q I (hi _ _ _ q)
theorem n6(h:PS X st t)(hi:∀D σ H,t' D σ H ->t D σ H):PS X st t' :=fun pins s σ H D I q=>h pins s σ H D I (hi _ _ _ q)
theorem Gf(h:sG X sts t)(hi:∀D σ H,t' D σ H ->t D σ H):sG X sts t' :=fun pins s σ H D I q=>h pins s σ H D I (hi _ _ _ q)
end
section
variable{X:Cx}{F0 H0:Hp}{a b c e:Expr}{es:List Expr}{pos:Pos}{ta tb tc te:aK}
def cC(d:D):aK:=fun Γ P _=>P d Γ
theorem PN(h:∀z,PE (X.wsh z) e (tC v))(r:∀F,Rep X.K F d v):QE X F0 H0 e (cC d):=fun z E cx=>
 jh (h z) fun σ H Q hq1=>by obtain⟨F,Γ,P,R,h,k⟩:=hq1;exact k _ _ _ _ _ R (.refl _) (r F) h
theorem aM{i j pos}:QE X F0 H0 (.Constant (.int i) j pos) (cC (.int i)):=PN (fun _=>Ww) fun _=>by unfold Rep;rfl
theorem vN{i j pos}:QE X F0 H0 (.Constant (.bool i) j pos) (cC (.bl i)):=PN (fun _=>z7j) fun _=>by unfold Rep;rfl
theorem Ci{x j pos}:QE X F0 H0 (.Constant (.str x) j pos) (cC (.str x)):=PN (fun _=>z6c) fun _=>by unfold Rep;rfl
def cV(i:Nat):aK:=fun Γ P _=>match Γ[i]? with
 | some (.pu d)=>P d Γ
 | some (.ow ds)=>P (.lst ds) (Γ.set i (.pu (.lst ds)))
 | _=>False
theorem z4o(hN:X.N[i]?=some x)(hv:pN X.env.scope x)(hd:(x==("__debug__" :Str))=false:=by decide)(hcd:(x==("__classdict__" :Str))=false:=by decide):QE X F0 H0 (.Name x pos) (cV i):=fun z E cx=>
 jh (sH (X:=X.wsh z) (i:=i) hN hv hd hcd) fun σ H Q hq2=>by
  obtain⟨F,Γ,P,R,h,k⟩:=hq2;unfold cV at h;split at h
  ·rename_i d e;obtain⟨o,e1,v,rfl,r⟩:=R.sl i _ e;exact⟨v,e1,k d Γ F H v R (.refl _) r h⟩
  ·rename_i ds e;obtain⟨a,F',e1,s1,R',r⟩:=R.frz e;exact⟨.ref a,e1,k _ _ F' H _ R' s1 r h⟩
  ·exact h.elim
def n8(K:W.Frag)(g:D ->D ->(D ->Prop) ->Prop):R2:=fun x y H Q=>∃F d1 d2 P,Same F H/\Rep K F d1 x/\Rep K F d2 y/\g d1 d2 P/\∀d z F' H',Gr F H F' H' ->Rep K F' d z ->P d ->Q z H'
def cB(g:D ->D ->(D ->Prop) ->Prop)(ta tb:aK):aK:=fun Γ P E=>ta Γ (fun d1 Γ1=>tb Γ1 (fun d2 Γ2=>g d1 d2 fun d=>P d Γ2) E) E
theorem J7{K:W.Frag}{g:D ->D ->(D ->Prop) ->Prop}{E:XW}{σ:St}{H:Hp}{Q:VK}(h:yR K F0 H0 (cB g ta tb) E σ H Q):Eu (n8 K g) (yR K F0 H0 ta E) (yR K F0 H0 tb E) σ H Q:=by
 obtain⟨F,Γ,P,R,h,k⟩:=h;refine⟨F,Γ,_,R,h,fun d1 Γ1 F1 H1 v1 R1 s1 r1 h1=>⟨F1,Γ1,_,R1,h1,fun d2 Γ2 F2 H2 v2 R2 s2 r2 h2=>⟨F2,d1,d2,_,R2.g,r1.up s2,r2,h2,fun d z F' H' gr rz hp=> ?_⟩⟩⟩;exact k d Γ2 F' H' z (R2.grow gr) (s1.trans (s2.trans gr.f)) rz hp
theorem aU(ho:∀z,iH (X.wsh z) (binaryOp op) (n8 X.K g))(ha:QE X F0 H0 a ta)(hb:QE X F0 H0 b tb):QE X F0 H0 (.BinOp a op b pos) (cB g ta tb):=fun z E cx=>
 jh (WY (ho z) (ha z E cx) (hb z E cx)) fun _ _ _ h=>J7 h
theorem uW(ho:∀z,iH (X.wsh z) (compareOp op) (n8 X.K g))(ha:QE X F0 H0 a ta)(hb:QE X F0 H0 b tb)(hm:behindInMarks op b=false):QE X F0 H0 (.Compare a [op] [b] pos) (cB g ta tb):=fun z E cx=>
 jh (z1u (ho z) (ha z E cx) (hb z E cx) hm) fun _ _ _ h=>J7 h
def cT(t:aK):TT2:=fun Γ P E=>t Γ (fun d Γ' =>match d with | .bl c=>P c Γ' | _=>False) E
theorem Yc{K:W.Frag}{E:XW}{σ:St}{H:Hp}{Q:Bool ->Hp ->Prop}(h:Gb K F0 H0 (cT te) E σ H Q):yR K F0 H0 te E σ H fun x H' =>∃c,x= .bl c/\Q c H' :=by
 obtain⟨F,Γ,P,R,h,k⟩:=h;refine⟨F,Γ,_,R,h,fun d Γ' F' H' v R' s' r q=> ?_⟩;cases d with
 | bl c=>
  unfold Rep at r;exact⟨c,r,k c Γ' F' H' R' s' q⟩
 | _=>exact False.elim q
theorem iR(ho:∀z,iH (X.wsh z) (compareOp op) (n8 X.K g))(ha:QE X F0 H0 a ta)(hb:QE X F0 H0 b tb)(hm:behindInMarks op b=false):QT X F0 H0 (.Compare a [op] [b] pos) (cT (cB g ta tb)):=fun z E cx=>
 Ge (z23 (ho z) (ha z E cx) (hb z E cx) hm) fun σ H Q h=>J7 (Yc h)
theorem wK(h:QE X F0 H0 e te)(he:∀whole,isTrue e X.env whole=(do let v<- whole;standAt e.pos;holding [v] (truthy v)):=by intro _;rfl):QT X F0 H0 e (cT te):=fun z E cx=>
 Ge (z4j (X:=X.wsh z) (h z E cx) he) fun _ _ _ h=>Yc h
def yS(t u:TT2):TT2:=fun Γ P E=>t Γ (fun c Γ' =>if c=true then u Γ' P E else P false Γ') E
def yU(t u:TT2):TT2:=fun Γ P E=>t Γ (fun c Γ' =>if c=true then P true Γ' else u Γ' P E) E
def pY(t:TT2):TT2:=fun Γ P E=>t Γ (fun c Γ' =>P (!c) Γ') E
variable{rest:List Expr}{tA vC :TT2}
theorem z2p(ha:QT X F0 H0 a tA):QW X F0 H0 (.BoolOp .And [a] pos) tA:=fun z E cx=>z2b (ha z E cx)
theorem Gg(ha:QT X F0 H0 a tA):QW X F0 H0 (.BoolOp .Or [a] pos) tA:=fun z E cx=>z4q (ha z E cx)
theorem z4i(ha:QT X F0 H0 a tA)(hb:QW X F0 H0 (.BoolOp .And (b::rest) pos) vC):QW X F0 H0 (.BoolOp .And (a::b::rest) pos) (yS tA vC):=fun z E cx=>
 X8 (z5w (ha z E cx) (hb z E cx)) fun σ H Q rD=>by obtain⟨F,Γ,P,R,h,k⟩:=rD;exact⟨F,Γ,_,R,h,fun c Γ1 F1 H1 R1 s1 q=>by
  cases c with
  | true=>
   simp only [if_true] at q⊢;exact⟨F1,Γ1,P,R1,q,fun b Γ2 F2 H2 R2 s2 p=>k b Γ2 F2 H2 R2 (s1.trans s2) p⟩
  | false=>
   simp only [Bool.false_eq_true,if_false] at q⊢;exact k _ _ _ _ R1 s1 q⟩
theorem Gh(ha:QT X F0 H0 a tA)(hb:QW X F0 H0 (.BoolOp .Or (b::rest) pos) vC):QW X F0 H0 (.BoolOp .Or (a::b::rest) pos) (yU tA vC):=fun z E cx=>
 X8 (z6v (ha z E cx) (hb z E cx)) fun σ H Q oK=>by obtain⟨F,Γ,P,R,h,k⟩:=oK;exact⟨F,Γ,_,R,h,fun c Γ1 F1 H1 R1 s1 q=>by
  cases c with
  | true=>
   simp only [if_true] at q⊢;exact k _ _ _ _ R1 s1 q
  | false=>
   simp only [Bool.false_eq_true,if_false] at q⊢;exact⟨F1,Γ1,P,R1,q,fun b Γ2 F2 H2 R2 s2 p=>k b Γ2 F2 H2 R2 (s1.trans s2) p⟩⟩
theorem rE(h:QW X F0 H0 e tA):QT X F0 H0 e tA:=fun z E cx=>(h z E cx).pt
theorem Gi(ha:QT X F0 H0 a tA):QT X F0 H0 (.UnaryOp .Not a pos) (pY tA):=fun z E cx=>
 Ge (z4h (ha z E cx)) fun σ H Q uX=>by obtain⟨F,Γ,P,R,h,k⟩:=uX;exact⟨F,Γ,_,R,h,fun c Γ1 F1 H1 R1 s1 q=>k _ _ _ _ R1 s1 q⟩
def oM(ta tb:aK):aK:=fun Γ P E=>ta Γ (fun d Γ' =>match d with | .bl true=>tb Γ' P E | .bl false=>P (.bl false) Γ' | _=>False) E
def za(ta tb:aK):aK:=fun Γ P E=>ta Γ (fun d Γ' =>match d with | .bl false=>tb Γ' P E | .bl true=>P (.bl true) Γ' | _=>False) E
def Gj(ta:aK):aK:=fun Γ P E=>ta Γ (fun d Γ' =>match d with | .bl c=>P (.bl (!c)) Γ' | _=>False) E
theorem J8{op}(h:QE X F0 H0 a ta):QE X F0 H0 (.BoolOp op [a] pos) ta:=fun z E cx=>z48 (h z E cx)
theorem PX(ha:QE X F0 H0 a ta)(hb:QE X F0 H0 (.BoolOp .And (b::rest) pos) tb):QE X F0 H0 (.BoolOp .And (a::b::rest) pos) (oM ta tb):=fun z E cx=>
 jh (z5b (ha z E cx) (hb z E cx)) fun σ H Q zc=>by obtain⟨F,Γ,P,R,h,k⟩:=zc;exact⟨F,Γ,_,R,h,fun d Γ1 F1 H1 v R1 s1 r q=>by
  cases d with
  | bl c=>
   unfold Rep at r;refine⟨c,r,?_⟩;cases c with
   | true=>rw[if_pos rfl];exact⟨F1,Γ1,P,R1,q,fun d Γ2 F2 H2 v R2 s2 r p=>k d Γ2 F2 H2 v R2 (s1.trans s2) r p⟩
   | false=>rw[if_neg Bool.false_ne_true];exact k _ _ _ _ _ R1 s1 (by unfold Rep;rfl) q
  | _=>exact False.elim q⟩
theorem z6z(ha:QE X F0 H0 a ta)(hb:QE X F0 H0 (.BoolOp .Or (b::rest) pos) tb):QE X F0 H0 (.BoolOp .Or (a::b::rest) pos) (za ta tb):=fun z E cx=>
 jh (z7l (ha z E cx) (hb z E cx)) fun σ H Q sU=>by obtain⟨F,Γ,P,R,h,k⟩:=sU;exact⟨F,Γ,_,R,h,fun d Γ1 F1 H1 v R1 s1 r q=>by
  cases d with
  | bl c=>
   unfold Rep at r;refine⟨c,r,?_⟩;cases c with
   | false=>rw[if_neg Bool.false_ne_true];exact⟨F1,Γ1,P,R1,q,fun d Γ2 F2 H2 v R2 s2 r p=>k d Γ2 F2 H2 v R2 (s1.trans s2) r p⟩
   | true=>rw[if_pos rfl];exact k _ _ _ _ _ R1 s1 (by unfold Rep;rfl) q
  | _=>exact False.elim q⟩
def J9(t:TT2)(ta tb:aK):aK:=fun Γ P E=>t Γ (fun c Γ' =>if c=true then ta Γ' P E else tb Γ' P E) E
theorem Yd(hc:QT X F0 H0 c tA)(ha:QE X F0 H0 a ta)(hb:QE X F0 H0 b tb):QE X F0 H0 (.IfExp c a b pos) (J9 tA ta tb):=fun z E cx=>
 jh (zyf (hc z E cx) (ha z E cx) (hb z E cx)) fun σ H Q Qa=>by obtain⟨F,Γ,P,R,h,k⟩:=Qa;exact⟨F,Γ,_,R,h,fun c Γ1 F1 H1 R1 s1 q=>by
  cases c with
  | true=>rw[if_pos rfl] at q⊢;exact⟨F1,Γ1,P,R1,q,fun d Γ2 F2 H2 v R2 s2 r p=>k d Γ2 F2 H2 v R2 (s1.trans s2) r p⟩
  | false=>rw[if_neg Bool.false_ne_true] at q⊢;exact⟨F1,Γ1,P,R1,q,fun d Γ2 F2 H2 v R2 s2 r p=>k d Γ2 F2 H2 v R2 (s1.trans s2) r p⟩⟩
def aq:bA:=fun Γ P _=>P [] Γ
def aj(t:aK)(u:bA):bA:=fun Γ P E=>t Γ (fun d Γ1=>u Γ1 (fun ds Γ2=>P (d::ds) Γ2) E) E
theorem aN:QA X F0 H0 [] aq:=fun z E cx=>Yb Oh fun σ H Q zf=>by obtain⟨F,Γ,P,R,h,k⟩:=zf;exact k _ _ _ _ _ R (.refl _) (by unfold ak;rfl) h
theorem aA(ha:QE X F0 H0 e te)(hr:QA X F0 H0 es tr)(hs:starEach (e::es) X.env=(false,eval e X.env)::starEach es X.env:=by rfl):QA X F0 H0 (e::es) (aj te tr):=fun z E cx=>
 Yb (J1 (X:=X.wsh z) (ha z E cx) (hr z E cx) hs) fun σ H Q ⟨F,Γ,P,R,h,k⟩=>
  ⟨F,Γ,_,R,h,fun d Γ1 F1 H1 v1 R1 s1 r1 h1=>⟨F1,Γ1,_,R1,h1,fun ds Γ2 F2 H2 vs R2 s2 r2 h2=>k _ _ _ _ _ R2 (s1.trans s2) (pW (r1.up s2) r2) h2⟩⟩
def j8(t:bA):aK:=fun Γ P E=>t Γ (fun ds Γ1=>ds.length<=sizeLine/\P (.tup ds) Γ1) E
theorem uY{x1}(h:QA X F0 H0 es t):QE X F0 H0 (.Tuple es x1 pos) (j8 t):=fun z E cx=>
 jh (z5o (h z E cx)) fun σ H Q yw=>by obtain⟨F,Γ,P,R,h,k⟩:=yw;exact⟨F,Γ,_,R,h,fun ds Γ1 F1 H1 vs R1 s1 r1 h1=>⟨by rw[<- iu r1];exact h1.1,fun p hp=>by
  have gr:=Gr.laid (o:=HO.tup vs) R1.g hp;refine k _ _ _ _ _ (R1.grow gr) (s1.trans gr.f) ?_ h1.2;unfold Rep;exact⟨p,vs,rfl,.inl (.inl mQ),r1.up gr.f⟩⟩⟩
def fU(t:bA):bA:=fun Γ P E=>t Γ (fun ds Γ1=>ds.length<=sizeLine/\P ds Γ1) E
theorem vO{K:W.Frag}{F H:Hp}{σ:St}{Γ:G2}{p:Addr}{vs:List V}{ds:List D}(R:SR K F0 H0 F H σ Γ)(hp:H p=none)(r:ak K F ds vs):
  SR K F0 H0 F (L2.upd H p (.lst vs)) σ Γ/\ (L2.upd H p (.lst vs)) p=some (.lst vs)/\F p=none/\H0 p=none/\Apart σ Γ p:=by
 refine⟨?_,mQ,R.g.free hp,R.gr.h.free hp,R.apart hp⟩;refine R.grow ⟨.refl _,fun b u e=> ?_,fun b u e=> ?_,fun b o e n=>by rw[e] at n;cases n⟩
 ·rw[dH (mC (R.g b u e) hp)];exact R.g b u e
 ·rw[dH (mC e hp)];exact e
theorem oh{t:bA}(h:QA X F0 H0 es t):QF X F0 H0 (.List es pos) (fU t):=fun z E cx=>
 jh (z4w (h z E cx)) fun σ H Q sV=>by obtain⟨F,Γ,P,R,h,k⟩:=sV;exact⟨F,Γ,_,R,h,fun ds Γ1 F1 H1 vs R1 s1 r1 h1=>⟨by rw[<- iu r1];exact h1.1,fun p hp=>by
  obtain⟨R2,e1,e2,e3,ap⟩:=vO R1 hp r1;exact k ds Γ1 F1 _ p vs R2 s1 e1 e2 e3 r1 ap h1.2⟩⟩
def dg(t:bA):aK:=fun Γ P E=>t Γ (fun ds Γ1=>P (.lst ds) Γ1) E
theorem dZ(h:QF X F0 H0 e t):QE X F0 H0 e (dg t):=fun z E cx=>
 jh (h z E cx) fun σ H Q sW=>by obtain⟨F,Γ,P,R,h,k⟩:=sW;exact⟨F,Γ,_,R,h,fun ds Γ1 F1 H1 a vs R1 s1 e1 e2 e3 r1 ap h1=>by
  obtain⟨s2,_⟩:=PB R1.g e1 e2;refine k _ _ _ _ _ (R1.frzA e1 e2 e3 ap) (s1.trans s2) ?_ h1;unfold Rep;exact⟨a,vs,rfl,.inl (.inl mQ),r1.up s2⟩⟩
variable{st:Stmt}{sts:List Stmt}{t u:au}
def bW:au:=fun D Γ _=>D.nx Γ
def aB(t u:au):au:=fun D Γ E=>t {D with nx:=fun Γ' =>u D Γ' E} Γ E
theorem lC:qK X F0 H0 [] bW:=fun z E cx=>Gf z2s fun D σ H Qc=>by obtain⟨F,Γ,D2,R,h,k⟩:=Qc;exact k.nx _ _ _ _ R (.refl _) h
theorem bx(h1:QS X F0 H0 st t)(h2:qK X F0 H0 sts u):qK X F0 H0 (st::sts) (aB t u):=fun z E cx=>
 Gf (zz3 (h1 z E cx) (h2 z E cx)) fun D σ H Qd=>by obtain⟨F,Γ,D2,R,h,k⟩:=Qd;exact⟨F,Γ,_,R,h,⟨fun Γ' F' H' σ' R' s' q=>⟨F',Γ',D2,R',q,k.mono s'⟩,k.bk,k.ct,k.rt,k.rf,k.rT,k.rm⟩⟩
theorem bM(h1:QS X F0 H0 st t):qK X F0 H0 [st] t:=fun z E cx=>z1w (h1 z E cx)
def aaU:au:=fun D Γ _=>D.bk Γ
def aaV:au:=fun D Γ _=>D.ct Γ
def Gk(te:aK):au:=fun D Γ E=>te Γ (fun _ Γ1=>D.nx Γ1) E
def bJ(te:aK):au:=fun D Γ E=>te Γ (fun d _=>D.rt d) E
theorem fV(he:QE X F0 H0 e te):QS X F0 H0 (.Return (some e) pos) (bJ te):=fun z E cx=>
 n6 (WK (he z E cx)) fun D σ H Qe=>by obtain⟨F,Γ,D2,R,h,k⟩:=Qe;exact⟨F,Γ,_,R,h,fun d Γ1 F1 H1 v R1 s1 r1 h1=>k.rt _ _ _ _ R1.gr r1 h1⟩
def Gn:au:=fun D _ _=>D.rt .non
def d7(c:TT2)(t u:au):au:=fun D Γ E=>c Γ (fun b Γ1=>if b=true then t D Γ1 E else u D Γ1 E) E
theorem lD(hc:QT X F0 H0 c tA)(ha:qK X F0 H0 x t)(hb:qK X F0 H0 y u):QS X F0 H0 (.If c x y pos) (d7 tA t u):=fun z E cx=>
 n6 (z6m (hc z E cx) (ha z E cx) (hb z E cx)) fun D σ H Qf=>by obtain⟨F,Γ,D2,R,h,k⟩:=Qf;exact⟨F,Γ,_,R,h,fun c Γ1 F1 H1 R1 s1 q=>by
  cases c with
  | true=>rw[if_pos rfl] at q⊢;exact⟨F1,Γ1,D2,R1,q,k.mono s1⟩
  | false=>rw[if_neg Bool.false_ne_true] at q⊢;exact⟨F1,Γ1,D2,R1,q,k.mono s1⟩⟩
def Qg:au:=fun _ _ _=>False
def aO(i:Nat)(te:aK):au:=fun D Γ E=>te Γ (fun d Γ1=>D.nx (Γ1.set i (.pu d))) E
theorem dF(hN:X.N.Nodup)(hi:X.N[i]?=some x)(hx:Loc X.env.scope x)(he:QE X F0 H0 e te)(hs:swapsWith e (some (.Name x pos')) pos.line X.env=pure false:=by rfl)
  (hf:X.fn x=true\/X.env.scope.names.lookup x=some .local:=by first | exact .inl rfl | exact .inr rfl):QS X F0 H0 (.Assign [.Name x pos'] e pos) (aO i te):=fun z E cx=>
 n6 (NP (X:=X.wsh z) (i:=i) hN hi hx (he z E cx) hs hf) fun D σ H Qh=>by obtain⟨F,Γ,D2,R,h,k⟩:=Qh;exact⟨F,Γ,_,R,h,fun d Γ1 F1 H1 v R1 s1 r1 h1=>k.nx _ _ _ _ (R1.set i r1) s1 h1⟩
def gG(i:Nat)(t:bA):au:=fun D Γ E=>t Γ (fun ds Γ1=>D.nx (Γ1.set i (.ow ds))) E
theorem zj(hN:X.N.Nodup)(hi:X.N[i]?=some x)(hx:Loc X.env.scope x)(he:QF X F0 H0 e tf)(hs:swapsWith e (some (.Name x pos')) pos.line X.env=pure false:=by rfl)
  (hf:X.fn x=true\/X.env.scope.names.lookup x=some .local:=by first | exact .inl rfl | exact .inr rfl):QS X F0 H0 (.Assign [.Name x pos'] e pos) (gG i tf):=fun z E cx=>
 n6 (NP (X:=X.wsh z) (i:=i) hN hi hx (he z E cx) hs hf) fun D σ H Qi=>by obtain⟨F,Γ,D2,R,h,k⟩:=Qi;exact⟨F,Γ,_,R,h,fun ds Γ1 F1 H1 a vs R1 s1 e1 e2 e3 r1 ap h1=>k.nx _ _ _ _ (R1.setOw i e1 e2 e3 r1 ap) s1 h1⟩
end
end L3
namespace L3
open PySem PySem.Spec PyProof.Rows L2
abbrev jT:=D ->G2 ->(G2 ->Prop) ->XW ->Prop
abbrev mG:=List D ->G2 ->(G2 ->Prop) ->XW ->Prop
section
variable(K:W.Frag)(F0 H0:Hp)
def Ka(g:jT)(E:XW):TG:=fun v σ H Q=>∃F Γ P d,SR K F0 H0 F H σ Γ/\Rep K F d v/\g d Γ P E/\∀Γ' F' H' σ',SR K F0 H0 F' H' σ' Γ' ->Same F F' ->P Γ' ->Q σ' H'
def Qj(g:mG)(E:XW):vD:=fun vs σ H Q=>∃F Γ P ds,SR K F0 H0 F H σ Γ/\ak K F ds vs/\g ds Γ P E/\∀Γ' F' H' σ',SR K F0 H0 F' H' σ' Γ' ->Same F F' ->P Γ' ->Q σ' H'
end
def QG(X:Cx)(F0 H0:Hp)(e:Expr)(g:jT):Prop:=∀z E,Ctx (X.wsh z) F0 H0 E ->PG (X.wsh z) e (Ka X.K F0 H0 g E)
def Kc(X:Cx)(F0 H0:Hp)(es:List Expr)(g:mG):Prop:=∀z E,Ctx (X.wsh z) F0 H0 E ->yx (X.wsh z) es (Qj X.K F0 H0 g E)
section
variable{X:Cx}{F0 H0:Hp}{e tg:Expr}{es:List Expr}{pos:Pos}{te:aK}{g:jT}{gs:mG}
theorem Ye(h:PG X e t)(hi:∀v σ H Q,t' v σ H Q ->t v σ H Q):PG X e t' :=fun pins s σ H v u Q I r q=>h pins s σ H v u Q I r (hi _ _ _ _ q)
theorem Gp(h:yx X es t)(hi:∀v σ H Q,t' v σ H Q ->t v σ H Q):yx X es t' :=fun pins s σ H v u Q I r q=>h pins s σ H v u Q I r (hi _ _ _ _ q)
def hName(i:Nat):jT:=fun d Γ Q _=>Q (Γ.set i (.pu d))
theorem cQ(hN:X.N.Nodup)(hi:X.N[i]?=some x)(hx:Loc X.env.scope x)(hf:X.fn x=true\/X.env.scope.names.lookup x=some .local:=by first | exact .inl rfl | exact .inr rfl):QG X F0 H0 (.Name x pos) (hName i):=fun z E cx=>
 Ye (z3u (X:=X.wsh z) (i:=i) hN hi hx hf) fun v σ H Q hq1=>by obtain⟨F,Γ,P,d,R,r,h,k⟩:=hq1;exact k _ _ _ _ (R.set i r) (.refl _) h
def iT:mG:=fun ds Γ Q _=>ds= []/\Q Γ
def aW(g:jT)(gs:mG):mG:=fun ds Γ Q E=>match ds with | d::r=>g d Γ (fun Γ' =>gs r Γ' Q E) E | []=>False
theorem sI:Kc X F0 H0 [] iT:=fun z E cx=>Gp z3w fun vs σ H Q hq2=>by
 obtain⟨F,Γ,P,ds,R,r,h,k⟩:=hq2;obtain⟨rfl,h⟩:=h;unfold ak at r;exact⟨r,k _ _ _ _ R (.refl _) h⟩
theorem iU(h1:QG X F0 H0 e g)(h2:Kc X F0 H0 es gs)(hs:(assignEach (e::es) X.env).map (·.2)=assign e X.env::(assignEach es X.env).map (·.2):=by rfl):Kc X F0 H0 (e::es) (aW g gs):=fun z E cx=>
 Gp (zy0 (X:=X.wsh z) (h1 z E cx) (h2 z E cx) hs) fun vs σ H Q rD=>by
  obtain⟨F,Γ,P,ds,R,r,h,k⟩:=rD;cases ds with
  | nil=>exact False.elim h
  | cons d ds=>
   unfold ak at r;obtain⟨v,us,rfl,r1,r2⟩:=r;exact⟨v,us,rfl,F,Γ,_,d,R,r1,h,fun Γ1 F1 H1 σ1 R1 s1 q=>⟨F1,Γ1,P,ds,R1,r2.up s1,q,fun Γ2 F2 H2 σ2 R2 s2 p=>k _ _ _ _ R2 (s1.trans s2) p⟩⟩
def iV(n:Nat)(gs:mG):jT:=fun d Γ Q E=>match d with | .tup ds=>ds.length=n/\gs ds Γ Q E | _=>False
theorem sJ(hc:X.calm=true)(h:Kc X F0 H0 es gs)(hn:(assignEach es X.env).length=n:=by rfl)(hst:(assignEach es X.env).findIdx? (·.1)=none:=by rfl):QG X F0 H0 (.Tuple es k pos) (iV n gs):=fun z E cx=>
 Ye (z57 (X:=X.wsh z) (n:=n) hc (h z E cx) hn hst) fun v σ H Q oK=>by
  obtain⟨F,Γ,P,d,R,r,h,k⟩:=oK;cases d with
  | tup ds=>
   unfold Rep at r;obtain⟨a,vs,rfl,hq,rs⟩:=r;exact⟨a,vs,rfl,lA R.g hq,by rw[<- iu rs];exact h.1,F,Γ,P,ds,R,rs,h.2,k⟩
  | _=>exact False.elim h
def Qk(te:aK)(g:jT):au:=fun D Γ E=>te Γ (fun d Γ1=>g d Γ1 D.nx E) E
def zm(i j:Nat)(t:bA):au:=fun D Γ E=>t Γ (fun ds Γ1=>match ds with | [x,y]=>D.nx ((Γ1.set i (.pu x)).set j (.pu y)) | _=>False) E
theorem z5d{kt k2 yC}(hc:X.calm=true)(hN:X.N.Nodup)(hi:X.N[i]?=some x)(hj:X.N[j]?=some y)(hij:i≠j)
  (hx:X.env.scope.names.lookup x=some .local) (hy:X.env.scope.names.lookup y=some .local) (ha:QA X F0 H0 [a,b] t)
  (hw:swappedStores [.Tuple [.Name x px,.Name y py] kt pt] (.Tuple [a,b] k2 yC) X.env=pure (some [x,y])) (hs:swapsWithSole [.Tuple [.Name x px,.Name y py] kt pt] (.Tuple [a,b] k2 yC) pos.line X.env=pure false:=by rfl):
  QS X F0 H0 (.Assign [.Tuple [.Name x px,.Name y py] kt pt] (.Tuple [a,b] k2 yC) pos) (zm i j t):=fun z E cx=>
 n6 (z45 (X:=X.wsh z) (i:=i) (j:=j) hc hN hi hj hij hx hy (ha z E cx) hw hs) fun D σ H zc=>by obtain⟨F,Γ,D2,R,h,k⟩:=zc;exact⟨F,Γ,_,R,h,fun ds Γ1 F1 H1 vs R1 s1 r1 h1=>by
  match ds,r1,h1 with
  | [d1,d2],r1,h1=>
   unfold ak ak ak at r1;obtain⟨v1,_,rfl,q1,v2,_,rfl,q2,rfl⟩:=r1;exact⟨v1,v2,rfl,k.nx _ _ _ _ ((R1.set i q1).set j q2) s1 h1⟩
  | [],_,h1=>exact False.elim h1
  | [_],_,h1=>exact False.elim h1
  | _::_::_::_,_,h1=>exact False.elim h1⟩
def pZ(c:TT2)(tb:au):au:=fun D Γ E=>∃W:Nat ->G2 ->Prop,(∃m,W m Γ)/\∀m Γ,W m Γ ->
 c Γ (fun b Γ1=>if b=true then tb {D with nx:=fun Γ' =>∃m',m' <m/\W m' Γ',ct:=fun Γ' =>∃m',m' <m/\W m' Γ',bk:=D.nx} Γ1 E else D.nx Γ1) E
theorem Yg(hc:QT X F0 H0 c tc)(hb:qK X F0 H0 body tb):QS X F0 H0 (.While c body [] pos) (pZ tc tb):=fun z E cx=>
 n6 (zzj cx.po (hc z E cx) (hb z E cx)) fun D σ H sU=>by
  obtain⟨F,Γ,D2,R,⟨W,⟨m,w0⟩,turn⟩,k⟩:=sU;refine⟨fun m σ H=>∃F1 Γ1,SR X.K F0 H0 F1 H σ Γ1/\Same F F1/\W m Γ1,⟨m,F,Γ,R,.refl _,w0⟩,fun m σ H ⟨F1,Γ1,R1,s1,w1⟩=>⟨F1,Γ1,_,R1,turn m Γ1 w1,fun b Γ2 F2 H2 R2 s2 q=> ?_⟩⟩;cases b with
  | true=>
   rw[if_pos rfl] at q⊢;refine⟨fun σ' H' =>∃m',m' <m/\∃F3 Γ3,SR X.K F0 H0 F3 H' σ' Γ3/\Same F F3/\W m' Γ3,fun σ' H' z=>z,F2,Γ2,_,R2,q,⟨fun Γ3 F3 H3 σ3 R3 s3 ⟨m',l,w3⟩=>⟨m',l,F3,Γ3,R3,s1.trans (s2.trans s3),w3⟩,fun Γ3 F3 H3 σ3 R3 s3 p=>k.nx _ _ _ _ R3 (s1.trans (s2.trans s3)) p,
    fun Γ3 F3 H3 σ3 R3 s3 ⟨m',l,w3⟩=>⟨m',l,F3,Γ3,R3,s1.trans (s2.trans s3),w3⟩,k.rt,k.rf,k.rT,k.rm⟩⟩
  | false=>
   rw[if_neg Bool.false_ne_true] at q⊢;exact k.nx _ _ _ _ R2 (s1.trans s2) q
def Ql(K:W.Frag)(tl:TE):TI:=fun σ H R=>tl σ H fun x H1=>∃a,x= .ref a/\ (((∃xs,fZ K H1 a xs)/\R (yE K a) H1)\/ ((∃xs,je K H1 a xs)/\R (wH K a) H1))
theorem z5n(hl:PE X l tl):PI X tg l (Ql X.K tl):=by
 intro pins s σ H R I h;refine bG (hl pins s σ H _ I h) fun v s1 Qa=> ?_;obtain⟨x,H1,I1,r1,q1⟩:=Qa;obtain⟨a,e,q⟩:=q1;subst e;cases r1;rcases q with ⟨⟨xs,hq⟩,q⟩ | ⟨⟨xs,hq⟩,q⟩
 ·obtain⟨its,rv,p,hz⟩:=I1.list hq;refine wpAny_pyIter_list p.isList ?_;refine⟨s1.heap.objs.size,[s1.heap.objs.size],_,_,H1,rfl,I1.kept (t' :=s1.toks) fun b o e=>zZ _ e,WQ a _,⟨_,zY _ rfl,rfl,rfl⟩,fun b hb=> ?_,q⟩;obtain rfl:b=s1.heap.objs.size:=by simpa using hb
  exact I1.fpOk (zM _) (I1.hok.fresh (zM _))
 ·obtain⟨its,rv,p,hz⟩:=I1.tuple hq;refine wpAny_pyIter_tuple (show s1.heap.IsTuple a its.toArray from p) ?_;refine⟨s1.heap.objs.size,[s1.heap.objs.size],_,_,H1,rfl,I1.kept (t' :=s1.toks) fun b o e=>zZ _ e,WR a _,⟨_,zY _ rfl,rfl,rfl⟩,fun b hb=> ?_,q⟩;obtain rfl:b=s1.heap.objs.size:=by simpa using hb
  exact I1.fpOk (zM _) (I1.hok.fresh (zM _))
def mR(ds:List D)(g:jT)(tb:au)(D0:lB)(E:XW)(Γ:G2):Prop:=∃I:Nat ->G2 ->Prop,I 0 Γ/\
 (∀(i:Nat) x Γ,ds[i]?=some x ->I i Γ ->g x Γ (fun Γ' =>tb {D0 with nx:=I (i+1),ct:=I (i+1),bk:=D0.nx} Γ' E) E)/\∀Γ,I ds.length Γ ->D0.nx Γ
def ji(te:aK)(g:jT)(tb:au):au:=fun D0 Γ E=>te Γ (fun d Γ1=>match d with | .lst ds=>mR ds g tb D0 E Γ1 | .tup ds=>mR ds g tb D0 E Γ1 | _=>False) E
theorem rF(hc:X.calm=true)(hi:QE X F0 H0 iter te)(hg:QG X F0 H0 tg g)(hb:qK X F0 H0 body tb)(hs:∀x,foldedSetIterable iter X.env x=pure x:=by intro _;rfl):
  QS X F0 H0 (.For tg iter body [] pos) (ji te g tb):=fun z E cx=>
 n6 (JW (X:=X.wsh z) cx.po hc (z5n (hi z E cx)) (hg z E cx) (hb z E cx) hs) fun Dn σ H zf=>by obtain⟨F,Γ,D2,R,h,k⟩:=zf;exact⟨F,Γ,_,R,h,fun d Γ1 F1 H1 v R1 s1 r1 h1=>by
  have body:∀(ds:List L3.D) (vs:List V),ak X.K F1 ds vs ->∀I:Nat ->G2 ->Prop,(∀(i:Nat) x Γ,ds[i]?=some x ->I i Γ ->g x Γ (fun Γ' =>tb {D2 with nx:=I (i+1),ct:=I (i+1),bk:=D2.nx} Γ' E) E) ->
    ∀(i:Nat) x σ H,vs[i]?=some x ->(∃F2 Γ2,SR X.K F0 H0 F2 H σ Γ2/\Same F1 F2/\I i Γ2) ->Ka X.K F0 H0 g E x σ H fun σ2 H2=>J6 X.K F0 H0 tb E {Dn with nx:=fun σ H=>∃F2 Γ2,SR X.K F0 H0 F2 H σ Γ2/\Same F1 F2/\I (i+1) Γ2,ct:=fun σ H=>∃F2 Γ2,SR X.K F0 H0 F2 H σ Γ2/\Same F1 F2/\I (i+1) Γ2,bk:=Dn.nx} σ2 H2:=by
   rintro ds vs rs I turn i x σ H hx ⟨F2,Γ2,R2,s2,hI⟩;obtain⟨d,hd,rd⟩:=XQ rs hx;exact⟨F2,Γ2,_,d,R2,rd.up s2,turn i d Γ2 hd hI,fun Γ3 F3 H3 σ3 R3 s3 p=>⟨F3,Γ3,{D2 with nx:=I (i+1),ct:=I (i+1),bk:=D2.nx},R3,p,⟨fun Γ4 F4 H4 σ4 R4 s4 q=>⟨F4,Γ4,R4,s2.trans (s3.trans s4),q⟩,fun Γ4 F4 H4 σ4 R4 s4 q=>k.nx _ _ _ _ R4 (s1.trans (s2.trans (s3.trans s4))) q,
    fun Γ4 F4 H4 σ4 R4 s4 q=>⟨F4,Γ4,R4,s2.trans (s3.trans s4),q⟩,k.rt,k.rf,k.rT,k.rm⟩⟩⟩
  cases d with
  | lst ds=>
   unfold Rep at r1;obtain⟨a,vs,rfl,hq,rs⟩:=r1;obtain⟨I,i0,turn,done⟩:=h1;refine⟨a,rfl,.inl ⟨⟨vs,R1.g.seq hq⟩,zz7 (xs:=vs) (fun i σ H=>∃F2 Γ2,SR X.K F0 H0 F2 H σ Γ2/\Same F1 F2/\I i Γ2) ⟨F1,Γ1,R1,.refl _,i0⟩ (fun i σ H _ ⟨F2,Γ2,R2,s2,_⟩=>R2.g.seq (s2.seq hq)) (body ds vs rs I turn) ?_⟩⟩;rintro σ H ⟨F2,Γ2,R2,s2,hI⟩;exact k.nx _ _ _ _ R2 (s1.trans s2) (done _ (by rw[iu rs];exact hI))
  | tup ds=>
   unfold Rep at r1;obtain⟨a,vs,rfl,hq,rs⟩:=r1;obtain⟨I,i0,turn,done⟩:=h1;refine⟨a,rfl,.inr ⟨⟨vs,lA R1.g hq⟩,z19 (xs:=vs) (fun i σ H=>∃F2 Γ2,SR X.K F0 H0 F2 H σ Γ2/\Same F1 F2/\I i Γ2) ⟨F1,Γ1,R1,.refl _,i0⟩ (fun i σ H _ ⟨F2,Γ2,R2,s2,_⟩=>lA R2.g (lA s2 hq)) (body ds vs rs I turn) ?_⟩⟩;rintro σ H ⟨F2,Γ2,R2,s2,hI⟩;exact k.nx _ _ _ _ R2 (s1.trans s2) (done _ (by rw[iu rs];exact hI))
  | _=>exact False.elim h1⟩
def tE(lo:Int)(n:Nat)(g:jT)(tb:au)(D0:lB)(E:XW)(Γ:G2):Prop:=∃I:Nat ->G2 ->Prop,I 0 Γ/\
 (∀(i:Nat) Γ,i<n ->I i Γ ->g (.int (lo+i)) Γ (fun Γ' =>tb {D0 with nx:=I (i+1),ct:=I (i+1),bk:=D0.nx} Γ' E) E)/\∀Γ,I n Γ ->D0.nx Γ
theorem Yh{K:W.Frag}{F1 H1:Hp}{Γ1:G2}{σ:St}{lo:Int}{n:Nat}{tb:au}{D2:lB}{D:Ends}{E:XW}(R1:SR K F0 H0 F1 H1 σ Γ1)(h:tE lo n g tb D2 E Γ1)(k:rC K F0 H0 F1 D2 D):
  ∃W:Nat ->Nat ->St ->Hp ->Prop,(∃m,W 0 m σ H1)/\∀i m σ H,W i m σ H ->((uT lo n).stop i H/\D.nx σ H)\/ ((uT lo n).go i H/\∃N:St ->Hp ->Prop,(∀σ' H',N σ' H' ->∃m',m' <m/\W (i+1) m' σ' H')/\
   ∀x H',(uT lo n).yld i H x H' ->Ka K F0 H0 g E x σ H' fun σ2 H2=>J6 K F0 H0 tb E {D with nx:=N,ct:=N,bk:=D.nx} σ2 H2):=by
 obtain⟨I,i0,turn,done⟩:=h;refine zud (lo:=lo) (n:=n) (fun i σ H=>∃F2 Γ2,SR K F0 H0 F2 H σ Γ2/\Same F1 F2/\I i Γ2) ⟨F1,Γ1,R1,.refl _,i0⟩ ?_ ?_
 ·rintro i σ H hi ⟨F2,Γ2,R2,s2,hI⟩;exact⟨F2,Γ2,_,.int (lo+i),R2,by unfold Rep;rfl,turn i Γ2 hi hI,fun Γ3 F3 H3 σ3 R3 s3 p=>⟨F3,Γ3,_,R3,p,⟨fun Γ4 F4 H4 σ4 R4 s4 q=>⟨F4,Γ4,R4,s2.trans (s3.trans s4),q⟩,fun Γ4 F4 H4 σ4 R4 s4 q=>k.nx _ _ _ _ R4 (s2.trans (s3.trans s4)) q,
   fun Γ4 F4 H4 σ4 R4 s4 q=>⟨F4,Γ4,R4,s2.trans (s3.trans s4),q⟩,k.rt,k.rf,k.rT,k.rm⟩⟩⟩
 ·rintro σ H ⟨F2,Γ2,R2,s2,hI⟩;exact k.nx _ _ _ _ R2 s2 (done _ hI)
def jU(t:bA)(g:jT)(tb:au):au:=fun D0 Γ E=>t Γ (fun ds Γ1=>match ds with | [.int j]=>(-(2^62)<=j/\j<2^62)/\tE 0 j.toNat g tb D0 E Γ1 | _=>False) E
theorem zp(hc:X.calm=true)(Qm:Gl X "range")(hm:X.mg "range" =none)(ha:QA X F0 H0 [a] t)(hg:QG X F0 H0 tg g)(hb:qK X F0 H0 body tb)
  (hst:starEach [a] X.env= [(false,eval a X.env)]:=by rfl) (hs:∀x,foldedSetIterable (.Call (.Name "range" p) [a] [] pc) X.env x=pure x:=by intro _;rfl):QS X F0 H0 (.For tg (.Call (.Name "range" p) [a] [] pc) body [] pos) (jU t g tb):=fun z E cx=>
 n6 (JW (X:=X.wsh z) cx.po hc (zuc Qm hm (ha z E cx) hst) (hg z E cx) (hb z E cx) hs) fun D σ H sV=>by obtain⟨F,Γ,D2,R,h,k⟩:=sV;exact⟨F,Γ,_,R,h,fun ds Γ1 F1 H1 vs R1 s1 r1 h1=>by
  split at h1
  ·rename_i j;unfold ak ak Rep at r1;obtain⟨v,_,rfl,rfl,rfl⟩:=r1;exact⟨j,rfl,h1.1.1,h1.1.2,Yh R1 h1.2 (k.mono s1)⟩
  ·exact False.elim h1⟩
def wL(t:bA)(g:jT)(tb:au):au:=fun D0 Γ E=>t Γ (fun ds Γ1=>match ds with | [.int i,.int j]=>(-(2^62)<=i/\i<2^62/\ -(2^62)<=j/\j<2^62)/\tE i (j - i).toNat g tb D0 E Γ1 | _=>False) E
theorem z3j(hc:X.calm=true)(Qm:Gl X "range")(hm:X.mg "range" =none)(ha:QA X F0 H0 [a,b] t)(hg:QG X F0 H0 tg g)(hb:qK X F0 H0 body tb)
  (hst:starEach [a,b] X.env= [(false,eval a X.env),(false,eval b X.env)]:=by rfl) (hst2:starEach [b] X.env= [(false,eval b X.env)]:=by rfl) (hs:∀x,foldedSetIterable (.Call (.Name "range" p) [a,b] [] pc) X.env x=pure x:=by intro _;rfl):QS X F0 H0 (.For tg (.Call (.Name "range" p) [a,b] [] pc) body [] pos) (wL t g tb):=fun z E cx=>
 n6 (JW (X:=X.wsh z) cx.po hc (zxf Qm hm (ha z E cx) hst hst2) (hg z E cx) (hb z E cx) hs) fun D σ H sW=>by obtain⟨F,Γ,D2,R,h,k⟩:=sW;exact⟨F,Γ,_,R,h,fun ds Γ1 F1 H1 vs R1 s1 r1 h1=>by
  split at h1
  ·rename_i i j;unfold ak ak ak Rep at r1;obtain⟨v,_,rfl,rfl,v2,_,rfl,rfl,rfl⟩:=r1;exact⟨i,j,rfl,h1.1,Yh R1 h1.2 (k.mono s1)⟩
  ·exact False.elim h1⟩
def Qn(lo st:Int)(n:Nat):It:=⟨fun i _=>i<n,fun i H x H' =>H' =H/\x= .int (lo+i*st),fun i _=>n<=i⟩
def Yi(ta:TA):TI:=fun σ H R=>ta σ H fun vs H1=>∃(i j k:Int) (n:Nat),vs= [.int i,.int j,.int k]/\k≠0/\k.natAbs<1073741824/\Builtin.Range.small i j k=true/\Builtin.Range.rangeSize i j k=(n:Int)/\R (Qn i k n) H1
def Qo(lo st:Int)(n:Nat)(g:jT)(tb:au)(D0:lB)(E:XW)(Γ:G2):Prop:=∃I:Nat ->G2 ->Prop,I 0 Γ/\
 (∀(i:Nat) Γ,i<n ->I i Γ ->g (.int (lo+i*st)) Γ (fun Γ' =>tb {D0 with nx:=I (i+1),ct:=I (i+1),bk:=D0.nx} Γ' E) E)/\∀Γ,I n Γ ->D0.nx Γ
def Yj(t:bA)(g:jT)(tb:au):au:=fun D0 Γ E=>t Γ (fun ds Γ1=>match ds with
 | [.int i,.int j,.int k]=>∃n:Nat,k≠0/\k.natAbs<1073741824/\Builtin.Range.small i j k=true/\Builtin.Range.rangeSize i j k=(n:Int)/\Qo i k n g tb D0 E Γ1
 | _=>False) E
end
abbrev cO:=List D ->(D ->Prop) ->(Value ->Prop) ->Prop
def j9(K:W.Frag)(sp:cO):Sp:=fun vs H Q E=>∃F ds P Ex,Same F H/\ak K F ds vs/\sp ds P Ex/\ (∀d v F' H',Gr F H F' H' ->Rep K F' d v ->P d ->Q v H')/\∀C H',Ex C ->Same H H' ->E C none H'
def aF(sp:cO)(t:bA):aK:=fun Γ P E=>t Γ (fun ds Γ1=>sp ds (fun d=>P d Γ1) fun C=>E Γ1 C) E
section
variable{X:Cx}{F0 H0:Hp}{e:Expr}{es:List Expr}{pos p:Pos}{x:Str}{f:Addr}{fd:FuncData}{ps:List Str}{k:Nat}{sp:cO}{t:bA}
theorem Qp(Fn:eY X.prog X.w X.K X.mg X.base (iw X.prog X.w) k f fd ps (j9 X.K sp))(hr:fB k X.A)(hb:Binds X.K fd ps [])(cx:Ctx (X.wsh z) F0 H0 E)
  (I:Inv (X.wsh z) pins σ H s) (R:SR X.K F0 H0 F H σ Γ) (r:Vals vs us) (rs:ak X.K F ds vs) (h:sp ds P fun C=>E Γ C) (hQ:∀d v F' H',Gr F H F' H' ->Rep X.K F' d v ->P d ->Q v H'):
  wpAny (model X.prog X.w) X.A (call (.ref f) us) (EP (X.wsh z) pins σ Q) z.xe s:=by
 have hs:j9 X.K sp vs H Q (fun C dx H' =>E Γ C/\dx=none/\Same H H'):=⟨F,ds,P,_,R.g,rs,h,hQ,fun C H' hE hS=>⟨hE,rfl,hS⟩⟩;have hl:(us++ []).length=ps.length:=by rw[List.append_nil,<- r.length];exact Fn.len _ _ _ _ hs
 have hbs:=hb s us I.kIn hl;rw[List.append_nil] at hbs;refine wpAny_call (codeAny_mono (Fn.run X.A X.stack s H ⟨us,[]⟩ us vs Q _ hr I.env0 hbs r hs) fun r s' hq=> ?_);cases r with
 | error e=>exact cx.px pins σ Γ F H s e s' I R hq
 | ok fl=>
  cases fl with
  | ret u=>exact I.after hq
  | next=>exact False.elim hq
  | brk=>exact False.elim hq
  | cont=>exact False.elim hq
theorem z3m(Fn:eY X.prog X.w X.K X.mg X.base (iw X.prog X.w) k f fd ps (j9 X.K sp))(hr:fB k X.A)(hg:Gl X x)(hm:X.mg x=some (.ref f))(hk:W.keepIn X.K (.ref f)=true)(hb:Binds X.K fd ps [])
  (ha:QA X F0 H0 (e::es) t) (hdb:(x==("__debug__" :Str))=false:=by decide) (he:starEach (e::es) X.env=(false,eval e X.env)::starEach es X.env:=by rfl) (hpl:(backTo pos (starEach es X.env)).any (·.1)=false:=by rfl):
  QE X F0 H0 (.Call (.Name x p) (e::es) [] pos) (aF sp t):=by
 rintro z E cx pins s σ H Q I ⟨F,Γ,P,R,h,kk⟩;refine wpAny_Call_Name_kw (Nj (X:=X.wsh z) I hg hm ?_ hdb);refine W.callWith_K (h₀:=X.base) I.ok.mod.Ec hk (bG (ha z E cx pos pins s σ H (fun vs H1=>∃F1 Γ1 ds,SR X.K F0 H0 F1 H1 σ Γ1/\Same F F1/\ak X.K F1 ds vs/\sp ds (fun d=>P d Γ1) fun C=>E Γ1 C) I ⟨F,Γ,_,R,h,fun ds Γ1 F1 H1 vs R1 s1 r1 h1=>⟨F1,Γ1,ds,R1,s1,r1,h1⟩⟩) fun us s1 tG=> ?_) he hpl;obtain⟨vs,H1,I1,r,F1,Γ1,ds,R1,sF,rs,q⟩:=tG;refine⟨I1.kIn,?_⟩;exact Qp Fn hr hb cx I1 R1 r rs q fun d v F' H' gr rv hp=>kk d Γ1 F' H' v (R1.grow gr) (sF.trans gr.f) rv hp
end
def aJ(n:Nat)(ds:List D):G2:=ds.map .pu++List.replicate (n - ds.length) .no
abbrev gH(N:List Str)(ds:List D):G2:=aJ N.length ds
theorem Yk{K:W.Frag}{F0 H:Hp}{N:List Str}{ds:List D}{vs:List V}(h:Same F0 H)(r:ak K F0 ds vs):SR K F0 H F0 H (L2.start N vs) (gH N ds):=by
 have hl:=iu r;refine⟨Gr.refl h,by simp [L2.start,gH,aJ,hl],fun i s e=> ?_,fun i j a e _=> ?_⟩
 ·unfold gH aJ at e;unfold L2.start;by_cases hi:i<ds.length
  ·rw[List.getElem?_append_left (by simpa using hi),List.getElem?_map] at e
   cases q:ds[i]? with
   | none=>rw[q] at e;cases e
   | some d=>
    rw[q] at e;cases e;obtain⟨v,e1,r1⟩:=oH r q;refine⟨some v,?_,v,rfl,r1⟩;rw[List.getElem?_append_left (by rw[List.length_map,<- hl];exact hi),List.getElem?_map,e1];rfl
  ·rw[List.getElem?_append_right (by simpa using hi),List.getElem?_replicate] at e
   split at e
   ·cases e;rename_i hlt;simp only [List.length_map] at hlt;refine⟨none,?_,trivial⟩;rw[List.getElem?_append_right (by rw[List.length_map,<- hl];omega),List.getElem?_replicate,if_pos (by rw[List.length_map,<- hl];exact hlt)]
   ·cases e
 ·exfalso
  obtain⟨s,o,e,_,hs⟩:=e;unfold gH aJ at e;by_cases hi:i<ds.length
  ·rw[List.getElem?_append_left (by simpa using hi),List.getElem?_map] at e
   cases q:ds[i]? with
   | none=>rw[q] at e;cases e
   | some d=>rw[q] at e;cases e;exact hs
  ·rw[List.getElem?_append_right (by simpa using hi),List.getElem?_replicate] at e
   split at e
   ·cases e;exact hs
   ·cases e
section
variable{P:Program}{w:World}{K:W.Frag}{mg:Str ->Option Value}{base:Heap}
theorem iW{x qual:Str}{st:Stmt}{f:Addr}{fd:FuncData}{N ps:List Str}{k:Nat}{sp:cO}(Fn:fP K x qual st f fd)(S:aD N ps (bV st))(len:∀ds Q E,sp ds Q E ->ds.length=ps.length)
  (hbody:∀(cdv:Value) (A:Around) (outer:List Env) (s:Shared) (H:Hp) (E:XK),fB k (A.deeper (envOfC qual (bV st) s.heap.objs.size f cdv)) ->∀F0:Hp,
   ∃t,qK (j7 (iw P w) P w K mg base N qual (bV st) f cdv A outer s H E) F0 H (sX st) t/\∀ds Q Ex,sp ds Q Ex ->t {nx:=fun _=>Q .non,rt:=Q} (gH N ds) fun _=>Ex):
  eY P w K mg base (iw P w) (k+1) f fd ps (j9 K sp):=by
 obtain⟨oc,od,kV,doc,pm,an,cdv,ct,osl,rfl,lk,hcd⟩:=Fn.ex;refine Xg lk hcd S (fun vs H Q E ⟨F,ds,P',Ex,_,rs,hs,_⟩=>by rw[<- iu rs];exact len _ _ _ hs) fun A outer s H vs Q E hr ⟨F0,ds,Pd,Ex,sF,rs,hsp,hQ,hE⟩=> ?_
 obtain⟨t,ht,hq⟩:=hbody cdv A outer s H E hr F0;have cx:Ctx ((j7 (iw P w) P w K mg base N qual (bV st) f cdv A outer s H E).wsh ⟨(j7 (iw P w) P w K mg base N qual (bV st) f cdv A outer s H E).xe,[]⟩) F0 H (fun _=>Ex):=by
  refine⟨fun pins σ Γ F H1 s1 e s' I R hx=> ?_,PassesOwn.leaving⟩;refine bG (X5 (E:=fun C dx H' =>E C dx H') I rfl rfl rfl (hx.imp fun C dx H' z=> ?_)) fun _ s'' z=>z;obtain⟨Γ',F',R',_,z1,rfl⟩:=z;exact hE C H' z1 R'.gr.h
 exact⟨_,ht _ _ cx,F0,gH N ds,{nx:=fun _=>Pd .non,rt:=Pd},Yk sF rs,hq ds Pd Ex hsp,⟨fun Γ F' H' σ R' _ q=>hQ _ _ _ _ R'.gr (by unfold Rep;rfl) q,fun _ _ _ _ _ _ q=>q,fun _ _ _ _ _ _ q=>q,fun d v F' H' gr rv q=>hQ d v F' H' gr rv q,fun _ _ _ _ _ _ q=>q.elim,fun _ _ _ _ _ _ _ _ _ q=>q.elim,fun _ _ _ _ _ _ _ _ q=>q.elim⟩⟩
end
def bN(i:Int):Nat:=Builtin.Int.intBits i
theorem z30(h:bN i+bN j<=100000000):IntMulOk i j:=by
 unfold bN at h;unfold IntMulOk;intro z;simp only [Bool.and_eq_true,decide_eq_true_eq] at z;have z2:=z.2;unfold Builtin.Int.intTooBig at z2;have hb:bitsLine=134217728:=by rfl
 rw[hb] at z2;have:=of_decide_eq_true z2;omega
theorem iD(h:i.natAbs<2^k):bN i<=k:=by
 unfold bN Builtin.Int.intBits;split
 ·exact Nat.zero_le _
 ·rename_i q;have n0:i.natAbs≠0:=fun z=>by
   have:i=0:=Int.natAbs_eq_zero.mp z;subst this;exact q rfl
  have:=(Nat.log2_lt n0).mpr h;omega
theorem zq(h:bN i<=k):i.natAbs<2^k:=by
 unfold bN Builtin.Int.intBits at h;split at h
 ·rename_i q;have:i=0:=by simpa using q
  subst this;exact Nat.two_pow_pos k
 ·rename_i q;have n0:i.natAbs≠0:=fun z=>by
   have:i=0:=Int.natAbs_eq_zero.mp z;subst this;exact q rfl
  exact(Nat.log2_lt n0).mp (by omega)
theorem Kd(i j:Int):bN (i*j)<=bN i+bN j:=by
 refine iD ?_;rw[Int.natAbs_mul,Nat.pow_add];exact Nat.mul_lt_mul'' (zq (zM _)) (zq (zM _))
theorem Yl(i j:Int):bN (i+j)<=max (bN i) (bN j)+1:=by
 refine iD ?_;have h1:i.natAbs<2^ (max (bN i) (bN j)):=zq (Nat.le_max_left _ _);have h2:j.natAbs<2^ (max (bN i) (bN j)):=zq (Nat.le_max_right _ _);have h3:=Int.natAbs_add_le i j;rw[Nat.pow_succ];omega
theorem z2y(i:Int):bN (-i)=bN i:=by unfold bN Builtin.Int.intBits;simp
theorem zs8(i j:Int):bN (i - j)<=max (bN i) (bN j)+1:=by
 have h:=Yl i (-j);rw[z2y,<- Int.sub_eq_add_neg] at h;exact h
theorem sO(h:i.natAbs<=j.natAbs):bN i<=bN j:=iD (zK h (zq (zM _)))
section
variable{X:Cx}
theorem Ke{f:Value ->Value ->Sem Value}{C:Int ->Int ->Prop}{v:Int ->Int ->V}{d:Int ->Int ->D}{g:D ->D ->(D ->Prop) ->Prop}(ho:iH X f (rI C v))(hg:∀x y P,g x y P ->∃i j,x= .int i/\y= .int j/\C i j/\P (d i j))(hd:∀i j F,Rep X.K F (d i j) (v i j)):iH X f (n8 X.K g):=by
 rintro pins s σ H x y u w Q I rx ry ⟨F,d1,d2,P,sF,r1,r2,h,k⟩;obtain⟨i,j,rfl,rfl,hc,hp⟩:=hg _ _ _ h;unfold Rep at r1 r2;subst r1 r2;exact ho pins s σ H _ _ u w Q I rx ry ⟨i,j,rfl,rfl,hc,k _ _ F H (Gr.refl sF) (hd i j F) hp⟩
theorem Qq{f:Value ->Value ->Sem Value}{v:Int ->Int ->V}{d:Int ->Int ->D}{g:D ->D ->(D ->Prop) ->Prop}(ho:iH X f (yF v))(hg:∀x y P,g x y P ->∃i j,x= .int i/\y= .int j/\P (d i j))(hd:∀i j F,Rep X.K F (d i j) (v i j)):iH X f (n8 X.K g):=by
 rintro pins s σ H x y u w Q I rx ry ⟨F,d1,d2,P,sF,r1,r2,h,k⟩;obtain⟨i,j,rfl,rfl,hp⟩:=hg _ _ _ h;unfold Rep at r1 r2;subst r1 r2;exact ho pins s σ H _ _ u w Q I rx ry ⟨i,j,rfl,rfl,k _ _ F H (Gr.refl sF) (hd i j F) hp⟩
def wI(C:Int ->Int ->Prop)(d:Int ->Int ->D):D ->D ->(D ->Prop) ->Prop:=fun x y P=>match x,y with
 | .int i,.int j=>C i j/\P (d i j)
 | _,_=>False
theorem Kf(h:wI C d x y P):∃i j,x= .int i/\y= .int j/\C i j/\P (d i j):=by
 unfold wI at h;split at h
 ·exact⟨_,_,rfl,rfl,h⟩
 ·exact h.elim
def wM(d:Int ->Int ->D):D ->D ->(D ->Prop) ->Prop:=fun x y P=>match x,y with
 | .int i,.int j=>P (d i j)
 | _,_=>False
theorem Qs(h:wM d x y P):∃i j,x= .int i/\y= .int j/\P (d i j):=by
 unfold wM at h;split at h
 ·exact⟨_,_,rfl,rfl,h⟩
 ·exact h.elim
def dI:D ->D ->(D ->Prop) ->Prop:=fun x y P=>match x,y with
 | .int i,.int j=>P (.int (i+j))
 | .str i,.str j=>i.length+j.length<=sizeLine/\P (.str (i++j))
 | _,_=>False
theorem kO:iH X (binaryOp .Add) (n8 X.K dI):=by
 rintro pins s σ H x y u w Q I rx ry ⟨F,d1,d2,P,sF,r1,r2,h,k⟩;unfold dI at h;split at h
 ·unfold Rep at r1 r2;subst r1 r2;exact z4a pins s σ H _ _ u w Q I rx ry ⟨_,_,rfl,rfl,k _ _ F H (Gr.refl sF) (by unfold Rep;rfl) h⟩
 ·unfold Rep at r1 r2;subst r1 r2;exact ztv pins s σ H _ _ u w Q I rx ry ⟨_,_,rfl,rfl,h.1,k _ _ F H (Gr.refl sF) (by unfold Rep;rfl) h.2⟩
 ·exact h.elim
def kZ:D ->D ->(D ->Prop) ->Prop:=wM fun i j=> .int (i - j)
theorem zu:iH X (binaryOp .Sub) (n8 X.K kZ):=Qq z5s (fun _ _ _ h=>Qs h) fun _ _ _=>by unfold Rep;rfl
def lE(i j:Int):Prop:=bN i<=64\/bN j<=64\/bN i+bN j<=100000000
theorem lE.ok(h:lE i j):IntMulOk i j:=by
 rcases h with h | h | h
 ·exact .of_left h
 ·exact .of_right h
 ·exact z30 h
def cM:D ->D ->(D ->Prop) ->Prop:=wI lE fun i j=> .int (i*j)
theorem iY:iH X (binaryOp .Mult) (n8 X.K cM):=Ke (C:=lE) (v:=fun i j=> .int (i*j)) (JZ fun i j _ _ _ _ _ hc q=>mul_int q hc.ok) (fun _ _ _ h=>Kf h) fun _ _ _=>by unfold Rep;rfl
def fD:D ->D ->(D ->Prop) ->Prop:=wI (fun _ j=>j≠0/\bN j<=9000) fun i j=> .int (i.fdiv j)
theorem mU:iH X (binaryOp .FloorDiv) (n8 X.K fD):=Ke (C:=fun _ j=>j≠0/\bN j<=9000) (v:=fun i j=> .int (i.fdiv j)) (JZ fun i j _ _ _ _ _ hc q=>floordiv_int hc.1 q (.inl (PyProof.noPylong_of_log2 (by
 have:=zq hc.2;exact(Nat.log2_lt (fun z=>hc.1 (Int.natAbs_eq_zero.mp z))).mpr this)))) (fun _ _ _ h=>Kf h) fun _ _ _=>by unfold Rep;rfl
def cj:D ->D ->(D ->Prop) ->Prop:=wI (fun _ j=>j≠0) fun i j=> .int (i.fmod j)
theorem gJ:iH X (binaryOp .Mod) (n8 X.K cj):=Ke (C:=fun _ j=>j≠0) z2x (fun _ _ _ h=>Kf h) fun _ _ _=>by unfold Rep;rfl
def zx:D ->D ->(D ->Prop) ->Prop:=wI yH fun i j=> .int (i^j.toNat)
theorem z68:iH X (binaryOp .Pow) (n8 X.K zx):=Ke z54 (fun _ _ _ h=>Kf h) fun _ _ _=>by unfold Rep;rfl
def Gq:D ->D ->(D ->Prop) ->Prop:=wM fun i j=> .bl (decide (i<j))
theorem zy:iH X (compareOp .Lt) (n8 X.K Gq):=Qq z64 (fun _ _ _ h=>Qs h) fun _ _ _=>by unfold Rep;rfl
def gLe:D ->D ->(D ->Prop) ->Prop:=wM fun i j=> .bl (decide (i<=j))
def Cj:D ->D ->(D ->Prop) ->Prop:=wM fun i j=> .bl (decide (j<i))
theorem vP:iH X (compareOp .Gt) (n8 X.K Cj):=Qq z67 (fun _ _ _ h=>Qs h) fun _ _ _=>by unfold Rep;rfl
def gGe:D ->D ->(D ->Prop) ->Prop:=wM fun i j=> .bl (decide (j<=i))
def tH:D ->Bool | .non=>true | _=>false
def gIs:D ->D ->(D ->Prop) ->Prop:=fun x y P=>match y with | .non=>P (.bl (tH x)) | .bl d=>(match x with | .bl c=>P (.bl (c==d)) | _=>False) | _=>False
def Qt:D ->D ->(D ->Prop) ->Prop:=fun x y P=>match y with | .non=>P (.bl (!tH x)) | .bl d=>(match x with | .bl c=>P (.bl (c !=d)) | _=>False) | _=>False
mutual
def dY:D ->D ->Bool
 | .non,.non=>true
 | .bl a,.bl b=>a==b
 | .int a,.int b=>a==b
 | .str a,.str b=>a==b
 | .tup xs,.tup ys=>dG xs ys
 | .lst xs,.lst ys=>dG xs ys
 | .exc a,.exc b=>a==b
 | .ptr a,.ptr b=>a==b
 | .obj C fs xs,.obj C' fs' ys=>decide (C=C')&&decide (fs=fs')&&dG xs ys
 | .dic ks xs,.dic ks' ys=>decide (ks=ks')&&dG xs ys
 | .iC ks xs,.iC ks' ys=>decide (ks=ks')&&dG xs ys
 | .nq ks xs,.nq ks' ys=>decide (ks=ks')&&dG xs ys
 | _,_=>false
def dG:List D ->List D ->Bool
 | [],[]=>true
 | x::xs,y::ys=>dY x y&&dG xs ys
 | _,_=>false
end
@[simp] def kd:D ->Nat
 | .non=>0
 | .bl _=>1
 | .int _=>2
 | .str _=>3
 | .tup _=>4
 | .lst _=>5
 | _=>6
@[simp] def qL (d d' :D):Bool:=kd d<6&&kd d' <6&&(kd d !=kd d' || kd d<4)&&(kd d !=1 || kd d' !=2)&&(kd d !=2 || kd d' !=1)
def jz:Nat ->D ->D ->Prop
 | n+1,.tup xs,.tup ys=>∀(i:Nat) x y,xs[i]?=some x ->ys[i]?=some y ->jz n x y
 | n+1,.lst xs,.lst ys=>∀(i:Nat) x y,xs[i]?=some x ->ys[i]?=some y ->jz n x y
 | _,d,d' =>qL d d' =true
end
mutual
theorem Ck:∀d:D,dY d d=true
 | .non=>by simp [dY]
 | .bl _=>by simp [dY]
 | .int _=>by simp [dY]
 | .str _=>by simp [dY]
 | .tup xs=>by unfold dY;exact Aa xs
 | .lst xs=>by unfold dY;exact Aa xs
 | .exc _=>by simp [dY]
 | .ptr _=>by simp [dY]
 | .obj _ _ xs=>by unfold dY;rw[Aa xs];simp
 | .dic _ xs=>by unfold dY;rw[Aa xs];simp
 | .iC _ xs=>by unfold dY;rw[Aa xs];simp
 | .nq _ xs=>by unfold dY;rw[Aa xs];simp
theorem Aa:∀ds:List D,dG ds ds=true
 | []=>by simp [dG]
 | d::ds=>by unfold dG;rw[Ck d,Aa ds];rfl
end
open Classical in
theorem Qu:∀{xs ys:List D},xs.length=ys.length ->(∀e:Nat ->Bool,(∀(i:Nat) x y,xs[i]?=some x ->ys[i]?=some y ->e i=dY x y) ->(List.range xs.length).all e=dG xs ys)
 | [],[],_,_,_=>by simp [dG]
 | x::xs,y::ys,hl,e,he=>by
  have ih:=Qu (xs:=xs) (ys:=ys) (by simpa using hl) (fun i=>e (i+1)) fun i a b h1 h2=>he (i+1) a b (by simpa using h1) (by simpa using h2)
  rw[List.length_cons,List.range_succ_eq_map,List.all_cons,List.all_map];unfold dG;rw[he 0 x y rfl rfl]
  congr 1
theorem Qw:∀{xs ys:List D},xs.length≠ys.length ->dG xs ys=false
 | [],[],h=>absurd rfl h
 | [],_::_,_=>by simp [dG]
 | _::_,[],_=>by simp [dG]
 | x::xs,y::ys,h=>by
  unfold dG;rw[Qw (fun z=>h (by simp [z])),Bool.and_false]
end L3
namespace L3
open PySem PySem.Spec PyProof.Rows L2
theorem Ym:∀{xs ys:List D},xs.length=ys.length ->(∀(i:Nat) x y,xs[i]?=some x ->ys[i]?=some y ->dY x y=true) ->dG xs ys=true
 | [],[],_,_=>by simp [dG]
 | x::xs,y::ys,hl,h=>by
  unfold dG;rw[h 0 x y rfl rfl,Ym (by simpa using hl) fun i a b h1 h2=>h (i+1) a b (by simpa using h1) (by simpa using h2)]
  rfl
section
variable{X:Cx}{pins:bD}{σ:St}{F H:Hp}{s:Shared}
theorem Yn(I:Inv X pins σ H s){a:Addr}{xs ys:List V}(h:fZ X.K H a xs)(h' :je X.K H a ys):False:=by
 obtain⟨its,_,⟨o,n,e,c,_,_⟩,_⟩:=I.list h;obtain⟨its',_,⟨o',e',c',_⟩,_⟩:=I.tuple h';rw[e] at e';cases e';rw[c] at c';injection c' with c';exact absurd c' (by decide)
theorem Kg{n:Nat}{d d' :D}(hc:jz n d d'):qL d d' =true\/ (∃m xs ys,n=m+1/\d= .tup xs/\d' = .tup ys/\∀(i:Nat) x y,xs[i]?=some x ->ys[i]?=some y ->jz m x y)\/
  ∃m xs ys,n=m+1/\d= .lst xs/\d' = .lst ys/\∀(i:Nat) x y,xs[i]?=some x ->ys[i]?=some y ->jz m x y:=by
 unfold jz at hc;split at hc
 ·exact .inr (.inl ⟨_,_,_,rfl,rfl,rfl,hc⟩)
 ·exact .inr (.inr ⟨_,_,_,rfl,rfl,rfl,hc⟩)
 ·exact .inl hc
theorem Yo(I:Inv X pins σ H s)(sF:Same F H):∀(n:Nat) (d d' :D) (v:V),jz n d d' ->Rep X.K F d v ->Rep X.K F d' v ->dY d d' =true:=by
 have flat:∀(d d' :D) (v:V),qL d d' =true ->Rep X.K F d v ->Rep X.K F d' v ->dY d d' =true:=by
  intro d d' v hf r r';cases d with
  | non=>simp only [Rep] at r;subst r;cases d' <;>simp only [Rep] at r' <;>first | rfl | (cases hf;done) | (cases r';done) | (obtain⟨_,_,z,_⟩:=r';cases z)
  | bl=>simp only [Rep] at r;subst r;cases d' <;>simp only [Rep] at r' <;>first | (cases hf;done) | (cases r';done) | (cases r';exact Ck _) | (obtain⟨_,_,z,_⟩:=r';cases z)
  | int=>simp only [Rep] at r;subst r;cases d' <;>simp only [Rep] at r' <;>first | (cases hf;done) | (cases r';done) | (cases r';exact Ck _) | (obtain⟨_,_,z,_⟩:=r';cases z)
  | str=>simp only [Rep] at r;subst r;cases d' <;>simp only [Rep] at r' <;>first | (cases hf;done) | (cases r';done) | (cases r';exact Ck _) | (obtain⟨_,_,z,_⟩:=r';cases z)
  | tup=>simp only [Rep] at r;obtain⟨a,vs,rfl,h1,_⟩:=r;cases d' <;>simp only [Rep] at r' <;>first | (cases hf;done) | (cases r';done) | (obtain⟨_,_,z,h2,_⟩:=r';cases z;exact(Yn I (sF.seq h2) (lA sF h1)).elim)
  | lst=>simp only [Rep] at r;obtain⟨a,vs,rfl,h1,_⟩:=r;cases d' <;>simp only [Rep] at r' <;>first | (cases hf;done) | (cases r';done) | (obtain⟨_,_,z,h2,_⟩:=r';cases z;exact(Yn I (sF.seq h1) (lA sF h2)).elim)
  | _=>cases hf
 intro n;induction n with
 | zero=>
  intro d d' v hc r r';rcases Kg hc with h | ⟨_,_,_,h,_⟩ | ⟨_,_,_,h,_⟩
  ·exact flat d d' v h r r'
  ·cases h
  ·cases h
 | succ n ih=>
  intro d d' v hc r r';have go:∀{xs ys:List D} {vs us:List V},vs=us ->ak X.K F xs vs ->ak X.K F ys us ->(∀(i:Nat) x y,xs[i]?=some x ->ys[i]?=some y ->jz n x y) ->dG xs ys=true:=by
   intro xs ys vs us e r1 r2 hc;subst e;refine Ym (by rw[iu r1,iu r2]) fun i x y h1 h2=> ?_
   obtain⟨v1,e1,q1⟩:=oH r1 h1;obtain⟨v2,e2,q2⟩:=oH r2 h2;rw[e1] at e2;cases e2;exact ih x y v1 (hc i x y h1 h2) q1 q2
  rcases Kg hc with h | ⟨_,xs,ys,h,rfl,rfl,hc⟩ | ⟨_,xs,ys,h,rfl,rfl,hc⟩
  ·exact flat d d' v h r r'
  ·cases h;simp only [Rep] at r r';obtain⟨a,vs,rfl,h1,q1⟩:=r;obtain⟨b,us,z,h2,q2⟩:=r';cases z;unfold dY;exact go (I.tuple_inj (lA sF h1) (lA sF h2)) q1 q2 hc
  ·cases h;simp only [Rep] at r r';obtain⟨a,vs,rfl,h1,q1⟩:=r;obtain⟨b,us,z,h2,q2⟩:=r';cases z;unfold dY;exact go (I.list_inj (sF.seq h1) (sF.seq h2)) q1 q2 hc
structure Yp (A:Around) (s:Shared) (v u:Value) (b:Bool):Prop where
 eq:SeqAt.EqAt A s v u b
 rc:SeqAt.RcAt A s v u b
 ne:SeqAt.RcNeAt A s v u (!b)
theorem zv4{n m:Nat}(e:Nat ->Bool)(h:n=m):((List.range (min n m)).all e&&n==m)=(List.range n).all e:=by
 subst h;simp
def Kn(s:Shared):D ->Value ->Prop
 | .non,v=>v= .none
 | .bl b,v=>v= .bool b
 | .int i,v=>∃t,v= .int i t
 | .str x,v=>∃t,v= .str x t
 | .tup _,v=>∃l,v= .ref l/\∃is,IsTup s.heap l is
 | .lst _,v=>∃l,v= .ref l/\∃is,s.heap.IsList l is
 | _,_=>True
theorem kn(I:Inv X pins σ H s)(sF:Same F H){d:D}{x:V}{v:Value}(r:Rep X.K F d x)(rv:RelV x v):Kn s d v:=by
 cases d<;>simp only [Rep] at r<;>unfold Kn<;>try trivial
 case non=>subst r;cases rv;rfl
 case bl=>subst r;cases rv;rfl
 case int=>subst r;obtain⟨t,rfl⟩:=rv;exact⟨t,rfl⟩
 case str=>subst r;obtain⟨t,rfl⟩:=rv;exact⟨t,rfl⟩
 case tup=>
  obtain⟨l,vs,rfl,h,_⟩:=r;cases rv;obtain⟨is,_,k,_⟩:=I.tuple (lA sF h);exact⟨l,rfl,_,k⟩
 case lst=>
  obtain⟨l,vs,rfl,h,_⟩:=r;cases rv;obtain⟨is,_,k,_⟩:=I.list (sF.seq h);exact⟨l,rfl,_,k.isList⟩
theorem Yq{A:Around}{d d' :D}{v u:Value}(hu0:A.units<cLine)(hf:qL d d' =true)(a:Kn s d v)(b:Kn s d' u):Yp A s v u (dY d d'):=by
 cases d with
 | non=>
  obtain rfl:=a;cases d' with
  | non=>obtain rfl:=b;exact⟨.same _,.none_none,.none_none⟩
  | bl _=>obtain rfl:=b;exact⟨.none_bool _,.none_bool _,.none_bool _⟩
  | int _=>obtain⟨_,rfl⟩:=b;exact⟨.none_int _ _,.none_int _ _,.none_int _ _⟩
  | str _=>obtain⟨_,rfl⟩:=b;exact⟨.none_str _ _,.none_str _ _,.none_str _ _⟩
  | tup _=>obtain⟨_,rfl,_,k2⟩:=b;exact⟨.none_tuple k2 hu0,.none_tuple k2 hu0,.none_tuple k2 hu0⟩
  | lst _=>obtain⟨_,rfl,_,k2⟩:=b;exact⟨.none_list k2 hu0,.none_list k2 hu0,.none_list k2 hu0⟩
  | _=>cases hf
 | bl _=>
  obtain rfl:=a;cases d' with
  | non=>obtain rfl:=b;exact⟨.bool_none _,.bool_none _,.bool_none _⟩
  | bl _=>obtain rfl:=b;exact⟨.bool_bool _ _,.bool_bool _ _,.bool_bool _ _⟩
  | str _=>obtain⟨_,rfl⟩:=b;exact⟨.bool_str _ _ _,.bool_str _ _ _,.bool_str _ _ _⟩
  | tup _=>obtain⟨_,rfl,_,k2⟩:=b;exact⟨.bool_tuple _ k2 hu0,.bool_tuple _ k2 hu0,.bool_tuple _ k2 hu0⟩
  | lst _=>obtain⟨_,rfl,_,k2⟩:=b;exact⟨.bool_list _ k2 hu0,.bool_list _ k2 hu0,.bool_list _ k2 hu0⟩
  | _=>cases hf
 | int _=>
  obtain⟨_,rfl⟩:=a;cases d' with
  | non=>obtain rfl:=b;exact⟨.int_none _ _,.int_none _ _,.int_none _ _⟩
  | int _=>obtain⟨_,rfl⟩:=b;exact⟨.int_int _ _ _ _,.int_int _ _ _ _,.int_int _ _ _ _⟩
  | str _=>obtain⟨_,rfl⟩:=b;exact⟨.int_str _ _ _ _,.int_str _ _ _ _,.int_str _ _ _ _⟩
  | tup _=>obtain⟨_,rfl,_,k2⟩:=b;exact⟨.int_tuple _ _ k2 hu0,.int_tuple _ _ k2 hu0,.int_tuple _ _ k2 hu0⟩
  | lst _=>obtain⟨_,rfl,_,k2⟩:=b;exact⟨.int_list _ _ k2 hu0,.int_list _ _ k2 hu0,.int_list _ _ k2 hu0⟩
  | _=>cases hf
 | str _=>
  obtain⟨_,rfl⟩:=a;cases d' with
  | non=>obtain rfl:=b;exact⟨.str_none _ _,.str_none _ _,.str_none _ _⟩
  | bl _=>obtain rfl:=b;exact⟨.str_bool _ _ _,.str_bool _ _ _,.str_bool _ _ _⟩
  | int _=>obtain⟨_,rfl⟩:=b;exact⟨.str_int _ _ _ _,.str_int _ _ _ _,.str_int _ _ _ _⟩
  | str _=>obtain⟨_,rfl⟩:=b;exact⟨.str_str _ _ _ _,.str_str _ _ _ _,.str_str _ _ _ _⟩
  | tup _=>obtain⟨_,rfl,_,k2⟩:=b;exact⟨.str_tuple _ _ k2 hu0,.str_tuple _ _ k2 hu0,.str_tuple _ _ k2 hu0⟩
  | lst _=>obtain⟨_,rfl,_,k2⟩:=b;exact⟨.str_list _ _ k2 hu0,.str_list _ _ k2 hu0,.str_list _ _ k2 hu0⟩
  | _=>cases hf
 | tup _=>
  obtain⟨_,rfl,_,k1⟩:=a;cases d' with
  | non=>obtain rfl:=b;exact⟨.tuple_none k1 hu0,.tuple_none k1 hu0,.tuple_none k1 hu0⟩
  | bl _=>obtain rfl:=b;exact⟨.tuple_bool _ k1 hu0,.tuple_bool _ k1 hu0,.tuple_bool _ k1 hu0⟩
  | int _=>obtain⟨_,rfl⟩:=b;exact⟨.tuple_int _ _ k1 hu0,.tuple_int _ _ k1 hu0,.tuple_int _ _ k1 hu0⟩
  | str _=>obtain⟨_,rfl⟩:=b;exact⟨.tuple_str _ _ k1 hu0,.tuple_str _ _ k1 hu0,.tuple_str _ _ k1 hu0⟩
  | lst _=>obtain⟨_,rfl,_,k2⟩:=b;exact⟨.tuple_list k1 k2 hu0,.tuple_list k1 k2 hu0,.tuple_list k1 k2 hu0⟩
  | _=>cases hf
 | lst _=>
  obtain⟨_,rfl,_,k1⟩:=a;cases d' with
  | non=>obtain rfl:=b;exact⟨.list_none k1 hu0,.list_none k1 hu0,.list_none k1 hu0⟩
  | bl _=>obtain rfl:=b;exact⟨.list_bool _ k1 hu0,.list_bool _ k1 hu0,.list_bool _ k1 hu0⟩
  | int _=>obtain⟨_,rfl⟩:=b;exact⟨.list_int _ _ k1 hu0,.list_int _ _ k1 hu0,.list_int _ _ k1 hu0⟩
  | str _=>obtain⟨_,rfl⟩:=b;exact⟨.list_str _ _ k1 hu0,.list_str _ _ k1 hu0,.list_str _ _ k1 hu0⟩
  | tup _=>obtain⟨_,rfl,_,k2⟩:=b;exact⟨.list_tuple k1 k2 hu0,.list_tuple k1 k2 hu0,.list_tuple k1 k2 hu0⟩
  | _=>cases hf
 | _=>cases hf
theorem Gs(I:Inv X pins σ H s)(sF:Same F H):∀(n:Nat) (A:Around) (d d' :D) (x y:V) (v u:Value),A.units+n+1<cLine ->jz n d d' ->Rep X.K F d x ->Rep X.K F d' y ->RelV x v ->RelV y u ->Yp A s v u (dY d d'):=by
 intro n;induction n with
 | zero=>
  intro A d d' x y v u hu hc r r' rv ru;rcases Kg hc with h | ⟨_,_,_,h,_⟩ | ⟨_,_,_,h,_⟩
  ·exact Yq (by omega) h (kn I sF r rv) (kn I sF r' ru)
  ·cases h
  ·cases h
 | succ n ih=>
  intro A d d' x y v u hu hc0 r r' rv ru;have hu0:A.units<cLine:=by omega
  rcases Kg hc0 with h | ⟨_,xs,ys,h,rfl,rfl,hc⟩ | ⟨_,xs,ys,h,rfl,rfl,hc⟩
  ·exact Yq hu0 h (kn I sF r rv) (kn I sF r' ru)
  ·cases h;simp only [Rep] at r r';obtain⟨l1,vs,rfl,h1,q1⟩:=r;obtain⟨l2,us,rfl,h2,q2⟩:=r';cases rv;cases ru;obtain⟨is1,p1,k1,_⟩:=I.tuple (lA sF h1);obtain⟨is2,p2,k2,_⟩:=I.tuple (lA sF h2);have el1:is1.length=xs.length:=by rw[<- p1.length,iu q1]
   have el2:is2.length=ys.length:=by rw[<- p2.length,iu q2]
   have at_:∀j (g1:j<is1.toArray.size) (g2:j<is2.toArray.size),SeqAt.EqAt A.in1 s is1.toArray[j] is2.toArray[j] ((fun j=>match xs[j]?,ys[j]? with | some a,some b=>dY a b | _,_=>false) j):=by
    intro j g1 g2;have Qx :j<xs.length:=by simpa [el1] using g1
    have Qy :j<ys.length:=by simpa [el2] using g2
    have e1:xs[j]?=some xs[j]:=by simp [Qx]
    have e2:ys[j]?=some ys[j]:=by simp [Qy]
    obtain⟨w1,f1,m1⟩:=oH q1 e1;obtain⟨w2,f2,m2⟩:=oH q2 e2;obtain⟨z1,c1,b1⟩:=p1.get f1;obtain⟨z2,c2,b2⟩:=p2.get f2;have y1:is1.toArray[j]=z1:=by simpa [List.getElem?_eq_some_iff] using (zU.mp c1).2
    have y2:is2.toArray[j]=z2:=by simpa [List.getElem?_eq_some_iff] using (zU.mp c2).2
    simp only [e1,e2];rw[y1,y2];exact(ih A.in1 _ _ w1 w2 z1 z2 (by show A.units+1+n+1<cLine;omega) (hc j _ _ e1 e2) m1 m2 b1 b2).eq
   unfold dY;have same:l1=l2 ->dG xs ys=true:=fun e=>by
    have z:=Yo I sF (n+1) (.tup xs) (.tup ys) (.ref l1) (by simp only [jz];exact hc) (by simp only [Rep];exact⟨l1,vs,rfl,h1,q1⟩) (by simp only [Rep];exact⟨l2,us,by rw[e],h2,q2⟩)
    unfold dY at z;exact z
   have ev:((List.range (min is1.toArray.size is2.toArray.size)).all (fun j=>match xs[j]?,ys[j]? with | some a,some b=>dY a b | _,_=>false)&&is1.toArray.size==is2.toArray.size)=dG xs ys:=by
    have s1:is1.toArray.size=xs.length:=by simp [el1]
    have s2:is2.toArray.size=ys.length:=by simp [el2]
    rw[s1,s2];by_cases hl:xs.length=ys.length
    ·rw[zv4 _ hl];exact Qu hl _ fun i a b z1 z2=>by simp only [z1,z2]
    ·rw[Qw hl,beq_false_of_ne hl,Bool.and_false]
   have rc:=SeqAt.RcAt.tuples k1 k2 hu0 at_;have rn:=SeqAt.RcNeAt.tuples k1 k2 hu0 at_;rw[ev] at rc rn;refine⟨?_,rc,rn⟩;by_cases e:l1=l2
   ·rw[same e];subst e;exact SeqAt.EqAt.same _
   ·exact SeqAt.EqAt.of_refs e rc
  ·cases h;simp only [Rep] at r r';obtain⟨l1,vs,rfl,h1,q1⟩:=r;obtain⟨l2,us,rfl,h2,q2⟩:=r';cases rv;cases ru;obtain⟨is1,p1,k1',_⟩:=I.list (sF.seq h1);obtain⟨is2,p2,k2',_⟩:=I.list (sF.seq h2);have k1:=k1'.isList;have k2:=k2'.isList;have el1:is1.length=xs.length:=by rw[<- p1.length,iu q1]
   have el2:is2.length=ys.length:=by rw[<- p2.length,iu q2]
   have at_:∀j (g1:j<is1.toArray.size) (g2:j<is2.toArray.size),SeqAt.EqAt A.in1 s is1.toArray[j] is2.toArray[j] ((fun j=>match xs[j]?,ys[j]? with | some a,some b=>dY a b | _,_=>false) j):=by
    intro j g1 g2;have Qx :j<xs.length:=by simpa [el1] using g1
    have Qy :j<ys.length:=by simpa [el2] using g2
    have e1:xs[j]?=some xs[j]:=by simp [Qx]
    have e2:ys[j]?=some ys[j]:=by simp [Qy]
    obtain⟨w1,f1,m1⟩:=oH q1 e1;obtain⟨w2,f2,m2⟩:=oH q2 e2;obtain⟨z1,c1,b1⟩:=p1.get f1;obtain⟨z2,c2,b2⟩:=p2.get f2;have y1:is1.toArray[j]=z1:=by simpa [List.getElem?_eq_some_iff] using (zU.mp c1).2
    have y2:is2.toArray[j]=z2:=by simpa [List.getElem?_eq_some_iff] using (zU.mp c2).2
    simp only [e1,e2];rw[y1,y2];exact(ih A.in1 _ _ w1 w2 z1 z2 (by show A.units+1+n+1<cLine;omega) (hc j _ _ e1 e2) m1 m2 b1 b2).eq
   unfold dY;have same:l1=l2 ->dG xs ys=true:=fun e=>by
    have z:=Yo I sF (n+1) (.lst xs) (.lst ys) (.ref l1) (by simp only [jz];exact hc) (by simp only [Rep];exact⟨l1,vs,rfl,h1,q1⟩) (by simp only [Rep];exact⟨l2,us,by rw[e],h2,q2⟩)
    unfold dY at z;exact z
   have rcn:SeqAt.RcAt A s (.ref l1) (.ref l2) (dG xs ys)/\SeqAt.RcNeAt A s (.ref l1) (.ref l2) (!dG xs ys):=by
    by_cases hl:xs.length=ys.length
    ·have ev:(List.range is1.toArray.size).all (fun j=>match xs[j]?,ys[j]? with | some a,some b=>dY a b | _,_=>false)=dG xs ys:=by
      have s1:is1.toArray.size=xs.length:=by simp [el1]
      rw[s1];exact Qu hl _ fun i a b z1 z2=>by simp only [z1,z2]
     have hz:is1.toArray.size=is2.toArray.size:=by simp [el1,el2,hl]
     have rc:=SeqAt.RcAt.lists k1 k2 hz hu0 at_;have rn:=SeqAt.RcNeAt.lists k1 k2 hz hu0 at_;rw[ev] at rc rn;exact⟨rc,rn⟩
    ·have hz:(is1.toArray.size !=is2.toArray.size)=true:=by simp [el1,el2,hl]
     rw[Qw hl];exact⟨SeqAt.RcAt.lists_lengths k1 k2 hz hu0,SeqAt.RcNeAt.lists_lengths k1 k2 hz hu0⟩
   obtain⟨rc,rn⟩:=rcn;refine⟨?_,rc,rn⟩;by_cases e:l1=l2
   ·rw[same e];subst e;exact SeqAt.EqAt.same _
   ·exact SeqAt.EqAt.of_refs e rc
def nu:D ->D ->(D ->Prop) ->Prop:=fun x y P=>jz 20 x y/\P (.bl (dY x y))
def qM:D ->D ->(D ->Prop) ->Prop:=fun x y P=>jz 20 x y/\P (.bl (!dY x y))
theorem gK(hu:X.A.units+21<cLine):iH X (compareOp .Eq) (n8 X.K nu):=by
 rintro pins s σ H x y u w Q I rx ry ⟨F,d1,d2,P,sF,r1,r2,h,k⟩;exact(Gs I sF 20 X.A d1 d2 x y u w hu h.1 r1 r2 rx ry).rc _ _ _ _ ⟨.bl _,H,I,rfl,k _ _ F H (Gr.refl sF) (by unfold Rep;rfl) h.2⟩
theorem kh(hu:X.A.units+21<cLine):iH X (compareOp .NotEq) (n8 X.K qM):=by
 rintro pins s σ H x y u w Q I rx ry ⟨F,d1,d2,P,sF,r1,r2,h,k⟩;exact(Gs I sF 20 X.A d1 d2 x y u w hu h.1 r1 r2 rx ry).ne _ _ _ _ ⟨.bl _,H,I,rfl,k _ _ F H (Gr.refl sF) (by unfold Rep;rfl) h.2⟩
end
def nA(K:W.Frag)(C D:Addr):Bool:=match K.lookup C with
 | some ⟨_,_,.cls cd,_⟩=>cd.mro.contains (.ref D)
 | _=>false
section
variable{M:Model}{A:Around}{E:bL}{h:Heap}{g:Array GenState}{d:Drawn}{t:Nat}{os:OsState}
 {nm q nm' q' :Str} {C N C' N' :Addr} {bs bm bs' bm' :List Value} {hdct Yr :Bool} {sn sn' :List Str} {sub sub' :List Value} {ab ab' :Bool} {col col' :Option Bool} {dd Ft :Option Addr} {k0 k1 k2 k3 k5 j0 j1 j2 j3 j5:Option Value} {newId newId' :String}
end
abbrev _root_.L2.Cx.hand(X:Cx)(a:Addr):Cx:={X with A:=X.A.mark (some (.ref a)),calm:=false}
section
variable{X:Cx}{pins:bD}{σ:St}{H:Hp}{s:Shared}{a:Addr}
end
def lF:XW:=fun _ _=>False
section
variable{X:Cx}{pins:bD}{σ:St}{H:Hp}{s:Shared}
theorem Cm:Ctx (X.wsh ⟨fun _ _=>False,pn⟩) F0 H0 lF:=
 ⟨fun _ _ _ _ _ _ _ _ _ _ h=>by obtain⟨_,_,_,_,_,_,_,_,_,_,_,_,_,_,_,_,h,_⟩:=h;exact h.elim,PassesOwn.never⟩
end
def Qz(K:W.Frag)(Cd:Addr)(tb th:au):au:=fun D Γ _=>tb D Γ fun Γ1 Cv=>∃C,Cv= .ref C/\tD K C/\nA K C Cd=true/\th D Γ1 lF
def Gu(K:W.Frag)(Cd:Addr)(i:Nat)(tb th:au):au:=fun D Γ _=>tb D Γ fun Γ1 Cv=>∃C,Cv= .ref C/\tD K C/\nA K C Cd=true/\
 th {nx:=fun Γ' =>D.nx (Γ'.set i .no),rt:=D.rt,bk:=fun Γ' =>D.bk (Γ'.set i .no),ct:=fun Γ' =>D.ct (Γ'.set i .no)} (Γ1.set i (.pu (.exc C))) lF
section
variable{X:Cx}{F0 H0:Hp}{pos np hp:Pos}{x n:Str}{Cd:Addr}{body suite:List Stmt}{b₀:Stmt}{tb th:au}
end
def cU(g:D ->(D ->Prop) ->Prop)(ta:aK):aK:=fun Γ P E=>ta Γ (fun d Γ1=>g d fun d' =>P d' Γ1) E
def tK:D ->(D ->Prop) ->Prop:=fun x P=>match x with | .int i=>P (.int (-i)) | _=>False
def oN(K:W.Frag)(g:List D ->(D ->Prop) ->Prop):List V ->Hp ->VK ->Prop:=fun vs H Q=>∃F ds P,Same F H/\ak K F ds vs/\g ds P/\∀d z F' H',Gr F H F' H' ->Rep K F' d z ->P d ->Q z H'
def mH(g:List D ->(D ->Prop) ->Prop)(t:bA):aK:=fun Γ P E=>t Γ (fun ds Γ1=>g ds fun d=>P d Γ1) E
def dJ:D ->D ->(D ->Prop) ->Prop:=fun x y P=>match x,y with
 | .lst xs,.int i=>∃d,jy xs i=some d/\P d
 | .tup xs,.int i=>∃d,jy xs i=some d/\P d
 | .str z,.int i=>∃c,z.length<=sizeLine/\jy z.cps.toList i=some c/\P (.str ⟨#[c]⟩)
 | _,_=>False
theorem QB{K:W.Frag}{F:Hp}{ds:List D}{vs:List V}{i:Int}{d:D}(r:ak K F ds vs)(h:jy ds i=some d):∃v,jy vs i=some v/\Rep K F d v:=by
 unfold jy at h⊢;rw[<- iu r];cases q:rB ds.length i with
 | none=>rw[q] at h;cases h
 | some j=>
  rw[q] at h;exact oH r h
section
variable{X:Cx}{F0 H0:Hp}{a b e:Expr}{es:List Expr}{pos p:Pos}{ta tb te:aK}{t:bA}{x:Str}
theorem QC(ha:QE X F0 H0 a ta):QE X F0 H0 (.UnaryOp .USub a pos) (cU tK ta):=fun z E cx=>
 jh (W0 W4 (ha z E cx)) fun σ H Q hq1=>by obtain⟨F,Γ,P,R,h,k⟩:=hq1;exact⟨F,Γ,_,R,h,fun d Γ1 F1 H1 v R1 s1 r q=>by
  cases d with
  | int i=>
   unfold Rep at r;exact⟨i,r,k _ _ _ _ _ R1 s1 (by unfold Rep;rfl) q⟩
  | _=>exact False.elim q⟩
theorem Ys{K:W.Frag}{g:List D ->(D ->Prop) ->Prop}{E:XW}{σ:St}{H:Hp}{Q:VK}(h:yR K F0 H0 (mH g t) E σ H Q):Fe (oN K g) (Gd K F0 H0 t E) σ H Q:=by
 obtain⟨F,Γ,P,R,h,k⟩:=h;exact⟨F,Γ,_,R,h,fun ds Γ1 F1 H1 vs R1 s1 r1 h1=>⟨F1,ds,_,R1.g,r1,h1,fun d z F' H' gr rz hp=>k d Γ1 F' H' z (R1.grow gr) (s1.trans gr.f) rz hp⟩⟩
theorem p7{id:String}{g:List D ->(D ->Prop) ->Prop}(hc:∀z,cP (X.wsh z) (.builtin id) (oN X.K g))(hg:Gl X x)(hm:X.mg x=none)(hv:bootBuiltins x=some (.builtin id))(ha:QA X F0 H0 (e::es) t)(hn:x≠ "__name__" :=by decide)(hdb:(x==("__debug__" :Str))=false:=by decide)
  (he:starEach (e::es) X.env=(false,eval e X.env)::starEach es X.env:=by rfl) (hpl:(backTo pos (starEach es X.env)).any (·.1)=false:=by rfl):QE X F0 H0 (.Call (.Name x p) (e::es) [] pos) (mH g t):=fun z E cx=>
 jh (Fg (X:=X.wsh z) (hc z) hg hm hv (ha z E cx) hn hdb he hpl) fun _ _ _ h=>Ys h
theorem d8(ha:QE X F0 H0 a ta)(hb:QE X F0 H0 b tb)(hs:OD b):QE X F0 H0 (.Subscript a b pos) (cB dJ ta tb):=fun z E cx=>
 jh (Xk (X:=X.wsh z) (r:=n8 X.K dJ) (by
  rintro value slice pins s σ H x y v u Q I rx ry ⟨F,d1,d2,P,sF,r1,r2,h,k⟩ hs;unfold dJ at h;split at h
  ·unfold Rep at r1 r2;obtain⟨p,vs,rfl,hq,rs⟩:=r1;subst r2;obtain⟨d,e,hp⟩:=h;obtain⟨w,ew,jR⟩:=QB rs e;exact Xl value slice pins s σ H _ _ v u Q I rx ry ⟨p,vs,_,w,rfl,rfl,sF.seq hq,ew,k _ _ F H (Gr.refl sF) jR hp⟩ hs
  ·unfold Rep at r1 r2;obtain⟨p,vs,rfl,hq,rs⟩:=r1;subst r2;obtain⟨d,e,hp⟩:=h;obtain⟨w,ew,jR⟩:=QB rs e;exact z4t value slice pins s σ H _ _ v u Q I rx ry ⟨p,vs,_,w,rfl,rfl,lA sF hq,ew,k _ _ F H (Gr.refl sF) jR hp⟩ hs
  ·unfold Rep at r1 r2;subst r1 r2;obtain⟨c,hz,e,hp⟩:=h;exact z46 value slice pins s σ H _ _ v u Q I rx ry ⟨_,_,c,rfl,rfl,hz,e,k _ _ F H (Gr.refl sF) (by unfold Rep;rfl) hp⟩ hs
  ·exact h.elim) (ha z E cx) (hb z E cx) hs) fun _ _ _ h=>J7 h
end
def Cp:List D ->(D ->Prop) ->Prop:=fun ds P=>match ds with | [.int i]=>P (.int (if i<0 then -i else i)) | _=>False
def sS:List D ->(D ->Prop) ->Prop:=fun ds P=>match ds with | [.lst xs]=>P (.int xs.length) | [.tup xs]=>P (.int xs.length) | [.str z]=>z.length<=sizeLine/\P (.int z.length) | _=>False
def z6t:List D ->(D ->Prop) ->Prop:=fun ds P=>match ds with | [.int i,.int j]=>P (.int (if j>i then j else i)) | _=>False
def z7a:List D ->(D ->Prop) ->Prop:=fun ds P=>match ds with | [.int i,.int j]=>P (.int (if j<i then j else i)) | _=>False
section
variable{X:Cx}
theorem QD:cP X (.builtin "abs") (oN X.K Cp):=by
 rintro pins s σ H xs us Q I r ⟨F,ds,P,sF,rs,h,k⟩;unfold Cp at h;split at h
 ·unfold ak ak Rep at rs;obtain⟨v,_,rfl,rfl,rfl⟩:=rs;exact zyx pins s σ H _ us Q I r ⟨_,rfl,k _ _ F H (Gr.refl sF) (by unfold Rep;rfl) h⟩
 ·exact h.elim
theorem vQ:cP X (.builtin "len") (oN X.K sS):=by
 rintro pins s σ H xs us Q I r ⟨F,ds,P,sF,rs,h,k⟩;unfold sS at h;split at h
 ·unfold ak ak Rep at rs;obtain⟨v,_,rfl,⟨p,vs,rfl,hq,rs⟩,rfl⟩:=rs;rw[iu rs] at h;exact Xo pins s σ H _ us Q I r ⟨p,vs,rfl,.inl (sF.seq hq),k _ _ F H (Gr.refl sF) (by unfold Rep;rfl) h⟩
 ·unfold ak ak Rep at rs;obtain⟨v,_,rfl,⟨p,vs,rfl,hq,rs⟩,rfl⟩:=rs;rw[iu rs] at h;exact Xo pins s σ H _ us Q I r ⟨p,vs,rfl,.inr (lA sF hq),k _ _ F H (Gr.refl sF) (by unfold Rep;rfl) h⟩
 ·unfold ak ak Rep at rs;obtain⟨v,_,rfl,rfl,rfl⟩:=rs;exact znq pins s σ H _ us Q I r ⟨_,rfl,h.1,k _ _ F H (Gr.refl sF) (by unfold Rep;rfl) h.2⟩
 ·exact h.elim
end
def Ab:D ->Option String
 | .non=>some "NoneType" | .bl _=>some "bool" | .int _=>some "int" | .str _=>some "str" | .tup _=>some "tuple" | .lst _=>some "list" | .exc _=>none | .ptr _=>none | .obj _ _ _=>none | .dic _ _=>none | .iC _ _=>none | .nq _ _=>some "dict"
def jE(d:D)(T:String):Option Bool:=(Ab d).bind fun S=>W.kitOne [] (.type S) (.type T)
def rG(T:String)(ta:aK):aK:=fun Γ P E=>ta Γ (fun d Γ1=>match jE d T with | some b=>P (.bl b) Γ1 | none=>False) E
theorem zsz(K K' :W.Frag)(S T:String):W.kitOne K (.type S) (.type T)=W.kitOne K' (.type S) (.type T):=rfl
section
variable{X:Cx}{pins:bD}{σ:St}{F H:Hp}{s:Shared}
theorem z5x(I:Inv X pins σ H s)(sF:Same F H)(r:Rep X.K F d x)(rx:RelV x u)(hS:Ab d=some S)(e:W.kitOne X.K (.type S) c=some b)
  (h:∀tk,Q (.bool b) {s with toks:=tk}):wpAny (model X.prog X.w) A (call (.builtin "isinstance") [u,c]) Q E s:=by
 cases d with
 | non=>unfold Rep at r;subst r;cases hS;exact J0 I rx (.non) e h
 | bl y=>unfold Rep at r;subst r;cases hS;exact J0 I rx (.bl y) e h
 | int y=>unfold Rep at r;subst r;cases hS;exact J0 I rx (.int y) e h
 | str y=>unfold Rep at r;subst r;cases hS;exact J0 I rx (.str y) e h
 | tup xs=>
  unfold Rep at r;cases hS;obtain⟨a,vs,rfl,hq,_⟩:=r;cases rx;obtain⟨its,_,⟨o,h1,h2,_⟩,_⟩:=I.tuple (lA sF hq);exact W.kia_one W.kitx_tuple I.kIn ⟨o,h1,h2⟩ e (fun z=>nomatch z) h
 | lst xs=>
  unfold Rep at r;cases hS;obtain⟨a,vs,rfl,hq,_⟩:=r;cases rx;obtain⟨its,_,⟨o,n,h1,h2,_⟩,_⟩:=I.list (sF.seq hq);exact W.kia_one W.kitx_list I.kIn ⟨o,h1,h2⟩ e (fun z=>nomatch z) h
 | exc C=>cases hS
 | ptr _=>cases hS
 | obj _ _ _=>cases hS
 | dic _ _=>cases hS
 | iC _ _=>cases hS
 | nq ks ds=>
  unfold Rep at r;obtain⟨p,o,vs,rfl,hq,_⟩:=r;cases hS;cases rx;obtain⟨_,_,_,ws,_,o',es,ep,h1,h2,_⟩:=(show aV X.prog X.w H s.heap p (.frz o (.dK (ks.zip vs))) from I.hok p _ (sF _ _ hq));exact W.kia_one W.kitx_dict I.kIn ⟨o',h1,h2.1⟩ e (fun z=>nomatch z) h
end
section
variable{X:Cx}{F0 H0:Hp}{a:Expr}{pos p pt:Pos}{ta:aK}{x:Str}{T:String}
theorem Kh(ha:QE X F0 H0 a ta)(hg:Gl X "isinstance")(hm:X.mg "isinstance" =none)(hgT:Gl X x)(hmT:X.mg x=none)(hv:bootBuiltins x=some (.type T))(hn:x≠ "__name__" :=by decide)(hd:(x==("__debug__" :Str))=false:=by decide)
  (he:starEach [a,.Name x pt] X.env=(false,eval a X.env)::starEach [.Name x pt] X.env:=by rfl) (he2:starEach [.Name x pt] X.env= [(false,eval (.Name x pt) X.env)]:=by rfl):QE X F0 H0 (.Call (.Name "isinstance" p) [a,.Name x pt] [] pos) (rG T ta):=fun z E cx=>by
 have pT:PE (X.wsh z) (.Name x pt) (tC (.ty T)):=z1y (X:=X.wsh z) hgT hmT hv rfl hn hd;refine jh (Fg (X:=X.wsh z) (id:= "isinstance") (r:=fun vs H Q=>∃(F:Hp) (d:D) (x:V) (P:Bool ->Prop),vs= [x,.ty T]/\Same F H/\Rep X.K F d x/\ (match jE d T with | some b=>P b | none=>False)/\∀b,P b ->Q (.bl b) H) ?_ hg hm boot_isinstance (J1 (ha z E cx) (J1 pT Oh (by rw[he2];rfl)) he) (by decide) (by decide) he (by rw[he2];rfl)) fun σ H Q ⟨F,Γ,P,R,h,k⟩=> ?_
 ·rintro pins s σ H xs us Q I r ⟨F,d,y,P,e1,sF,rd,hb,k⟩;subst e1;obtain⟨u,w,rfl,ru,jR⟩:=vals2 r;obtain rfl:w=Value.type T:=jR;unfold jE at hb;cases hS:Ab d with
  | none=>rw[hS] at hb;exact hb.elim
  | some S=>
   rw[hS] at hb;cases hk:W.kitOne [] (.type S) (.type T) with
   | none=>simp only [Option.bind_some,hk] at hb
   | some b=>
    simp only [Option.bind_some,hk] at hb;exact z5x I sF rd ru hS (zsz X.K [] S T ▸ hk) fun tk=>⟨.bl b,H,I.tok tk,rfl,k b hb⟩
 ·refine⟨F,Γ,_,R,h,fun d Γ1 F1 H1 v R1 s1 r1 h1=>⟨F1,d,v,fun b=>P (.bl b) Γ1,rfl,R1.g,r1,h1,fun b hp=>k _ _ _ _ _ R1 s1 (by unfold Rep;rfl) hp⟩⟩
end
def nC(C:Addr)(t:bA):au:=fun _ Γ E=>t Γ (fun ds Γ1=>ds.length<=sizeLine/\E Γ1 (.ref C)) E
section
variable{X:Cx}{F0 H0:Hp}{e:Expr}{es:List Expr}{pos np cpos:Pos}{t:bA}{x:Str}{C:Addr}
theorem Yt(hh:X.calm=true)(hg:Gl X x)(hm:X.mg x=some (.ref C))(hC:oJ X.K C)(ha:QA X F0 H0 (e::es) t)
  (hd:(x==("__debug__" :Str))=false:=by decide) (he:starEach (e::es) X.env=(false,eval e X.env)::starEach es X.env:=by rfl) (hpl:(backTo cpos (starEach es X.env)).any (·.1)=false:=by rfl):
  QS X F0 H0 (.Raise (some (.Call (.Name x np) (e::es) [] cpos)) none pos) (nC C t):=by
 rintro z E cx pins s σ H D I ⟨F,Γ,D2,R,h,k⟩;refine zyd (X:=X.wsh z) (E:=fun C' dx H1=>∃F1 Γ1,SR X.K F0 H0 F1 H1 σ Γ1/\E Γ1 (.ref C)) hg hm hC (ha z E cx) hh I ⟨F,Γ,_,R,h,fun ds Γ1 F1 H1 vs R1 s1 r1 h1=>⟨by rw[<- iu r1];exact h1.1,F1,Γ1,R1,h1.2⟩⟩ (fun H1 s1 e s' I1 hx=> ?_) hd he hpl
 obtain⟨a,C',H',B,h1,h2,h3,h4,h5,h6,h7,h8,rfl,h9,rfl,F1,Γ1,R1,hE⟩:=hx;exact cx.px pins σ Γ1 F1 _ s1 e s' I1 R1 ⟨a,_,_,B,h1,h2,h3,h4,h5,h6,h7,h8,hE,rfl,.refl _⟩
end
structure cR (P:Program) (w:World) (K:W.Frag) (mg:Str ->Option Value) (base:Heap) (x:Str) (k:Nat) (ps:List Str) (sp:cO):Prop where
 ex:∃f fd,eY P w K mg base (iw P w) k f fd ps (j9 K sp)/\mg x=some (.ref f)/\W.keepIn K (.ref f)=true/\Binds K fd ps []
section
variable{X:Cx}{F0 H0:Hp}{e:Expr}{es:List Expr}{pos p:Pos}{x:Str}{ps:List Str}{k:Nat}{sp:cO}{t:bA}
theorem dh(G:cR X.prog X.w X.K X.mg X.base x k ps sp)(hr:fB k X.A)(hg:Gl X x)(ha:QA X F0 H0 (e::es) t)(hdb:(x==("__debug__" :Str))=false:=by decide)(he:starEach (e::es) X.env=(false,eval e X.env)::starEach es X.env:=by rfl)(hpl:(backTo pos (starEach es X.env)).any (·.1)=false:=by rfl):
  QE X F0 H0 (.Call (.Name x p) (e::es) [] pos) (aF sp t):=by
 obtain⟨f,fd,h1,h2,h3,h4⟩:=G.ex;exact z3m h1 hr hg h2 h3 h4 ha hdb he hpl
end
section
variable{X:Cx}{pins:bD}{σ:St}{H:Hp}{s:Shared}{a:Addr}{o:HO}
end
section
variable{X:Cx}{F0 H0:Hp}{pos np hp:Pos}{x n:Str}{Cd:Addr}{body suite:List Stmt}{b₀:Stmt}{tb th:au}{i:Nat}
end
def Kl:cO:=fun ds P _=>∃ns:List Int,ds= [.lst (ns.map .int)]/\ns.length<=63/\P (.bl true)
theorem Yu{K:W.Frag}{F:Hp}:∀ns:List Int,ak K F (ns.map .int) (ns.map V.int)
 | []=>by unfold ak;rfl
 | n::ns=>pW (by unfold Rep;rfl) (Yu ns)
theorem zt9{K:W.Frag}{H:Hp}{a:Addr}{ns:List Int}(hl:ns.length<=63)(hS:fZ K H a (ns.map V.int)):j9 K Kl [.ref a] H (fun v _=>v= .bl true) fun _ _ _=>False:=
 ⟨H,[.lst (ns.map .int)],fun d=>d= .bl true,fun _=>False,.refl _,FN (by unfold Rep;exact⟨a,_,rfl,hS,Yu ns⟩),⟨ns,rfl,hl,rfl⟩,fun d v F' H' gr r h=>by subst h;unfold Rep at r;exact r,fun _ _ h=>h.elim⟩
theorem zzm(h:iw P w [] H s (fun _ _ _=>False) e s'):False:=by
 obtain⟨_,_,_,_,_,_,_,_,_,_,_,_,h⟩:=h;exact h
structure Cls where
 Cq:Addr:=0
 bQ:Addr:=0
 QH:Addr:=0
 QJ:Addr:=0
 Yv:Addr:=0
 Missing:Addr:=0
 dU:Addr:=0
 Few:Addr:=0
 Apart:Addr:=0
 Km:Addr:=0
 QK:Addr:=0
 Open:Addr:=0
 QL:Addr:=0
 Cr:Addr:=0
 Yw:Addr:=0
 Scale:Addr:=0
 aaW:Addr:=0
 Ko:Addr:=0
 aaX:Addr:=0
structure vR (K:W.Frag) (C:Addr):Prop where
 ga:W.findIn K (.ref C) "__getattribute__" =some (some (.builtin "BaseException.__getattribute__"))
 gn:W.findIn K (.ref C) "__getattr__" =some none
 cl:W.findIn K (.ref C) "__class__" =some (some (.builtin "object.__class__"))
 ob:W.mroIn K C (.type "object")=some true
 be:W.mroIn K C (.type "BaseException")=some true
def QM(K:W.Frag)(C:Addr)(ta:aK):aK:=fun Γ P E=>ta Γ (fun d Γ1=>match d with | .exc C0=>(tD K C0/\vR K C0)/\P (.bl (nA K C0 C)) Γ1 | _=>False) E
section
open PySem.W PySem.Builtin PySem.Builtin.ObjectAttr PySem.Builtin.Getset_descriptor
variable{prog:Program}{w:World}{A:Around}{E:bL}{K:W.Frag}{h:Heap}{g:Array GenState}{d:Drawn}{t:Nat}{os:OsState}{a C:Addr}{o:Obj}
def aaY(K:W.Frag)(C:Addr):Bool:=match K.lookup C with
 | some ⟨.type "type",_,.cls cd,_⟩=>(match cd.mro with | .ref C' ::_=>C' ==C | _=>false)
 | _=>false
end
section
variable{X:Cx}{F0 H0:Hp}{a:Expr}{pos p pt:Pos}{ta:aK}{x:Str}{C:Addr}
end
theorem QV:∀(names:List (Str×NameKind)) (n:Nat) (acc:List (Str×Addr)),(∀p∈names,p.2= .cell ->p.1≠x) ->(cellsFrom n names acc).lookup x=acc.lookup x
 | [],_,_,_=>rfl
 | (y,k)::r,n,acc,h=>by
  unfold cellsFrom;have hr:∀p∈r,p.2= .cell ->p.1≠x:=fun p hp=>h p (zV _ hp);split
  ·rename_i hk;have hy:y≠x:=h (y,k) zW (by simpa using hk)
   rw[QV r _ _ hr,List.lookup_cons];have:(x==y)=false:=by rw[beq_eq_false_iff_ne];exact Ne.symm hy
   rw[this]
  ·exact QV r _ _ hr
theorem QX:∀(names:List (Str×NameKind)) (h:Heap) (acc:List (Str×Addr)),(x,c)∈cellsFrom h.objs.size names acc ->(x,c)∈acc\/ (h.objs.size<=c/\ (pushCells h names).IsCell c none/\ (x,NameKind.cell)∈names)
 | [],_,_,m=> .inl m
 | (y,k)::r,h,acc,m=>by
  unfold cellsFrom at m;unfold pushCells;split at m
  ·rename_i hk;rw[if_pos hk];have sz:(h.push {cls:= .type "cell",data:= .cell none}).objs.size=h.objs.size+1:=Heap.size_push ..;rw[<- sz] at m;rcases QX r _ _ m with z | ⟨z1,z2,z3⟩
   ·rcases zT.mp z with e | z
    ·cases e;have e2:k= .cell:=by simpa using hk
     subst e2;refine .inr ⟨zM _,?_,zW⟩;exact⟨_,pushCells_keeps r _ _ _ (zY _ rfl),rfl⟩
    ·exact .inl z
   ·exact .inr ⟨by rw[sz] at z1;omega,z2,zV _ z3⟩
  ·rename_i hk;rw[if_neg hk];rcases QX r h acc m with z | ⟨z1,z2,z3⟩
   ·exact .inl z
   ·exact .inr ⟨z1,z2,zV _ z3⟩
theorem QZ:∀(names:List (Str×NameKind)) (n:Nat) (acc:List (Str×Addr)),(acc.Pairwise fun x y=>x.2≠y.2) ->(∀p∈acc,p.2<n) ->(cellsFrom n names acc).Pairwise fun x y=>x.2≠y.2
 | [],_,_,h,_=>h
 | (y,k)::r,n,acc,h,hl=>by
  unfold cellsFrom;split
  ·refine QZ r _ _ (List.pairwise_cons.mpr ⟨fun p hp e=> ?_,h⟩) fun p hp=> ?_
   ·have e' :n=p.2:=e;exact yV _ (Nat.lt_of_lt_of_eq (hl p hp) e')
   ·rcases zT.mp hp with rfl | hp
    ·exact Nat.lt_succ_self _
    ·exact Nat.lt_succ_of_lt (hl p hp)
  ·exact QZ r n acc h hl
def jj(env:Env):List (Str×NameKind) ->List (Str×Addr) ->List (Str×Addr)
 | [],cs=>cs
 | (n,k)::r,cs=>jj env r (if k== .free then(n,(env.cells.lookup n).getD 0)::cs else cs)
theorem z16(h:∀p∈scope.names,p.2= .free ->∃c,env.cells.lookup p.1=some c):closureFor scope env=pure (jj env scope.names []):=by
 have key:∀(names:List (Str×NameKind)) (cs:List (Str×Addr)),(∀p∈names,p.2= .free ->∃c,env.cells.lookup p.1=some c) ->
   (forIn names cs fun(x:Str×NameKind) (r:List (Str×Addr))=>(if x.2== .free then do let a<- cellOf env x.1;pure (ForInStep.yield ((x.1,a)::r)) else pure (ForInStep.yield r):Sem _))=pure (jj env names cs):=by
  intro names;induction names with
  | nil=>intro cs _;rfl
  | cons p r ih=>
   intro cs hh;obtain⟨n,k⟩:=p;have hr:∀p∈r,p.2= .free ->∃c,env.cells.lookup p.1=some c:=fun p hp=>hh p (zV _ hp);rw[List.forIn_cons];unfold jj;by_cases hk:(k==NameKind.free)=true
   ·obtain⟨c,e⟩:=hh (n,k) zW (by simpa using hk)
    have e' :cellOf env n=pure c:=by unfold cellOf;rw[e]
    simp only [hk,if_true,e',pure_bind,e,Option.getD_some];exact ih _ hr
   ·have hk' :(k==NameKind.free)=false:=by simpa using hk
    simp only [hk',Bool.false_eq_true,if_false,pure_bind];exact ih _ hr
 unfold closureFor;have:=key scope.names [] h
 simpa using this
theorem Q5:∀(names:List (Str×NameKind)) (cs:List (Str×Addr)),(∀p∈names,p.2= .free ->∃c,env.cells.lookup p.1=some c) ->(x,c)∈jj env names cs ->(x,c)∈cs\/ ((x,NameKind.free)∈names/\env.cells.lookup x=some c)
 | [],_,_,m=> .inl m
 | (n,k)::r,cs,hh,m=>by
  unfold jj at m;have hr:∀p∈r,p.2= .free ->∃c,env.cells.lookup p.1=some c:=fun p hp=>hh p (zV _ hp);rcases Q5 r _ hr m with z | ⟨z1,z2⟩
  ·split at z
   ·rename_i hk;rcases zT.mp z with e | z
    ·cases e;have e2:k= .free:=by simpa using hk
     subst e2;obtain⟨c,e⟩:=hh (_,.free) zW rfl;refine .inr ⟨zW,?_⟩;have e' :env.cells.lookup x=some c:=e;rw[e'];rfl
    ·exact .inl z
   ·exact .inl z
  ·exact .inr ⟨zV _ z1,z2⟩
theorem Kp(e:env.cells.lookup x=some c):∀(names:List (Str×NameKind)) (cs:List (Str×Addr)),((x,NameKind.free)∈names\/cs.lookup x=some c) ->(∀c',cs.lookup x=some c' ->c' =c) ->(jj env names cs).lookup x=some c
 | [],cs,h,_=>by
  rcases h with h | h
  ·cases h
  ·exact h
 | (n,k)::r,cs,h,hu=>by
  unfold jj;by_cases hk:(k==NameKind.free)=true
  ·rw[if_pos hk];by_cases hn:x=n
   ·subst hn;refine Kp e r _ (.inr ?_) fun c' q=> ?_
    ·rw[List.lookup_cons];simp [e]
    ·rw[List.lookup_cons] at q;simp [e] at q;exact q.symm
   ·have hb:(x==n)=false:=by rw[beq_eq_false_iff_ne];exact hn
    refine Kp e r _ ?_ fun c' q=> ?_
    ·rcases h with h | h
     ·rcases zT.mp h with z | z
      ·cases z;exact absurd rfl hn
      ·exact .inl z
     ·refine .inr ?_;rw[List.lookup_cons,hb];exact h
    ·rw[List.lookup_cons,hb] at q;exact hu c' q
  ·rw[if_neg hk];refine Kp e r cs ?_ hu;rcases h with h | h
   ·rcases zT.mp h with z | z
    ·cases z;exact absurd rfl hk
    ·exact .inl z
   ·exact .inr h
theorem Q6(inj:∀x y c,env.cells.lookup x=some c ->env.cells.lookup y=some c ->x=y):∀(names:List (Str×NameKind)) (cs:List (Str×Addr)),(names.map (·.1)).Nodup ->(∀p∈names,p.2= .free ->∃c,env.cells.lookup p.1=some c) ->
  (cs.Pairwise fun x y=>x.2≠y.2) ->(∀p∈cs,env.cells.lookup p.1=some p.2/\p.1∉names.map (·.1)) ->(jj env names cs).Pairwise fun x y=>x.2≠y.2
 | [],_,_,_,h,_=>h
 | (n,k)::r,cs,nd,hh,h,hc=>by
  unfold jj;rw[List.map_cons,List.nodup_cons] at nd;have hr:∀p∈r,p.2= .free ->∃c,env.cells.lookup p.1=some c:=fun p hp=>hh p (zV _ hp);have hc' :∀p∈cs,env.cells.lookup p.1=some p.2/\p.1∉r.map (·.1):=fun p hp=>⟨(hc p hp).1,fun z=>(hc p hp).2 (by rw[List.map_cons];exact zV _ z)⟩
  by_cases hk:(k==NameKind.free)=true
  ·rw[if_pos hk];obtain⟨c,e⟩:=hh (n,k) zW (by simpa using hk)
   have e' :env.cells.lookup n=some c:=e;rw[e'];refine Q6 inj r _ nd.2 hr (List.pairwise_cons.mpr ⟨fun p hp z=> ?_,h⟩) fun p hp=> ?_
   ·have z' :c=p.2:=z;have q:=(hc p hp).1;rw[<- z'] at q;have:=inj _ _ _ e' q;exact(hc p hp).2 (by rw[List.map_cons,<- this];exact zW)
   ·rcases zT.mp hp with rfl | hp
    ·exact⟨e',nd.1⟩
    ·exact hc' p hp
  ·rw[if_neg hk];exact Q6 inj r cs nd.2 hr h hc'
theorem Q7{scope:Scope}{env:Env}{x:Str}:∀(names:List (Str×NameKind)) {k:NameKind},names.lookup x=some k ->(names.map fun(n,k)=>if (k==NameKind.free&&env.scope.kind== .function&&env.kindOf n==some .cell) then(n,NameKind.cell) else(n,k)).lookup x=some k\/
   (k= .free/\ (names.map fun(n,k)=>if (k==NameKind.free&&env.scope.kind== .function&&env.kindOf n==some .cell) then(n,NameKind.cell) else(n,k)).lookup x=some .cell)
 | [],_,h=>by simp at h
 | (n,k0)::r,k,h=>by
  have ih:= @Q7 scope env x r k;show List.lookup x ((if (k0==NameKind.free&&env.scope.kind== .function&&env.kindOf n==some .cell)=true then(n,NameKind.cell) else(n,k0))::_)=_\/ (_/\List.lookup x ((if (k0==NameKind.free&&env.scope.kind== .function&&env.kindOf n==some .cell)=true then(n,NameKind.cell) else(n,k0))::_)=_);cases hx:x==n with
  | true=>
   simp only [List.lookup_cons,hx] at h;cases h;by_cases hc:(k0==NameKind.free&&env.scope.kind== .function&&env.kindOf n==some .cell)=true
   ·rw[if_pos hc];simp only [Bool.and_eq_true] at hc;exact .inr ⟨by simpa using hc.1.1,by simp only [List.lookup_cons,hx]⟩
   ·rw[if_neg hc];exact .inl (by simp only [List.lookup_cons,hx])
  | false=>
   simp only [List.lookup_cons,hx] at h;by_cases hc:(k0==NameKind.free&&env.scope.kind== .function&&env.kindOf n==some .cell)=true
   ·rw[if_pos hc];simp only [List.lookup_cons,hx];exact ih h
   ·rw[if_neg hc];simp only [List.lookup_cons,hx];exact ih h
def fK(scope:Scope)(C:Addr)(env:Env):Env:=
 {scope:=relabel scope env,locals:=C,globals:=env.globals,cells:=cellsFrom (C+1) scope.names (jj env scope.names []),qual:=env.qual,func:=none,code:=env.code,frame:=env.frame,builtins:=env.builtins}
def blk(X:Cx)(scope:Scope)(N:List Str)(C:Addr)(s₀:Shared)(H₀:Hp)(fp:List Addr):Cx:=
 {X with env:=fK scope C X.env,N:=N,s₀:=s₀,H₀:=H₀,outer:=X.stack,stack:=X.stack,ex:=fp,fn:=fun x=>scope.names.lookup x==some .cell,pn:= [],xe:=fun _ _=>False}
def ou(own:Nat)(caps:List Nat)(σ:St):St:=List.replicate own none++caps.map fun j=>(σ[j]?).join
structure fH (N:List Str) (sc:Scope) (own:List Str) (caps:List Nat) (env:Env) (N' :List Str):Prop where
 kind:sc.kind= .function
 nd:N'.Nodup
 snd:(sc.names.map (·.1)).Nodup
 free:∀p∈sc.names,p.2= .free ->env.kindOf p.1=some .cell\/env.kindOf p.1=some .free
 names:N' =own++caps.map fun j=>N.getD j ""
 caps:∀j∈caps,j<N.length/\sc.names.lookup (N.getD j "")=some .free
theorem zt8
  (hQ:Q (newEnv scope s.heap.objs.size g (cellsFrom (s.heap.objs.size+1) scope.names cl) q none .none (some env) builtinsNs) {s with heap:=pushCells (s.heap.push {cls:= .type "dict",data:= .dict #[]}) scope.names}):
  wpAny M A (newFunctionEnv scope g cl [] q none .none (some env)) Q E s:=by
 simp only [newFunctionEnv,Option.isSome_some,if_true];refine z8 (wpAny_alloc ?_);refine z8 (wpAny_layCells _ (fun name kind cells=>by cases hkc:kind==NameKind.cell<;>simp [hkc]) _ _ _ _ ?_)
 rw[show({s with heap:=s.heap.push {cls:= .type "dict",data:= .dict #[]}}:Shared).heap.objs.size=s.heap.objs.size+1 from Heap.size_push ..];simp only [List.forIn_nil];exact z8 (z9 (z9 hQ))
section
variable{X:Cx}{pins:bD}{σ:St}{H:Hp}{s:Shared}{sc:Scope}{own:List Str}{caps:List Nat}{N' :List Str}{fp:List Addr}
theorem Kq(I:Inv X pins σ H s)(S:fH X.N sc own caps X.env N'):∀p∈sc.names,p.2= .free ->∃c,X.env.cells.lookup p.1=some c:=fun p hp hk=>I.ok.has _ (S.free p hp hk)
theorem Kr(I:Inv X pins σ H s)(S:fH X.N sc own caps X.env N')(e:(fK sc s.heap.objs.size X.env).cells.lookup x=some c):
  (X.env.cells.lookup x=some c/\c<s.heap.objs.size/\sc.names.lookup x≠some .cell)\/ (s.heap.objs.size+1<=c/\ (pushCells (s.heap.push {cls:= .type "dict",data:= .dict #[]}) sc.names).IsCell c none):=by
 have m:=mem_of_lookup e;have sz:(s.heap.push {cls:= .type "dict",data:= .dict #[]}).objs.size=s.heap.objs.size+1:=Heap.size_push ..;have m' :(x,c)∈cellsFrom (s.heap.push {cls:= .type "dict",data:= .dict #[]}).objs.size sc.names (jj X.env sc.names []):=by rw[sz];exact m
 rcases QX sc.names _ _ m' with z | ⟨z1,z2,z3⟩
 ·rcases Q5 sc.names [] (Kq I S) z with z | ⟨z1,z2⟩
  ·cases z
  ·obtain⟨v,hc⟩:=I.cell x c z2;refine .inl ⟨z2,hc.lt,fun q=> ?_⟩;have q' :=mem_of_lookup q;have:=S.snd;rw[List.Nodup,List.pairwise_map] at this;have d:∀(l:List (Str×NameKind)),(l.Pairwise fun a b=>a.1≠b.1) ->(x,NameKind.free)∈l ->(x,NameKind.cell)∈l ->False:=by
    intro l;induction l with
    | nil=>intro _ h;cases h
    | cons a r ih=>
     intro hp h1 h2;obtain⟨p1,p2⟩:=List.pairwise_cons.mp hp;rcases zT.mp h1 with e1 | h1<;>rcases zT.mp h2 with e2 | h2
     ·rw[<- e1] at e2;cases e2
     ·exact p1 _ h2 (by rw[<- e1])
     ·exact p1 _ h1 (by rw[<- e2])
     ·exact ih p2 h1 h2
   exact d _ this z1 q'
 ·exact .inr ⟨by rw[sz] at z1;exact z1,z2⟩
theorem Q8(I:Inv X pins σ H s)(S:fH X.N sc own caps X.env N')(hk:sc.names.lookup x=some .free)(e:X.env.cells.lookup x=some c):(fK sc s.heap.objs.size X.env).cells.lookup x=some c:=by
 show(cellsFrom _ sc.names (jj X.env sc.names [])).lookup x=some c;rw[QV]
 ·exact Kp e _ _ (.inl (mem_of_lookup hk)) fun c' q=>by cases q
 ·intro p hp hc z;have q:=mem_of_lookup hk;have:=S.snd;rw[List.Nodup,List.pairwise_map] at this;have d:∀(l:List (Str×NameKind)),(l.Pairwise fun a b=>a.1≠b.1) ->(x,NameKind.free)∈l ->p∈l ->False:=by
   intro l;induction l with
   | nil=>intro _ h;cases h
   | cons a r ih=>
    intro Q9 h1 h2;obtain⟨p1,p2⟩:=List.pairwise_cons.mp Q9;rcases zT.mp h1 with e1 | h1<;>rcases zT.mp h2 with e2 | h2
    ·rw[<- e1] at e2;subst e2;cases hc
    ·exact p1 _ h2 (by rw[<- e1];exact z.symm)
    ·exact p1 _ h1 (by rw[<- e2];exact z)
    ·exact ih p2 h1 h2
  exact d _ this q hp
theorem Yx(I:Inv X pins σ H s)(S:fH X.N sc own caps X.env N')(Gv:∀x c v,X.env.cells.lookup x=some c ->s.heap.IsCell c v ->h'.IsCell c v)(i:Nat)(x:Str)(v:V)(h1:N'[i]?=some x)(h2:(ou own.length caps σ)[i]?=some (some v)):
  ∃u,RelV v u/\Look (fK sc s.heap.objs.size X.env) h' m' x u:=by
 have h2' :(ou own.length caps σ)[i]?=some (some v):=h2;have h1' :N'[i]?=some x:=h1;unfold ou at h2';rw[S.names] at h1';by_cases hi:i<own.length
 ·rw[List.getElem?_append_left (by simpa using hi),List.getElem?_replicate] at h2'
  split at h2' <;>cases h2'
 ·rw[List.getElem?_append_right (by simpa using hi),List.getElem?_map,List.length_replicate] at h2'
  rw[List.getElem?_append_right (by omega),List.getElem?_map] at h1'
  cases hj:caps[i - own.length]? with
  | none=>rw[hj] at h1';cases h1'
  | some j=>
   rw[hj] at h1' h2';obtain⟨j1,j2⟩:=S.caps j (yZ hj);have hx:X.N.getD j "" =x:=by simpa using h1'
   have hσ:σ[j]?=some (some v):=by
    have:(σ[j]?).join=some v:=by simpa using h2'
    cases q:σ[j]? with
    | none=>rw[q] at this;cases this
    | some o=>rw[q] at this;have:o=some v:=this;rw[this]
   rw[hx] at j2;have hN:X.N[j]?=some x:=by
    rw[List.getD_eq_getElem?_getD,List.getElem?_eq_getElem j1] at hx;rw[List.getElem?_eq_getElem j1]
    simpa using hx
   obtain⟨m,hn,hloc⟩:=I.loc;have kx:=S.free (x,.free) (mem_of_lookup j2) rfl;have vis:pN X.env.scope x:=by
    rcases kx with k | k
    ·exact .inr (.inl k)
    ·exact .inr (.inr k)
   obtain⟨u,ru,l⟩:=hloc j x v hN hσ vis;refine⟨u,ru,.inr ⟨?_,?_⟩⟩
   ·rcases Q7 (scope:=sc) (env:=X.env) sc.names j2 with h | ⟨_,h⟩
    ·exact .inr h
    ·exact .inl h
   ·rcases l with ⟨k,_⟩ | ⟨_,c,ec,hc⟩
    ·have k' :X.env.kindOf x=some .local:=k;have Yy :X.env.kindOf x=some .cell\/X.env.kindOf x=some .free:=kx;rw[k'] at Yy;rcases Yy with z | z<;>cases z
    ·exact⟨c,Q8 I S j2 ec,Gv x c _ ec hc⟩
theorem zwg(I:Inv X pins σ H s)(S:fH X.N sc own caps X.env N')(hf:∀b∈fp,gF X pins H b)(hl:∀b∈fp,b<s.heap.objs.size):
  Inv (blk X sc N' s.heap.objs.size s H fp) [] (ou own.length caps σ) H {s with heap:=pushCells (s.heap.push {cls:= .type "dict",data:= .dict #[]}) sc.names}:=by
 have keep:∀b o,s.heap.get? b=some o ->(pushCells (s.heap.push {cls:= .type "dict",data:= .dict #[]}) sc.names).get? b=some o:=fun b o e=>pushCells_keeps _ _ b o (zZ _ e);have ok:=I.ok;have inj:∀x y c,(fK sc s.heap.objs.size X.env).cells.lookup x=some c ->(fK sc s.heap.objs.size X.env).cells.lookup y=some c ->x=y:=fun x y c e1 e2=>by
  refine name_of_addr (cs:=(fK sc s.heap.objs.size X.env).cells) ?_ (mem_of_lookup e1) (mem_of_lookup e2);refine QZ _ _ _ (Q6 ok.inj _ _ S.snd (Kq I S) List.Pairwise.nil (fun p hp=>by cases hp)) fun p hp=> ?_
  rcases Q5 (x:=p.1) (c:=p.2) sc.names [] (Kq I S) hp with z | ⟨_,z⟩
  ·cases z
  ·obtain⟨v,hc⟩:=I.cell _ _ z;exact Nat.lt_succ_of_lt hc.lt
 have frC:∀b,s.heap.objs.size<=b ->H b=none:=fun b hb=>I.hok.fresh hb;have Ra:(fK sc s.heap.objs.size X.env).scope.kind= .function:=S.kind;refine⟨⟨ok.mod,Ra,ok.glob,ok.blt,zM _,inj,fun x hx=> ?_,fun x c hfn e=> ?_,ok.hd,ok.frames,.inl rfl,fun b hb=>⟨zJ (hl b hb),fun x c e z=> ?_⟩,I.bs,zN ok.BP I.sz,fun b o e hb=> ?_,fun b hb z=> ?_,I.stack,I.stkFree⟩,
  rfl,I.bare,Un.kept keep,⟨_,(Heap.Ns.new s.heap (.type "dict")).keeps (pushCells_keeps _ _),fun i x v h1 h2 h3=> ?_⟩,fun x c e=> ?_,frC _ (zM _),fun x c e=> ?_,fun p hp=>absurd (show p∈ ([]:bD) from hp) (by simp),I.hok.kept keep,?_⟩
 ·
  have hx' :(relabel sc X.env).names.lookup x=some .cell\/ (relabel sc X.env).names.lookup x=some .free:=hx;have:∃k,sc.names.lookup x=some k:=by
   have key:∀(l:List (Str×NameKind)) (k' :NameKind),(l.map fun(n,k)=>if (k==NameKind.free&&X.env.scope.kind== .function&&X.env.kindOf n==some .cell) then(n,NameKind.cell) else(n,k)).lookup x=some k' ->∃k,l.lookup x=some k:=by
    intro l;induction l with
    | nil=>intro k' h;simp at h
    | cons a r ih=>
     intro k' h;obtain⟨n,k0⟩:=a;cases hb:x==n with
     | true=>exact⟨k0,by simp [List.lookup_cons,hb]⟩
     | false=>
      have h2:List.lookup x ((if (k0==NameKind.free&&X.env.scope.kind== .function&&X.env.kindOf n==some .cell)=true then(n,NameKind.cell) else(n,k0))::(r.map _))=some k' :=h;obtain⟨k,hk⟩:=ih k' (by
       split at h2<;>(simp only [List.lookup_cons,hb] at h2;exact h2))
      exact⟨k,by simp only [List.lookup_cons,hb];exact hk⟩
   rcases hx' with h | h
   ·exact key _ _ h
   ·exact key _ _ h
  obtain⟨k,hk⟩:=this;rcases Q7 (scope:=sc) (env:=X.env) sc.names hk with h | ⟨h1,h2⟩
  ·have hkk:k= .cell\/k= .free:=by
    have h' :(relabel sc X.env).names.lookup x=some k:=h;rcases hx' with z | z<;>rw[z] at h' <;>cases h' <;>simp
   rcases hkk with rfl | rfl
   ·exact Option.isSome_iff_exists.mp (W.cellsFrom_some sc.names _ _ (.inl hk))
   ·obtain⟨c,e⟩:=ok.has x (S.free (x,.free) (mem_of_lookup hk) rfl);exact⟨c,Q8 I S hk e⟩
  ·subst h1;obtain⟨c,e⟩:=ok.has x (S.free (x,.free) (mem_of_lookup hk) rfl);exact⟨c,Q8 I S hk e⟩
 ·
  have Rb :sc.names.lookup x=some .cell:=by
   have:(sc.names.lookup x==some NameKind.cell)=true:=hfn
   simpa using this
  rcases Kr I S e with ⟨_,_,z⟩ | ⟨z,_⟩
  ·exact absurd Rb z
  ·show s.heap.objs.size<=c;exact Nat.le_of_succ_le z
 ·rcases Kr I S e with ⟨z1,_,_⟩ | ⟨z1,_⟩
  ·exact(hf b hb).2.2.2.2.1 x c z1 z
  ·have:=hl b hb;rw[<- z] at this;exact yV _ (zL this (Nat.le_of_succ_le z1))
 ·have q:=(hf b hb).2.2.2.1;rcases q with q | q
  ·exact ok.yt b o e q
  ·have q2:b<X.base.objs.size:=zG e;exact yV _ (zL q2 (zN ok.BP q))
 ·rcases zT.mp (I.stkSub b z) with z | z
  ·exact(hf b hb).2.1 z
  ·exact(hf b hb).2.2.1 z
 ·exact Yx I S (fun x c v _ hc=>hc.keeps keep) i x v h1 h2
 ·rcases Kr I S e with ⟨z1,_,_⟩ | ⟨_,z⟩
  ·obtain⟨v,hc⟩:=I.cell x c z1;exact⟨v,hc.keeps keep⟩
  ·exact⟨_,z⟩
 ·rcases Kr I S e with ⟨z1,_,_⟩ | ⟨z,_⟩
  ·exact I.freeC x c z1
  ·exact frC c (Nat.le_of_succ_le z)
 ·show(ou own.length caps σ).length=N'.length;rw[S.names];unfold ou;simp
theorem zt5(I:Inv X pins σ H s)(S:fH X.N sc own caps X.env N')(hf:∀b∈fp,gF X pins H b)(B:Inv (blk X sc N' s.heap.objs.size s H fp) qF σ5 H5 s5):
  Inv (blk X sc N' s.heap.objs.size s H fp) qF (ou own.length caps σ) H5 s5:=by
 obtain⟨m,hn,_⟩:=B.loc;have kc:∀x c v,X.env.cells.lookup x=some c ->s.heap.IsCell c v ->s5.heap.IsCell c v:=fun x c v e ⟨o,ho,hd⟩=>by
  have nx:c∉fp:=fun z=>(hf c z).2.2.2.2.1 x c e rfl;by_cases hc:c∈frs X.stack
  ·obtain⟨sl,q⟩:=B.base.slot c o ho (I.freeC x c e) hc nx;exact⟨_,q,hd⟩
  ·exact⟨o,B.base.keep c o ho (I.freeC x c e) hc nx,hd⟩
 exact⟨B.ok,B.os,B.bare,B.base,⟨m,hn,fun i x v h1 h2 h3=>Yx I S kc i x v h1 h2⟩,B.cell,B.free,B.freeC,B.pin,B.hok,by show(ou own.length caps σ).length=N'.length;rw[S.names];unfold ou;simp⟩
end
abbrev Yz(ifs:List Expr)(env:Env):Sem Bool:=forIn ifs true fun c r=>if r=true then do let ok<- isTrue c env (eval c env);pure (ForInStep.yield ok) else pure (ForInStep.yield r)
section
variable{prog:Program}{w:World}{A:Around}{R:Result ->Shared ->Prop}{s:Shared}
theorem zup(I:Nat ->Shared ->Prop)
  (turn:∀n s,I n s ->wpAny (model prog w) A (pyNext it) (fun r s₁=>match r with
   | none=>R (.ok .next) s₁
   | some v=>wpAny (model prog w) A (letOwnedTupleGo target it v) (fun _ s₁' =>wpAny (model prog w) A (assign target env v) (fun _ s₂=>
     wpAny (model prog w) A (Yz ifs env) (fun ok s₃=>
      if ok=true then wpAny (model prog w) A (eval elt env) (fun x s₄=>
       wpAny (model prog w) A (call (.builtin "list.append") [acc,x]) (fun _ s₅=>∃m,m<n/\I m s₅) (fun _ _=>False) s₄) (fun _ _=>False) s₃
      else∃m,m<n/\I m s₃) (fun _ _=>False) s₂) (fun _ _=>False) s₁') (fun _ _=>False) s₁) (fun _ _=>False) s)
  (n:Nat) (h:I n s):
  codeAny (model prog w) A (.compLoop (.ListComp elt [⟨target,iter,ifs,0⟩] scope pos) 0 it acc env) R s:=by
 refine codeAny_loop rfl I (fun n s hI=> ?_) n h;show wpAny _ A ((compTurn (.ListComp elt [⟨target,iter,ifs,0⟩] scope pos) 0 it acc env).onRaise (fun x=>do noteFrame x env;theTreesLotGoes x)) _ _ s;refine wpAny_noted ?_;rw[compTurn_list];refine z8 (wpAny_standAt (z8 (wpAny_mono (turn n s hI) (fun r s₁ h₁=> ?_) fun _ _ h' =>h'.elim)));cases r with
 | none=>exact z9 h₁
 | some v=>
  refine z8 (wpAny_mono h₁ (fun _ s₁' h₁' => ?_) fun _ _ h' =>h'.elim);refine z8 (wpAny_mono h₁' (fun _ s₂ h₂=>z8 (wpAny_mono h₂ (fun ok s₃ h₃=> ?_) fun _ _ h' =>h'.elim)) fun _ _ h' =>h'.elim);cases ok with
  | false=>exact z9 ⟨rfl,h₃⟩
  | true=>
   exact z8 (z8 (wpAny_mono h₃ (fun x s₄ h₄=>z8 (wpAny_mono h₄ (fun _ s₅ h₅=>z9 (z9 ⟨rfl,h₅⟩)) fun _ _ h' =>h'.elim)) fun _ _ h' =>h'.elim))
end
def Ks(X:Cx)(ifs:List Expr)(t:TT):Prop:=
 ∀(pins:bD) (s:Shared) (σ:St) (H:Hp) (Q:Bool ->Hp ->Prop),Inv X pins σ H s ->t σ H Q ->wpAny (model X.prog X.w) X.A (Yz ifs X.env) (TP X pins σ Q) X.xe s
theorem z3r:Ks X [] (fun _ H Q=>Q true H):=fun pins s σ H Q I h=>wpAny_tests_nil ⟨H,I,h⟩
theorem z3s(h:PT X c t):Ks X [c] t:=fun pins s σ H Q I q=>wpAny_tests_one (h pins s σ H Q I q)
structure Gw (P:Program) (w:World) (K:W.Frag) (tg:Expr) (J:It) (fp:List Addr) (it:Addr) (tn:Nat ->Heap ->Prop) (cm:Cx ->Prop):Prop where
 mem:it∈fp
 obj:∀i h,tn i h ->∀b∈fp,∃o,h.get? b=some o/\∀v,o.data≠ .cell v
 keep:∀i h h',tn i h ->(∀b∈fp,∀o,h.get? b=some o ->h'.get? b=some o) ->tn i h'
 item:∀(X:Cx),X.prog=P ->X.w=w ->X.K=K ->cm X ->∀(i:Nat) (pins:bD) (s:Shared) (σ:St) (H:Hp) (E:bL),Inv X pins σ H s ->(∀b∈fp,gF X pins H b) ->tn i s.heap ->J.go i H ->
  wpAny (model P w) X.A (pyNext (.ref it)) (fun r s1=>∃u,r=some u/\
   wpAny (model P w) X.A (letOwnedTupleGo tg (.ref it) u) (fun _ s2=>∃x H',Inv X pins σ H' s2/\RelV x u/\J.yld i H x H' /\tn (i+1) s2.heap/\∀b∈fp,H' b=none) E s1) E s
 done:∀(X:Cx),X.prog=P ->X.w=w ->X.K=K ->cm X ->∀(i:Nat) (pins:bD) (s:Shared) (σ:St) (H:Hp) (E:bL),Inv X pins σ H s ->(∀b∈fp,gF X pins H b) ->tn i s.heap ->J.stop i H ->
  wpAny (model P w) X.A (pyNext (.ref it)) (fun r s1=>r=none/\Inv X pins σ H s1) E s
 self:∀(A:Around) (i:Nat) (s:Shared) (Q:bL) (E:bL),tn i s.heap ->Q (.ref it) s ->wpAny (model P w) A (pyIter (.ref it)) Q E s
def Rf(X:Cx)(pins:bD)(σ:St)(tg:Expr)(R:It ->Hp ->Prop)(itv:Value)(s2:Shared):Prop:=
 ∃(it:Addr) (fp:List Addr) (tn:Nat ->Heap ->Prop) (J:It) (H' :Hp) (cm:Cx ->Prop),itv= .ref it/\Inv X pins σ H' s2/\Gw X.prog X.w X.K tg J fp it tn cm/\tn 0 s2.heap/\ (∀b∈fp,gF X pins H' b)/\R J H' /\
  ∀Y:Cx,Y.A=X.A ->Y.calm=X.calm ->(∀b o u,H' b=some (.frz o u) ->Y.H₀ b=some (.frz o u)) ->cm Y
def Rg(X:Cx)(tg iter:Expr)(wi:TI):Prop:=
 ∀(pins:bD) (s:Shared) (σ:St) (H:Hp) (R:It ->Hp ->Prop),Inv X pins σ H s ->wi σ H R ->
  wpAny (model X.prog X.w) X.A (eval iter X.env) (fun v s1=>wpAny (model X.prog X.w) X.A (pyIter v) (Rf X pins σ tg R) X.xe s1) X.xe s
theorem YB(hc:X.calm=true)(hi:PI X tg iter wi):Rg X tg iter wi:=fun pins s σ H R I h=>
 bG (hi pins s σ H R I h) fun v s1 h1=>bG h1 fun itv s2 hq1=>by obtain⟨it,fp,tn,J,H',e,I',T,st,f,r⟩:=hq1;exact⟨it,fp,tn,J,H',fun Y=>Y.calm=true,e,I',⟨T.mem,T.obj,T.keep,T.item,T.done,T.self⟩,st,f,r,fun Y _ q _=>q.trans hc⟩
def wN(acc:Addr)(J:It)(σ' :St)(g:TG)(tc:TT)(te:TE)(Q:V ->Hp ->Prop)(H1:Hp):Prop:=
 ∃W:Nat ->Nat ->List V ->Hp ->Prop,(∃m,W 0 m [] H1)/\∀i m vs H,W i m vs H ->H acc=some (.lst vs)/\vs.length<sizeLine+1/\
  ((J.stop i H/\Q (.ref acc) H)\/ (J.go i H/\vs.length<sizeLine/\∀x H',J.yld i H x H' ->g x σ' H' fun σ2 H2=>tc σ2 H2 fun b H3=>
   if b=true then te σ2 H3 fun v H4=>H4 acc=some (.lst vs)/\∃m',m' <m/\W (i+1) m' (vs++ [v]) (upd H4 acc (.lst (vs++ [v])))
   else∃m',m' <m/\W (i+1) m' vs H3))
def Gx(own:Nat)(caps:List Nat)(wi:TI)(g:TG)(tc:TT)(te:TE):TE:=fun σ H Q=>wi σ H fun J H1=>∀acc,H1 acc=none ->wN acc J (ou own caps σ) g tc te Q (upd H1 acc (.lst []))
section
variable{X:Cx}{sc:Scope}{own:List Str}{caps:List Nat}{N' :List Str}{elt tg iter:Expr}{ifs:List Expr}{pos:Pos}{wi:TI}{g:TG}{tc:TT}{te:TE}
theorem YC(S:fH X.N sc own caps X.env N')(hi:Rg X tg iter wi)
  (hg:∀C s₀ H₀ fp,PG (blk X sc N' C s₀ H₀ fp) tg g) (ht:∀C s₀ H₀ fp,Ks (blk X sc N' C s₀ H₀ fp) ifs tc) (he:∀C s₀ H₀ fp,PE (blk X sc N' C s₀ H₀ fp) elt te)
  (ee:e= .ListComp elt [⟨tg,iter,ifs,0⟩] sc pos) (hs:∀x,foldedSetIterable iter X.env x=pure x)
  (I:Inv X pins σ H s) (h:Gx own.length caps wi g tc te σ H Q)
  (fin:∀acc C H' s5,Inv X pins σ H' s5 ->Q (.ref acc) H' ->(∃m,s5.heap.Ns C m) ->H' C=none ->C≠X.env.locals ->X.s₀.heap.objs.size<=C ->(∀x c,X.env.cells.lookup x=some c ->c≠C) ->(∀p∈X.pn++pins,p.1≠C) ->C∉X.fs ->
   compPost (model X.prog X.w) X.A X.xe use Qv (.ref acc) C (.ok .next) s5):
  wpAny (model X.prog X.w) X.A (comprehension e sc X.env ps (newList []) false (eval iter X.env) use) Qv X.xe s:=by
 subst ee;refine wpAny_comprehension_free (g:=⟨tg,iter,ifs,0⟩) (gs:= []) (cl:=jj X.env sc.names []) rfl hs (z16 (Kq I S)) S.kind ?_ (bG (hi pins s σ H _ I h) fun v s1 h1=>bG h1 fun itv s2 h2=> ?_)
 ·intro p hp hk;have nd:=S.snd;rw[List.Nodup,List.pairwise_map] at nd;have d:∀(l:List (Str×NameKind)),(l.Pairwise fun a b=>a.1≠b.1) ->p∈l ->l.lookup p.1=some .local:=by
   intro l;induction l with
   | nil=>intro _ h;cases h
   | cons a r ih=>
    intro Q9 h1;obtain⟨p1,p2⟩:=List.pairwise_cons.mp Q9;rcases zT.mp h1 with e1 | h1
    ·subst e1;rw[List.lookup_cons];simp [hk]
    ·have hb:(p.1==a.1)=false:=by rw[beq_eq_false_iff_ne];exact Ne.symm (p1 p h1)
     rw[List.lookup_cons,hb];exact ih p2 h1
  exact d _ nd hp
 obtain⟨it,fp,tn,J,H2,cm,rfl,I2,T,st2,f2,R2,hcm⟩:=h2;have hp0:=I2.fresh;refine wpAny_newObj_type ?_;have I3:=I2.lnew (its:= []) (ys:= []) (t' :=s2.toks) .nil (Nat.zero_le _);generalize hacc:s2.heap.objs.size=acc at*;obtain⟨W,⟨m0,w0⟩,turn⟩:=R2 acc hp0;have f3:∀b∈fp,gF X pins (upd H2 acc (.lst [])) b:=fun b hb=>by
  refine⟨?_,(f2 b hb).2⟩;obtain⟨o,eo,_⟩:=T.obj _ _ st2 b hb;rw[dH (Nat.ne_of_lt (by rw[<- hacc];exact Heap.lt_size eo))]
  exact(f2 b hb).1
 have hc:∀C s₀,cm (blk X sc N' C s₀ (upd H2 acc (.lst [])) fp):=fun C s₀=>hcm _ rfl rfl fun b o u e=>by rw[show(blk X sc N' C s₀ (upd H2 acc (.lst [])) fp).H₀=upd H2 acc (.lst []) from rfl,dH (mC e hp0)];exact e
 have hlt:∀b∈fp,b< (s2.heap.push {cls:= .type "list",data:= .seq ([]:List Value).toArray}).objs.size:=fun b hb=>by
  obtain⟨o,eo,_⟩:=T.obj _ _ st2 b hb;rw[Heap.size_push];exact Nat.lt_succ_of_lt (zG eo)
 have st3:tn 0 (s2.heap.push {cls:= .type "list",data:= .seq ([]:List Value).toArray}):=T.keep _ _ _ st2 fun b hb o e=>zZ _ e;refine zt8 ?_;show codeAny _ _ (.compStart (.ListComp elt [⟨tg,iter,ifs,0⟩] sc pos) 0 (.ref it) (.ref acc) (fK sc (s2.heap.push {cls:= .type "list",data:= .seq ([]:List Value).toArray}).objs.size X.env)) (compPost _ _ _ use Qv (.ref acc) (s2.heap.push {cls:= .type "list",data:= .seq ([]:List Value).toArray}).objs.size) _;generalize hs3:({s2 with heap:=s2.heap.push {cls:= .type "list",data:= .seq ([]:List Value).toArray},toks:=s2.toks}:Shared)=s3 at*;have hh3:s2.heap.push {cls:= .type "list",data:= .seq ([]:List Value).toArray}=s3.heap:=by rw[<- hs3]
 have aaZ :({s2 with heap:=s2.heap.push {cls:= .type "list",data:= .seq ([]:List Value).toArray}}:Shared)=s3:=by rw[<- hs3]
 rw[hh3] at hlt st3⊢;have I4:=zwg I3 S f3 hlt;have YD:tn 0 (pushCells (s3.heap.push {cls:= .type "dict",data:= .dict #[]}) sc.names):=T.keep _ _ _ st3 fun b hb o e=>pushCells_keeps _ _ b o (zZ _ e);have key:codeAny (model X.prog X.w) X.A (.compLoop (.ListComp elt [⟨tg,iter,ifs,0⟩] sc pos) 0 (.ref it) (.ref acc) (fK sc s3.heap.objs.size X.env)) (compPost (model X.prog X.w) X.A X.xe use Qv (.ref acc) s3.heap.objs.size)
   {s3 with heap:=pushCells (s3.heap.push {cls:= .type "dict",data:= .dict #[]}) sc.names}:=by
  have stat:∀{H' :Hp},(∀b∈fp,H' b=none) ->∀b∈fp,gF (blk X sc N' s3.heap.objs.size s3 (upd H2 acc (.lst [])) fp) [] H' b:=fun hn b hb=>
   ⟨hn b hb,(I4.ok.Wr b hb).1,I4.ok.yu b hb,.inl hb,(I4.ok.Wr b hb).2,fun p hp=>absurd (show p∈ ([]:bD) from hp) (by simp)⟩
  refine zup (fun n s' =>∃i vs σ' H',Inv (blk X sc N' s3.heap.objs.size s3 (upd H2 acc (.lst [])) fp) [] σ' H' s' /\tn i s'.heap/\ (∀b∈fp,H' b=none)/\W i n vs H') ?_ m0
   ⟨0,[],ou own.length caps σ,_,I4,YD,fun b hb=>(f3 b hb).1,w0⟩
  rintro n s5 ⟨i,vs,σ5,H5,I5,BR,JX,w5⟩;obtain⟨ha5,Rh,⟨stop,qn⟩ | ⟨go,hz,step⟩⟩:=turn i n vs H5 w5
  ·refine bG (T.done (blk X sc N' s3.heap.objs.size s3 (upd H2 acc (.lst [])) fp) rfl rfl rfl (hc _ _) i [] s5 σ5 H5 _ I5 (stat JX) BR stop) fun r s6 ⟨hr,I6⟩=> ?_;subst hr;have IX:Inv X pins σ H5 s6:=I3.call' (ch:=fp) I6.os I6.base I6.hok I6.bare fun b hb=>⟨(f3 b hb).2.2.2.1,(f3 b hb).2.1,(f3 b hb).2.2.2.2.1,(f3 b hb).2.2.2.2.2⟩;obtain⟨m6,hn6,_⟩:=I6.loc;refine fin acc s3.heap.objs.size H5 s6 IX qn ⟨m6,hn6⟩ I6.free (Nat.ne_of_gt I3.lt) I3.sz (fun x c e z=> ?_) (fun p hp z=> ?_) (I3.nofs (zM _))
   ·obtain⟨v,q⟩:=I3.cell x c e;exact absurd q.lt (by rw[z];exact yV _)
   ·exact absurd (zG (I3.pin p hp).1) (by rw[z];exact yV _)
  ·
   have N8 :Inv (blk X sc N' s3.heap.objs.size s3 (upd H2 acc (.lst [])) fp) [] (ou own.length caps σ) H5 s5:=zt5 I3 S f3 I5;refine bG (T.item (blk X sc N' s3.heap.objs.size s3 (upd H2 acc (.lst [])) fp) rfl rfl rfl (hc _ _) i [] s5 _ H5 _ N8 (stat JX) BR go) fun r s6 ⟨u,hr,h6⟩=> ?_;subst hr;refine bG h6 fun _ s7 hq2=> ?_;obtain⟨x,H7,I7,r7,y7,Ri,fr7⟩:=hq2;have I7' :=I7.pinned (stat fr7) (T.obj _ _ Ri);refine bG (hg _ _ _ _ _ s7 _ H7 x u _ I7' r7 (step x H7 y7)) fun _ s8 ⟨σ8,H8,I8,q8⟩=> ?_;refine bG (ht _ _ _ _ _ s8 σ8 H8 _ I8 q8) fun b s9 ⟨H9,I9,q9⟩=> ?_;have again:∀{vs' :List V} {σ' :St} {H' :Hp} {s' :Shared},Inv (blk X sc N' s3.heap.objs.size s3 (upd H2 acc (.lst [])) fp) ([]++lu fp s7.heap) σ' H' s' ->(∃m',m' <n/\W (i+1) m' vs' H') ->
     ∃m,m<n/\∃i vs σ' H',Inv (blk X sc N' s3.heap.objs.size s3 (upd H2 acc (.lst [])) fp) [] σ' H' s' /\tn i s'.heap/\ (∀b∈fp,H' b=none)/\W i m vs H' :=fun{vs' σ' H' s'} I' ⟨m',hm,w'⟩=>by
    refine⟨m',hm,i+1,vs',σ',H',I'.unpinned,T.keep _ _ _ Ri fun b hb o e=>(I'.pin (b,o) (zP _ (zP _ (JV hb e)))).1,fun b hb=> ?_,w'⟩;obtain⟨o,e,d⟩:=T.obj _ _ Ri b hb;exact(I'.pin (b,o) (zP _ (zP _ (JV hb e)))).2.1
   cases b with
   | false=>
    rw[if_neg Bool.false_ne_true] at q9⊢;exact again I9 q9
   | true=>
    rw[if_pos rfl] at q9⊢;refine bG (he _ _ _ _ _ s9 σ8 H9 _ I9 q9) fun y s10 rD=> ?_;obtain⟨v,YF,I10,r10,Ac,q10⟩:=rD;refine bG (Xq (X:=blk X sc N' s3.heap.objs.size s3 (upd H2 acc (.lst [])) fp) _ s10 σ8 YF (.ref acc) [v] (.ref acc) [y] (fun _ H' =>H' =upd YF acc (.lst (vs++ [v]))) I10 rfl (.cons r10 .nil) ⟨acc,vs,v,rfl,rfl,Ac,hz,rfl⟩) fun _ s11 oK=> ?_;obtain⟨_,H11,I11,_,e11⟩:=oK;subst e11;exact again I11 q10
 exact codeAny_compStart_list key (T.self _ _ _ _ _ YD key)
end
def wO(K:W.Frag)(F Hx:Hp)(J:It)(ds:List D):Prop:=ds.length<=sizeLine/\∀(i:Nat) (H1 F1:Hp),Same F F1 ->Same F1 H1 ->Same Hx H1 ->
 (i=ds.length ->J.stop i H1)/\∀d,ds[i]?=some d ->J.go i H1/\∀x H',J.yld i H1 x H' ->∃F2,Gr F1 H1 F2 H' /\Rep K F2 d x
def Ad:Hp:=fun _=>none
theorem YG:Same Ad H:=fun _ _ e=>by cases e
def YH(K:W.Frag)(F0 H0:Hp)(t:bA)(E:XW):TI:=fun σ H R=>∃F Γ P,SR K F0 H0 F H σ Γ/\t Γ P E/\∀ds Γ' F' H' J Hx,SR K F0 H0 F' H' σ Γ' ->Same F F' ->Same Hx H' ->wO K F' Hx J ds ->P ds Γ' ->R J H'
def Rj(K:W.Frag)(F0 H0:Hp)(t:bA)(E:XW):TI:=fun σ H R=>∃F Γ P,SR K F0 H0 F H σ Γ/\t Γ P E/\∀ds Γ' F' H' J,SR K F0 H0 F' H' σ Γ' ->Same F F' ->wO K F' Ad J ds ->P ds Γ' ->R J H'
def QI(X:Cx)(F0 H0:Hp)(tg e:Expr)(t:bA):Prop:=∀z E,Ctx (X.wsh z) F0 H0 E ->PI (X.wsh z) tg e (Rj X.K F0 H0 t E)
def Rk(X:Cx)(F0 H0:Hp)(tg e:Expr)(t:bA):Prop:=∀z E,Ctx (X.wsh z) F0 H0 E ->PI (X.wsh z) tg e (YH X.K F0 H0 t E)
theorem Cu(h:PI X tg e t)(hi:∀σ H R,t' σ H R ->t σ H R):PI X tg e t' :=fun pins s σ H R I q=>h pins s σ H R I (hi _ _ _ q)
theorem mD(h:QI X F0 H0 tg e t):Rk X F0 H0 tg e t:=fun z E cx=>Cu (h z E cx) fun σ H R hq1=>by obtain⟨F,Γ,P,S,q,k⟩:=hq1;exact⟨F,Γ,P,S,q,fun ds Γ' F' H' J S' s' hJ hp=>k ds Γ' F' H' J Ad S' s' YG hJ hp⟩
def Gy(K:W.Frag)(tl:TE):TI:=fun σ H R=>tl σ H fun x H1=>∃a,x= .ref a/\ ((∃xs,fZ K H1 a xs/\ (xs.length<=sizeLine ->R (yE K a) H1))\/ (∃xs,je K H1 a xs/\ (xs.length<=sizeLine ->R (wH K a) H1)))
theorem z3z(hl:PE X l tl):PI X tg l (Gy X.K tl):=by
 intro pins s σ H R I h;refine bG (hl pins s σ H _ I h) fun v s1 hq2=> ?_;obtain⟨x,H1,I1,r1,q1⟩:=hq2;obtain⟨a,e,q⟩:=q1;subst e;cases r1;rcases q with ⟨xs,hq,q⟩ | ⟨xs,hq,q⟩
 ·obtain⟨its,rv,p,hz⟩:=I1.list hq;refine wpAny_pyIter_list p.isList ?_;refine⟨s1.heap.objs.size,[s1.heap.objs.size],_,_,H1,rfl,I1.kept (t' :=s1.toks) fun b o e=>zZ _ e,WQ a _,⟨_,zY _ rfl,rfl,rfl⟩,fun b hb=> ?_,q hz⟩;obtain rfl:b=s1.heap.objs.size:=by simpa using hb
  exact I1.fpOk (zM _) (I1.hok.fresh (zM _))
 ·obtain⟨its,rv,p,hz⟩:=I1.tuple hq;refine wpAny_pyIter_tuple (show s1.heap.IsTuple a its.toArray from p) ?_;refine⟨s1.heap.objs.size,[s1.heap.objs.size],_,_,H1,rfl,I1.kept (t' :=s1.toks) fun b o e=>zZ _ e,WR a _,⟨_,zY _ rfl,rfl,rfl⟩,fun b hb=> ?_,q hz⟩;obtain rfl:b=s1.heap.objs.size:=by simpa using hb
  exact I1.fpOk (zM _) (I1.hok.fresh (zM _))
theorem z3h{K:W.Frag}{F Hx:Hp}{a:Addr}{vs:List V}{ds:List D}(hq:∀H1,Same F H1 ->je K H1 a vs)(rs:ak K F ds vs)(hz:vs.length<=sizeLine):wO K F Hx (wH K a) ds:=by
 have hl:=iu rs;refine⟨by omega,fun i H1 F1 s1 s2 s3=>⟨fun e=>⟨vs,hq H1 (s1.trans s2),by omega⟩,fun d hd=> ?_⟩⟩
 obtain⟨v,hv,rv⟩:=oH rs hd;refine⟨⟨vs,v,hq H1 (s1.trans s2),hv⟩,fun x H' y=> ?_⟩;obtain⟨rfl,y⟩:=y;have:=y vs (hq _ (s1.trans s2));rw[hv] at this;cases this;exact⟨F1,Gr.refl s2,rv.up s1⟩
def iL(te:aK):bA:=fun Γ P E=>te Γ (fun d Γ1=>match d with | .lst ds=>P ds Γ1 | .tup ds=>P ds Γ1 | _=>False) E
section
variable{X:Cx}{F0 H0:Hp}{e tg:Expr}{es:List Expr}{pos:Pos}{te:aK}{g:jT}{gs:mG}{ti:bA}{tb:au}
theorem oO(h:QE X F0 H0 e te):QI X F0 H0 tg e (iL te):=fun z E cx=>Cu (z3z (h z E cx)) fun σ H R rD=>by obtain⟨F,Γ,P,S,q,k⟩:=rD;exact⟨F,Γ,_,S,q,fun d Γ1 F1 H1 v R1 s1 r1 h1=>by
 cases d with
 | lst ds=>
  unfold Rep at r1;obtain⟨a,vs,rfl,hq,rs⟩:=r1;refine⟨a,rfl,.inl ⟨vs,R1.g.seq hq,fun hz=>k ds Γ1 F1 H1 _ R1 s1 ?_ h1⟩⟩;refine⟨by rw[iu rs];exact hz,fun i H2 F2 s2 s3 s4=>⟨fun e=>⟨vs,s3.seq (s2.seq hq),by rw[e,iu rs];exact zM _⟩,fun d hd=> ?_⟩⟩
  obtain⟨v,hv,rv⟩:=oH rs hd;refine⟨⟨vs,v,s3.seq (s2.seq hq),hv⟩,fun x H' y=> ?_⟩;obtain⟨rfl,y⟩:=y;have:=y vs (s3.seq (s2.seq hq));rw[hv] at this;cases this;exact⟨F2,Gr.refl s3,rv.up s2⟩
 | tup ds=>
  unfold Rep at r1;obtain⟨a,vs,rfl,hq,rs⟩:=r1;exact⟨a,rfl,.inr ⟨vs,lA R1.g hq,fun hz=>k ds Γ1 F1 H1 _ R1 s1 (z3h (fun H2 s=>lA s hq) rs hz) h1⟩⟩
 | _=>exact False.elim h1⟩
def oR(ti:bA)(g:jT)(tb:au):au:=fun D0 Γ E=>ti Γ (fun ds Γ1=>mR ds g tb D0 E Γ1) E
theorem Rm(hc:X.calm=true)(hi:QI X F0 H0 tg iter ti)(hg:QG X F0 H0 tg g)(hb:qK X F0 H0 body tb)(hs:∀x,foldedSetIterable iter X.env x=pure x:=by intro _;rfl):
  QS X F0 H0 (.For tg iter body [] pos) (oR ti g tb):=fun z E cx=>
 n6 (JW (X:=X.wsh z) cx.po hc (hi z E cx) (hg z E cx) (hb z E cx) hs) fun Dn σ H oK=>by obtain⟨F,Γ,D2,R,h,k⟩:=oK;exact⟨F,Γ,_,R,h,fun ds Γ1 F1 H1 J R1 s1 hJ h1=>by
  obtain⟨I,i0,turn,done⟩:=h1;refine⟨fun i m σ H=>m=ds.length - i/\i<=ds.length/\∃F2 Γ2,SR X.K F0 H0 F2 H σ Γ2/\Same F1 F2/\I i Γ2,⟨ds.length,by simp,Nat.zero_le _,F1,Γ1,R1,.refl _,i0⟩,?_⟩
  rintro i m σ H ⟨rfl,hi,F2,Γ2,R2,s2,hI⟩;obtain⟨hstop,hgo⟩:=hJ.2 i H F2 s2 R2.g YG;by_cases hlt:i<ds.length
  ·obtain⟨go,yl⟩:=hgo ds[i] (zX hlt);refine .inr ⟨go,fun σ H=>∃F2 Γ2,SR X.K F0 H0 F2 H σ Γ2/\Same F1 F2/\I (i+1) Γ2,fun σ' H' p' =>⟨ds.length - (i+1),by omega,rfl,hlt,p'⟩,fun x H' y=> ?_⟩
   obtain⟨F3,gr,rx⟩:=yl x H' y;exact⟨F3,Γ2,_,ds[i],R2.grow gr,rx,turn i ds[i] Γ2 (zX hlt) hI,fun Γ4 F4 H4 σ4 R4 s4 p=>⟨F4,Γ4,{D2 with nx:=I (i+1),ct:=I (i+1),bk:=D2.nx},R4,p,⟨fun Γ5 F5 H5 σ5 R5 s5 q=>⟨F5,Γ5,R5,s2.trans (gr.f.trans (s4.trans s5)),q⟩,
    fun Γ5 F5 H5 σ5 R5 s5 q=>k.nx _ _ _ _ R5 (s1.trans (s2.trans (gr.f.trans (s4.trans s5)))) q,fun Γ5 F5 H5 σ5 R5 s5 q=>⟨F5,Γ5,R5,s2.trans (gr.f.trans (s4.trans s5)),q⟩,k.rt,k.rf,k.rT,k.rm⟩⟩⟩
  ·obtain rfl:i=ds.length:=by omega
   exact .inl ⟨hstop rfl,k.nx _ _ _ _ R2 (s1.trans s2) (done _ hI)⟩⟩
def tL(Γ:G2)(j:Nat):Slot:=match Γ[j]? with | some (.pu d)=> .pu d | _=> .no
def lG(own:Nat)(caps:List Nat)(Γ:G2):G2:=List.replicate own .no++caps.map (tL Γ)
theorem zz8{K:W.Frag}{F H:Hp}{σ:St}{Γ:G2}(own:Nat)(caps:List Nat)(R:SR K F0 H0 F H σ Γ):SR K F H F H (ou own caps σ) (lG own caps Γ):=by
 have len:(ou own caps σ).length=(lG own caps Γ).length:=by simp [ou,lG]
 have Ae:∀(i:Nat) s o a,(lG own caps Γ)[i]?=some s ->¬eZ s o a:=fun i s o a e=>by
  unfold lG at e;by_cases hi:i<own
  ·rw[List.getElem?_append_left (by simpa using hi),List.getElem?_replicate] at e
   rw[if_pos hi] at e;cases e;exact fun h=>h
  ·rw[List.getElem?_append_right (by simpa using hi),List.getElem?_map] at e
   cases q:caps[i - (List.replicate own Slot.no).length]? with
   | none=>rw[q] at e;cases e
   | some j=>
    rw[q] at e;have e' :tL Γ j=s:=by simpa using e
    unfold tL at e';split at e' <;>(subst e';exact fun h=>h)
 refine⟨Gr.refl R.g,len,fun i s e=> ?_,fun i j a uX=>by obtain⟨s,o,e,_,h⟩:=uX;exact absurd h (Ae i s o a e)⟩
 by_cases hi:i<own
 ·refine⟨none,?_,?_⟩
  ·unfold ou;rw[List.getElem?_append_left (by simpa using hi),List.getElem?_replicate,if_pos hi]
  ·unfold lG at e;rw[List.getElem?_append_left (by simpa using hi),List.getElem?_replicate,if_pos hi] at e
   cases e;trivial
 ·unfold lG at e;rw[List.getElem?_append_right (by simpa using hi),List.getElem?_map,List.length_replicate] at e
  cases q:caps[i - own]? with
  | none=>rw[q] at e;cases e
  | some j=>
   rw[q] at e;have e' :tL Γ j=s:=by simpa using e
   refine⟨(σ[j]?).join,?_,?_⟩
   ·unfold ou;rw[List.getElem?_append_right (by simpa using hi),List.getElem?_map,List.length_replicate,q];rfl
   ·unfold tL at e';split at e'
    ·rename_i d hd;subst e';obtain⟨o,e1,v,rfl,rv⟩:=R.sl j _ hd;exact⟨v,by rw[e1];rfl,rv⟩
    ·subst e';trivial
def p8(g:jT)(tc:TT2)(te:aK)(Γ0:G2)(x:D)(P:List D ->Prop):Prop:=g x Γ0 (fun Γ1=>tc Γ1 (fun b Γ2=>if b=true then te Γ2 (fun d _=>P [d]) lF else P []) lF) lF
def aX(one:D ->(List D ->Prop) ->Prop):List D ->(List D ->Prop) ->Prop
 | [],P=>P []
 | x::xs,P=>one x fun ys=>aX one xs fun zs=>P (ys++zs)
def bY(own:Nat)(caps:List Nat)(ti:bA)(g:jT)(tc:TT2)(te:aK):bA:=fun Γ P E=>ti Γ (fun ds Γ1=>aX (p8 g tc te (lG own caps Γ1)) ds fun ys=>P ys Γ1) E
def gM:TT2:=fun Γ P _=>P true Γ
def Gz(X:Cx)(F0 H0:Hp)(ifs:List Expr)(t:TT2):Prop:=∀z E,Ctx (X.wsh z) F0 H0 E ->Ks (X.wsh z) ifs (Gb X.K F0 H0 t E)
theorem qN:Gz X F0 H0 [] gM:=fun z E cx pins s σ H Q I zc=>by obtain⟨F,Γ,P,R,h,k⟩:=zc;exact z3r pins s σ H Q I (k _ _ _ _ R (.refl _) h)
theorem wQ(h:QT X F0 H0 c t):Gz X F0 H0 [c] t:=fun z E cx=>z3s (h z E cx)
end
section
variable{X:Cx}{F0 H0:Hp}{elt tg iter:Expr}{ifs:List Expr}{sc:Scope}{own:List Str}{caps:List Nat}{N' :List Str}{pos:Pos}{te:aK}{g:jT}{tc:TT2}{ti:bA}
def gX(K:W.Frag)(g:jT):TG:=fun v σ H Q=>∃F0 H0,Ka K F0 H0 g lF v σ H Q
def tX(K:W.Frag)(t:TT2):TT:=fun σ H Q=>∃F0 H0,Gb K F0 H0 t lF σ H Q
def eX(K:W.Frag)(t:aK):TE:=fun σ H Q=>∃F0 H0,yR K F0 H0 t lF σ H Q
theorem YJ(gr:Gr F H F' H')(h:F a=none)(e:H a=some (.lst vs)):F' a=none:=by
 cases q:F' a with
 | none=>rfl
 | some u=>
  rcases gr.n a u q h with z | ⟨⟨xs,e'⟩,z⟩
  ·rw[e] at z;cases z
  ·rw[e] at z;cases z;cases e'
theorem YK{K:W.Frag}{F H:Hp}{σ:St}{Γ:G2}{J:It}{Hx:Hp}{ds:List D}{acc:Addr}{P:List D ->Prop}{Q:V ->Hp ->Prop}(R:SR K F0 H0 F H σ Γ)(hJ:wO K F Hx J ds)(hx:Same Hx H)(ha:H acc=none)
  (h:aX (p8 g tc te (lG own.length caps Γ)) ds P)
  (fin:∀ys F' H' vs,SR K F0 H0 F' H' σ Γ ->Same F F' ->H' acc=some (.lst vs) ->F' acc=none ->H0 acc=none ->ak K F' ys vs ->Apart σ Γ acc ->P ys ->Q (.ref acc) H'):
  wN acc J (ou own.length caps σ) (gX K g) (tX K tc) (eX K te) Q (upd H acc (.lst [])):=by
 obtain⟨R1,e1,e2,e3,ap⟩:=vO (ds:= []) (vs:= []) R ha (by unfold ak;rfl)
 have hx1:Same Hx (upd H acc (.lst [])):=fun b u e=>by rw[dH (mC (hx b u e) ha)];exact hx b u e
 have xa:∀u,Hx acc≠some u:=fun u e=>by rw[hx acc u e] at ha;cases ha
 refine⟨fun i m vs H' =>m=ds.length - i/\i<=ds.length/\∃F' ys,SR K F0 H0 F' H' σ Γ/\Same F F' /\Same Hx H' /\H' acc=some (.lst vs)/\F' acc=none/\ak K F' ys vs/\vs.length<=i/\aX (p8 g tc te (lG own.length caps Γ)) (ds.drop i) (fun zs=>P (ys++zs)),
  ⟨ds.length,by simp,Nat.zero_le _,F,[],R1,.refl _,hx1,e1,e2,by unfold ak;rfl,zM _,by simpa using h⟩,?_⟩
 rintro i m vs H' ⟨rfl,hi,F',ys,R',sF,hx',ha',Rn,rs,lv,hc⟩;have hz:=hJ.1;refine⟨ha',by omega,?_⟩
 obtain⟨hstop,hgo⟩:=hJ.2 i H' F' sF R'.g hx';by_cases hlt:i<ds.length
 ·obtain⟨go,yl⟩:=hgo ds[i] (zX hlt);refine .inr ⟨go,by omega,fun x H2 y=> ?_⟩
  obtain⟨F2,gr,rx⟩:=yl x H2 y;rw[List.drop_eq_getElem_cons hlt] at hc;have R2:=R'.grow gr;refine⟨F2,H2,F2,lG own.length caps Γ,_,ds[i],zz8 own.length caps R2,rx,hc,fun Γ3 F3 H3 σ3 R3 s3 q3=> ?_⟩;refine⟨F2,H2,F3,Γ3,_,R3,q3,fun b Γ4 F4 H4 R4 s4 q4=> ?_⟩;have Cw:Gr F' H' F4 H4:=gr.trans R4.gr;cases b with
  | false=>
   rw[if_neg Bool.false_ne_true] at q4;show∃m',m' <ds.length - i/\_;refine⟨ds.length - (i+1),by omega,rfl,hlt,F4,ys,R'.grow Cw,sF.trans Cw.f,fun b u e=>Cw.h b u (hx' b u e),Cw.h _ _ ha',YJ Cw Rn ha',rs.up Cw.f,by omega,?_⟩
   simpa using q4
  | true=>
   rw[if_pos rfl] at q4;show eX K te σ3 H4 _;refine⟨F2,H2,F4,Γ4,_,R4,q4,fun d Γ5 F5 H5 v R5 s5 rv q5=> ?_⟩;have Cy:Gr F' H' F5 H5:=gr.trans R5.gr;have a5:=Cy.h _ _ ha';have f5:=YJ Cy Rn ha';refine⟨a5,ds.length - (i+1),by omega,rfl,hlt,F5,ys++ [d],?_,sF.trans Cy.f,fun b u e=> ?_,mQ,f5,yO (rs.up Cy.f) (FN rv),by simp;omega,?_⟩
   ·have R6:=R'.grow Cy;refine⟨⟨R6.gr.f,fun b u e=> ?_,fun b u e=> ?_,R6.gr.n⟩,R6.len,fun j sl e=> ?_,R6.ap⟩
    ·rw[dH (mC e f5)];exact R6.g b u e
    ·rw[dH (mC e e3)];exact R6.gr.h b u e
    ·obtain⟨o,p1,p2⟩:=R6.sl j sl e;refine⟨o,p1,FP p2 (.refl _) fun c hc=>⟨(uV p2 hc).1,fun u q=> ?_⟩⟩;have:c≠acc:=fun z=>by subst z;exact ap j ⟨sl,o,e,p1,hc⟩
     rw[dH this];exact q
   ·rw[dH (fun z=>xa u (by rw[<- z];exact e))];exact Cy.h b u (hx' b u e)
   ·simpa [List.append_assoc] using q5
 ·obtain rfl:i=ds.length:=by omega
  refine .inl ⟨hstop rfl,fin ys F' H' vs R' sF ha' Rn e3 rs ap ?_⟩;rw[List.drop_length] at hc
  simpa [aX] using hc
structure dw (N:List Str) (sc:Scope) (own:List Str) (caps:List Nat) (GC:Scope) (N' :List Str):Prop where
 kind:sc.kind= .function
 nd:N'.Nodup
 snd:(sc.names.map (·.1)).Nodup
 free:∀p∈sc.names,p.2= .free ->GC.names.lookup p.1=some .cell\/GC.names.lookup p.1=some .free
 names:N' =own++caps.map fun j=>N.getD j ""
 caps:∀j∈caps,j<N.length/\sc.names.lookup (N.getD j "")=some .free
theorem dw.cs(h:dw X.N sc own caps X.env.scope N'):fH X.N sc own caps X.env N' :=⟨h.kind,h.nd,h.snd,h.free,h.names,h.caps⟩
def QIg(X:Cx)(F0 H0:Hp)(tg e:Expr)(t:bA):Prop:=∀z E,Ctx (X.wsh z) F0 H0 E ->Rg (X.wsh z) tg e (YH X.K F0 H0 t E)
theorem zx8(S:dw X.N sc own caps X.env.scope N')(hi:QIg X F0 H0 tg iter ti)
  (hg:∀C s₀ H₀ fp F0 H0,QG (blk X sc N' C s₀ H₀ fp) F0 H0 tg g) (ht:∀C s₀ H₀ fp F0 H0,Gz (blk X sc N' C s₀ H₀ fp) F0 H0 ifs tc) (he:∀C s₀ H₀ fp F0 H0,QE (blk X sc N' C s₀ H₀ fp) F0 H0 elt te)
  (hn:own.length=n:=by rfl) (hs:∀x,foldedSetIterable iter X.env x=pure x:=by intro _;rfl):QF X F0 H0 (.ListComp elt [⟨tg,iter,ifs,0⟩] sc pos) (bY n caps ti g tc te):=by
 subst hn;rintro z E cx pins s σ H Q I ⟨F,Γ,P,R,h,k⟩;rw[show eval (.ListComp elt [⟨tg,iter,ifs,0⟩] sc pos) (X.wsh z).env=comprehension (.ListComp elt [⟨tg,iter,ifs,0⟩] sc pos) sc X.env _ (newList []) false (eval iter X.env) from eval_ListComp ..];refine YC (X:=X.wsh z) (g:=gX X.K g) (tc:=tX X.K tc) (te:=eX X.K te) (Q:=Q) (dw.cs (X:=X.wsh z) S) (hi z E cx) ?_ ?_ ?_ rfl hs I ?_ ?_
 ·rintro C s₀ H₀ fp pins s σ H v u Q I r ⟨tM,tO,q⟩;exact hg C s₀ H₀ fp tM tO ⟨fun _ _=>False,[]⟩ lF Cm pins s σ H v u Q I r q
 ·rintro C s₀ H₀ fp pins s σ H Q I ⟨tM,tO,q⟩;exact ht C s₀ H₀ fp tM tO ⟨fun _ _=>False,[]⟩ lF Cm pins s σ H Q I q
 ·rintro C s₀ H₀ fp pins s σ H Q I ⟨tM,tO,q⟩;exact he C s₀ H₀ fp tM tO ⟨fun _ _=>False,[]⟩ lF Cm pins s σ H Q I q
 ·exact⟨F,Γ,_,R,h,fun ds Γ1 F1 H1 J Hx R1 s1 hx hJ h1 acc ha=>YK R1 hJ hx ha h1 fun ys F' H' vs R' sF a1 a2 a3 rs ap hp=>k ys Γ1 F' H' acc vs R' (s1.trans sF) a1 a2 a3 rs ap hp⟩
 ·rintro acc C H' s5 I5 q5 ⟨m,hn⟩ c1 c2 c3 c4 c5 c6;exact⟨m,hn,fun h' hs' =>⟨.ref acc,H',I5.turned (t' :=s5.toks) (it:=C) (fun b o hb e=>(hs'.2 b hb).trans e) c1 c2 (.inr c3) c4 c5,rfl,q5⟩⟩
theorem oU(S:dw X.N sc own caps X.env.scope N')(hc:X.calm=true)(hi:Rk X F0 H0 tg iter ti)
  (hg:∀C s₀ H₀ fp F0 H0,QG (blk X sc N' C s₀ H₀ fp) F0 H0 tg g) (ht:∀C s₀ H₀ fp F0 H0,Gz (blk X sc N' C s₀ H₀ fp) F0 H0 ifs tc) (he:∀C s₀ H₀ fp F0 H0,QE (blk X sc N' C s₀ H₀ fp) F0 H0 elt te)
  (hn:own.length=n:=by rfl) (hs:∀x,foldedSetIterable iter X.env x=pure x:=by intro _;rfl):QF X F0 H0 (.ListComp elt [⟨tg,iter,ifs,0⟩] sc pos) (bY n caps ti g tc te):=zx8 S (fun z E cx=>YB hc (hi z E cx)) hg ht he hn hs
theorem GD(hN:X.N.Nodup)(hi' :X.N[i]?=some y)(hy:X.env.scope.names.lookup y=some .local)(S:dw X.N sc own caps X.env.scope N')(hc:X.calm=true)(hi:Rk X F0 H0 tg iter ti)
  (hg:∀C s₀ H₀ fp F0 H0,QG (blk X sc N' C s₀ H₀ fp) F0 H0 tg g) (ht:∀C s₀ H₀ fp F0 H0,Gz (blk X sc N' C s₀ H₀ fp) F0 H0 ifs tc) (he:∀C s₀ H₀ fp F0 H0,QE (blk X sc N' C s₀ H₀ fp) F0 H0 elt te)
  (hn:own.length=n:=by rfl) (hsw:swapsWith (.ListComp elt [⟨tg,iter,ifs,0⟩] sc pos) (some (.Name y py)) spos.line X.env=pure true:=by rfl) (hs:∀x,foldedSetIterable iter X.env x=pure x:=by intro _;rfl):
  QS X F0 H0 (.Assign [.Name y py] (.ListComp elt [⟨tg,iter,ifs,0⟩] sc pos) spos) (gG i (bY n caps ti g tc te)):=by
 subst hn;rintro z E cx pins s σ H Dn I ⟨F,Γ,D2,R,h,k⟩;show wpAny _ _ (exec (.Assign [.Name y py] (.ListComp elt [⟨tg,iter,ifs,0⟩] sc pos) spos) X.env) _ _ _;rw[exec_Assign_Name_used _ _ _ _ hsw];refine z8 (wpAny_standAt (z8 ?_));show wpAny _ _ (do let _<- comprehension (.ListComp elt [⟨tg,iter,ifs,0⟩] sc pos) sc X.env _ (newList []) false (eval iter X.env) (some (assign (.Name y py) X.env))) _ _ s;refine z8 (wpAny_mono (YC (X:=X.wsh z) (use:=some (assign (.Name y py) X.env)) (Qv:=fun _ s' =>SP (X.wsh z) pins Dn .next s') (g:=gX X.K g) (tc:=tX X.K tc) (te:=eX X.K te) (Q:=fun v H' =>Dn.nx (σ.set i (some v)) H') (dw.cs (X:=X.wsh z) S) (YB hc (hi z E cx)) ?_ ?_ ?_ rfl hs I ?_ ?_) (fun _ s' hq=>z9 (z9 hq)) fun _ _ e=>e)
 ·rintro C s₀ H₀ fp pins s σ H v u Q I r ⟨tM,tO,q⟩;exact hg C s₀ H₀ fp tM tO ⟨fun _ _=>False,[]⟩ lF Cm pins s σ H v u Q I r q
 ·rintro C s₀ H₀ fp pins s σ H Q I ⟨tM,tO,q⟩;exact ht C s₀ H₀ fp tM tO ⟨fun _ _=>False,[]⟩ lF Cm pins s σ H Q I q
 ·rintro C s₀ H₀ fp pins s σ H Q I ⟨tM,tO,q⟩;exact he C s₀ H₀ fp tM tO ⟨fun _ _=>False,[]⟩ lF Cm pins s σ H Q I q
 ·exact⟨F,Γ,_,R,h,fun ds Γ1 F1 H1 J Hx R1 s1 hx hJ h1 acc ha=>YK R1 hJ hx ha h1 fun ys F' H' vs R' sF a1 a2 a3 rs ap hp=>k.nx _ _ _ _ (R'.setOw i a1 a2 a3 rs ap) (s1.trans sF) hp⟩
 ·rintro acc C H' s5 I5 q5 ⟨m,hn⟩ c1 c2 c3 c4 c5 c6;show wpAny _ _ (assign (.Name y py) X.env (.ref acc)) _ _ _;refine wpAny_assign_Name (Wu (X:=X.wsh z) I5 hN hi' (.inl hy) (v:= .ref acc) rfl (fun s6 I6 ⟨a,hsb,ha⟩=> ?_) (.inr hy));have ha' :a=X.env.locals\/X.env.cells.lookup y=some a:=ha;have hac:C≠a:=by
   rcases ha' with rfl | ha'
   ·exact c2
   ·exact fun z=>c4 y a ha' z.symm
  refine⟨m,hn.sameBut hsb hac,fun h' hs' =>⟨_,H',I6.turned (t' :=s6.toks) (it:=C) (fun b o hb e=>(hs'.2 b hb).trans e) c1 c2 (.inr c3) c4 c5,q5⟩⟩
end
def rH(K:W.Frag)(g:List D ->(List D ->Prop) ->Prop):List V ->Hp ->VK ->Prop:=fun vs H Q=>∃F ds P,Same F H/\ak K F ds vs/\g ds P/\∀es us l,ak K F es us ->H l=none ->P es ->Q (.ref l) (upd H l (.lst us))
section
variable{X:Cx}{F0 H0:Hp}{a b e:Expr}{es:List Expr}{pos p p2:Pos}{ta tb te:aK}{t:bA}{x:Str}
def pO(g:List D ->(List D ->Prop) ->Prop)(t:bA):bA:=fun Γ P E=>t Γ (fun ds Γ1=>g ds fun es=>P es Γ1) E
theorem YL{K:W.Frag}{g:List D ->(List D ->Prop) ->Prop}{E:XW}{σ:St}{H:Hp}{Q:VK}(h:X6 K F0 H0 (pO g t) E σ H Q):Fe (rH K g) (Gd K F0 H0 t E) σ H Q:=by
 obtain⟨F,Γ,P,R,h,k⟩:=h;refine⟨F,Γ,_,R,h,fun ds Γ1 F1 H1 vs R1 s1 r1 h1=>⟨F1,ds,_,R1.g,r1,h1,fun es us l r hl hp=> ?_⟩⟩;obtain⟨R2,e1,e2,e3,ap⟩:=vO R1 hl r;exact k es Γ1 F1 _ l us R2 s1 e1 e2 e3 r ap hp
theorem YM{id:String}{g:List D ->(List D ->Prop) ->Prop}(hc:∀z,cP (X.wsh z) (.builtin id) (rH X.K g))(hg:Gl X x)(hm:X.mg x=none)(hv:bootBuiltins x=some (.builtin id))(ha:QA X F0 H0 (e::es) t)(hn:x≠ "__name__" :=by decide)(hdb:(x==("__debug__" :Str))=false:=by decide)
  (he:starEach (e::es) X.env=(false,eval e X.env)::starEach es X.env:=by rfl) (hpl:(backTo pos (starEach es X.env)).any (·.1)=false:=by rfl):QF X F0 H0 (.Call (.Name x p) (e::es) [] pos) (pO g t):=fun z E cx=>
 jh (Fg (X:=X.wsh z) (hc z) hg hm hv (ha z E cx) hn hdb he hpl) fun _ _ _ h=>YL h
theorem Ku{T:String}{g:List D ->(List D ->Prop) ->Prop}(hc:∀z,cP (X.wsh z) (.type T) (rH X.K g))(hg:Gl X x)(hm:X.mg x=none)(hv:bootBuiltins x=some (.type T))(ha:QA X F0 H0 (e::es) t)(hn:x≠ "__name__" :=by decide)(hdb:(x==("__debug__" :Str))=false:=by decide)
  (he:starEach (e::es) X.env=(false,eval e X.env)::starEach es X.env:=by rfl) (hpl:(backTo pos (starEach es X.env)).any (·.1)=false:=by rfl):QF X F0 H0 (.Call (.Name x p) (e::es) [] pos) (pO g t):=fun z E cx=>
 jh (Ou (X:=X.wsh z) (hc z) hg hm hv (ha z E cx) hn hdb he hpl) fun _ _ _ h=>YL h
theorem YQ{T:String}{g:List D ->(D ->Prop) ->Prop}(hc:∀z,cP (X.wsh z) (.type T) (oN X.K g))(hg:Gl X x)(hm:X.mg x=none)(hv:bootBuiltins x=some (.type T))(ha:QA X F0 H0 (e::es) t)(hn:x≠ "__name__" :=by decide)(hdb:(x==("__debug__" :Str))=false:=by decide)
  (he:starEach (e::es) X.env=(false,eval e X.env)::starEach es X.env:=by rfl) (hpl:(backTo pos (starEach es X.env)).any (·.1)=false:=by rfl):QE X F0 H0 (.Call (.Name x p) (e::es) [] pos) (mH g t):=fun z E cx=>
 jh (Ou (X:=X.wsh z) (hc z) hg hm hv (ha z E cx) hn hdb he hpl) fun _ _ _ h=>Ys h
end
def Cz:List D ->(List D ->Prop) ->Prop:=fun ds P=>match ds with | [.lst xs]=>P xs | [.tup xs]=>P xs | _=>False
theorem Ro:cP X (.type "list") (rH X.K Cz):=by
 rintro pins s σ H xs us Q I r ⟨F,ds,P,sF,rs,h,k⟩;unfold Cz at h;split at h
 ·unfold ak ak Rep at rs;obtain⟨v,_,rfl,⟨p,vs,rfl,hq,rs⟩,rfl⟩:=rs;exact Xp pins s σ H _ us Q I r ⟨p,vs,rfl,.inl (sF.seq hq),fun l hl=>k _ _ l rs hl h⟩
 ·unfold ak ak Rep at rs;obtain⟨v,_,rfl,⟨p,vs,rfl,hq,rs⟩,rfl⟩:=rs;exact Xp pins s σ H _ us Q I r ⟨p,vs,rfl,.inr (lA sF hq),fun l hl=>k _ _ l rs hl h⟩
 ·exact h.elim
def z15:List D ->(D ->Prop) ->Prop:=fun ds P=>match ds with | [.lst xs]=>P (.tup xs) | [.tup xs]=>P (.tup xs) | _=>False
def cutD(xs:List D)(lo hi:Option Int):List D:=(xs.drop (HT.sIx xs.length 0 lo)).take (HT.sIx xs.length xs.length hi - HT.sIx xs.length 0 lo)
theorem zzi{K:W.Frag}{F:Hp}{ds:List D}{vs:List V}(r:ak K F ds vs)(lo hi:Option Int):ak K F (cutD ds lo hi) (pR vs lo hi):=by
 unfold cutD pR;rw[iu r];exact XR _ (XS _ r)
abbrev uZ:=G2 ->(Option Int ->G2 ->Prop) ->XW ->Prop
def upO(K:W.Frag)(F0 H0:Hp)(t:uZ)(E:XW):TO:=fun σ H Q=>∃F Γ P,SR K F0 H0 F H σ Γ/\t Γ P E/\∀o Γ' F' H',SR K F0 H0 F' H' σ Γ' ->Same F F' ->P o Γ' ->Q o H'
def QO(X:Cx)(F0 H0:Hp)(e:Option Expr)(t:uZ):Prop:=∀z E,Ctx (X.wsh z) F0 H0 E ->PO (X.wsh z) e (upO X.K F0 H0 t E)
theorem YS(h:PO X e t)(hi:∀σ H Q,t' σ H Q ->t σ H Q):PO X e t' :=fun pins s σ H Q I q=>h pins s σ H Q I (hi _ _ _ q)
def CG:uZ:=fun Γ P _=>P none Γ
def CJ(te:aK):uZ:=fun Γ P E=>te Γ (fun d Γ1=>match d with | .int i=>P (some i) Γ1 | _=>False) E
section
variable{X:Cx}{F0 H0:Hp}{a b e:Expr}{es:List Expr}{pos p p2:Pos}{ta tb te:aK}{t:bA}{x:Str}{lo hi:Option Expr}{tl th:uZ}
theorem Kv:QO X F0 H0 none CG:=fun z E cx=>YS z1z fun σ H Q hq1=>by obtain⟨F,Γ,P,R,h,k⟩:=hq1;exact k _ _ _ _ R (.refl _) h
theorem Kw(h:QE X F0 H0 e te):QO X F0 H0 (some e) (CJ te):=fun z E cx=>YS (z2c (h z E cx)) fun σ H Q hq2=>by obtain⟨F,Γ,P,R,h,k⟩:=hq2;exact⟨F,Γ,_,R,h,fun d Γ1 F1 H1 v R1 s1 r q=>by
 cases d with
 | int i=>unfold Rep at r;exact⟨i,r,k _ _ _ _ R1 s1 q⟩
 | _=>exact False.elim q⟩
def CK(te:aK)(tl th:uZ):bA:=fun Γ P E=>te Γ (fun d Γ1=>tl Γ1 (fun l Γ2=>th Γ2 (fun u Γ3=>match d with | .lst xs=>P (cutD xs l u) Γ3 | _=>False) E) E) E
theorem Ky(he:QE X F0 H0 e te)(hl:QO X F0 H0 lo tl)(hh:QO X F0 H0 hi th):QF X F0 H0 (.Subscript e (.Slice lo hi none p2) pos) (CK te tl th):=fun z E cx=>
 jh (zx1 z1p (he z E cx) (hl z E cx) (hh z E cx)) fun σ H Q rD=>by obtain⟨F,Γ,P,R,h,k⟩:=rD;exact⟨F,Γ,_,R,h,fun d Γ1 F1 H1 v R1 s1 r1 h1=>⟨F1,Γ1,_,R1,h1,fun l Γ2 F2 H2 R2 s2 h2=>⟨F2,Γ2,_,R2,h2,fun u Γ3 F3 H3 R3 s3 h3=>by
  cases d with
  | lst xs=>
   have r3:=r1.up (s2.trans s3);unfold Rep at r3;obtain⟨a,vs,rfl,hq,rs⟩:=r3;refine⟨a,vs,rfl,R3.g.seq hq,fun p hp=> ?_⟩;have rc:=zzi rs l u;obtain⟨R4,e1,e2,e3,ap⟩:=vO R3 hp rc;exact k _ Γ3 F3 _ p _ R4 (s1.trans (s2.trans s3)) e1 e2 e3 rc ap h3
  | _=>exact False.elim h3⟩⟩⟩
def Af(te:aK):bA:=fun Γ P E=>te Γ (fun d Γ1=>match d with | .lst xs=>P xs.reverse Γ1 | _=>False) E
theorem YT{K:W.Frag}{F:Hp}:∀{ds:List D} {vs:List V},ak K F ds vs ->ak K F ds.reverse vs.reverse
 | [],_,h=>by unfold ak at h;subst h;unfold ak;rfl
 | d::ds,_,h=>by
  unfold ak at h;obtain⟨v,r,rfl,h1,h2⟩:=h;rw[List.reverse_cons,List.reverse_cons];exact yO (YT h2) (FN h1)
theorem z53{k1}{p3 p4:Pos}(he:QE X F0 H0 e te):QF X F0 H0 (.Subscript e (.Slice none none (some (.UnaryOp .USub (.Constant (.int 1) k1 p3) p4)) p2) pos) (Af te):=fun z E cx=>by
 rintro pins s σ H Q I ⟨F,Γ,P,R,h,k⟩;refine Subscript_ (bG (he z E cx pins s σ H (fun v H1=>∃F1 Γ1 d,SR X.K F0 H0 F1 H1 σ Γ1/\Same F F1/\Rep X.K F1 d v/\ (match d with | .lst xs=>P xs.reverse Γ1 | _=>False)) I ⟨F,Γ,_,R,h,fun d Γ1 F1 H1 v R1 s1 r1 h1=>⟨F1,Γ1,d,R1,s1,r1,h1⟩⟩) fun v s1 oK=> ?_)
 obtain⟨x,H1,I1,r1,F1,Γ1,d,R1,sF,rd,q1⟩:=oK;cases d with
 | lst xs=>
  unfold Rep at rd;obtain⟨a,vs,rfl,hq,rs⟩:=rd;cases r1;refine wpAny_Slice ?_;rw[evalPart_none];refine z9 (z9 ?_);rw[evalPart_some];refine bG (W0 (X:=X.wsh z) W4 Ww pins s1 σ H1 (fun v H' =>v= .int (-1)/\H' =H1) I1 ⟨1,rfl,rfl,rfl⟩) fun u s2 uX=> ?_;obtain⟨y,H2,I2,r2,hy,hH⟩:=uX;rw[hy] at r2;rw[hH] at I2;obtain⟨t,rfl⟩:=r2;have I4:Inv (X.wsh z) pins σ H1 {s2 with heap:=s2.heap.push {cls:= .type "slice",data:= .fields #[.none,.none,.int (-1) t]}}:=I2.kept (t' :=s2.toks) fun b ob q=>zZ _ q;obtain⟨its,r,ht,hz⟩:=I4.list (R1.g.seq hq);have hlen:=r.length;refine tail_any (T:= "list") (ops:= [.ref a,.ref s2.heap.objs.size]) ht.isList.typeIs slot_list_getitem.lookup ?_ (by with_unfolding_all rfl)
  refine wpAny_getItem_list_slice ht.isList (Heap.IsSliceOf.new ..) .none .none (.int (-1) t) (by simp) ?_ (by rw[List.size_toArray];omega)
  rw[W.krv_pick];have rr:=YT rs;have hf:=I4.fresh;obtain⟨R4,e1,e2,e3,ap⟩:=vO R1 hf rr;refine⟨.ref _,_,I4.laid (t' :=s2.toks) (o:= .lst vs.reverse) (fun b ob q=>zZ _ q) (zM _) ?_,rfl,k _ Γ1 F1 _ _ _ R4 sF e1 e2 e3 rr ap q1⟩;exact⟨by rw[List.length_reverse];exact hz,_,0,r.reverse,zY _ rfl⟩
 | _=>exact False.elim q1
end
section
variable{X:Cx}
theorem toI{A:Around}(h:A.handled=none):A.in1.handled=none:=h
theorem YW(I:Inv X pins σ H s)(k:∀b o,s.heap.get? b=some o ->h'.get? b=some o)(r:RelV v u)(q:Q v H):EP X pins σ Q u {s with heap:=h',toks:=tk}:=⟨v,H,I.kept k,r,q⟩
def gq:List D ->Option (List Int)
 | []=>some []
 | .int i::r=>(gq r).map (i:: ·)
 | _::_=>none
def oV:List D ->Option (List Bool)
 | []=>some []
 | .bl i::r=>(oV r).map (i:: ·)
 | _::_=>none
theorem YX{K:W.Frag}{F:Hp}:∀{ds:List D} {vs:List V} {ns:List Int},ak K F ds vs ->gq ds=some ns ->vs=ns.map .int
 | [],vs,ns,r,h=>by unfold ak at r;cases h;subst r;rfl
 | .int i::ds,vs,ns,r,h=>by
  unfold ak Rep at r;obtain⟨v,us,rfl,rfl,r⟩:=r;unfold gq at h;cases q:gq ds with
  | none=>rw[q] at h;cases h
  | some ms=>
   rw[q] at h;cases h;rw[YX r q];rfl
 | .non::_,_,_,_,h=>by cases h
 | .bl _::_,_,_,_,h=>by cases h
 | .str _::_,_,_,_,h=>by cases h
 | .tup _::_,_,_,_,h=>by cases h
 | .lst _::_,_,_,_,h=>by cases h
 | .exc _::_,_,_,_,h=>by cases h
 | .ptr _::_,_,_,_,h=>by cases h
 | .obj _ _ _::_,_,_,_,h=>by cases h
 | .dic _ _::_,_,_,_,h=>by cases h
 | .iC _ _::_,_,_,_,h=>by cases h
 | .nq _ _::_,_,_,_,h=>by cases h
theorem YZ{K:W.Frag}{F:Hp}:∀{ds:List D} {vs:List V} {ns:List Bool},ak K F ds vs ->oV ds=some ns ->vs=ns.map .bl
 | [],vs,ns,r,h=>by unfold ak at r;cases h;subst r;rfl
 | .bl i::ds,vs,ns,r,h=>by
  unfold ak Rep at r;obtain⟨v,us,rfl,rfl,r⟩:=r;unfold oV at h;cases q:oV ds with
  | none=>rw[q] at h;cases h
  | some ms=>
   rw[q] at h;cases h;rw[YZ r q];rfl
 | .non::_,_,_,_,h=>by cases h
 | .int _::_,_,_,_,h=>by cases h
 | .str _::_,_,_,_,h=>by cases h
 | .tup _::_,_,_,_,h=>by cases h
 | .lst _::_,_,_,_,h=>by cases h
 | .exc _::_,_,_,_,h=>by cases h
 | .ptr _::_,_,_,_,h=>by cases h
 | .obj _ _ _::_,_,_,_,h=>by cases h
 | .dic _ _::_,_,_,_,h=>by cases h
 | .iC _ _::_,_,_,_,h=>by cases h
 | .nq _ _::_,_,_,_,h=>by cases h
theorem zw5(ns:List Int)(f:Nat ->Int)(h:∀i,i<ns.length ->f i=ns.getD i 0):PySem.preSum f ns.length=ns.sum:=by
 have key:∀k,k<=ns.length ->PySem.preSum f k=(ns.take k).sum:=by
  intro k;induction k with
  | zero=>intro _;rfl
  | succ k ih=>
   intro hk;show PySem.preSum f k+f k=_;rw[ih (by omega),h k (by omega),List.take_add_one,List.sum_append,List.getD_eq_getElem?_getD,List.getElem?_eq_getElem (by omega)]
   simp
 rw[key _ (Nat.le_refl _),List.take_length]
def z7r:List D ->(D ->Prop) ->Prop:=fun ds P=>match ds with | [.lst xs]=>∃ns,gq xs=some ns/\P (.int ns.sum) | _=>False
theorem zz4(pl:PlainL h p its):(h.push {cls:= .type "list_iterator",data:= .fields #[.ref p,rawInt 0]}).IsListIter h.objs.size p 0/\ (h.push {cls:= .type "list_iterator",data:= .fields #[.ref p,rawInt 0]}).IsList p its:=by
 refine⟨⟨_,zY _ rfl,rfl,rfl⟩,?_⟩;obtain⟨o,n,e,hcl,_,hd⟩:=pl;exact⟨o,zZ _ e,hcl,n,hd⟩
theorem zu9(bs:List Bool):(List.range bs.length).any (fun i=>bs.getD i false)=bs.any id:=by
 rw[Bool.eq_iff_iff];simp only [List.any_eq_true,List.mem_range,id];constructor
 ·rintro⟨i,hi,e⟩;rw[List.getD_eq_getElem?_getD,List.getElem?_eq_getElem hi] at e;exact⟨_,yX hi,e⟩
 ·rintro⟨b,hb,e⟩;obtain⟨i,hi,rfl⟩:=List.mem_iff_getElem.mp hb;exact⟨i,hi,by rw[List.getD_eq_getElem?_getD,List.getElem?_eq_getElem hi];exact e⟩
def Rp:List D ->(D ->Prop) ->Prop:=fun ds P=>match ds with | [.lst xs]=>∃bs,oV xs=some bs/\P (.bl (bs.any id)) | _=>False
def z7q:List D ->(D ->Prop) ->Prop:=fun ds P=>match ds with | [.lst xs]=>∃bs,oV xs=some bs/\P (.bl (bs.all id)) | _=>False
theorem z5h{bs:List Bool}{its:List Value}(rv:Vals (bs.map .bl) its){i:Nat}{v:Value}(hv:its.toArray[i]?=some v):v= .bool (bs.getD i false):=by
 have hl:=rv.length;rw[List.length_map] at hl;have hv' :its[i]?=some v:=by simpa using hv
 have hi:i<bs.length:=by
  have:=(zU.mp hv').1;omega
 obtain⟨u,hu,ru⟩:=rv.get (i:=i) (x:= .bl (bs.getD i false)) (by rw[List.getElem?_map,List.getD_eq_getElem?_getD,List.getElem?_eq_getElem hi];rfl)
 rw[hv'] at hu;cases hu;exact ru
theorem z6w(hc:X.calm=true):cP X (.builtin "any") (oN X.K Rp):=by
 rintro pins s σ H xs us Q I r ⟨F,ds,P,sF,rs,h,k⟩;unfold Rp at h;split at h
 ·unfold ak ak Rep at rs;obtain⟨v,_,rfl,⟨p,vs,rfl,hq,rs⟩,rfl⟩:=rs;obtain⟨bs,hbs,h⟩:=h;obtain rfl:=YZ rs hbs;obtain⟨u,rfl,rx⟩:=vals1 r;cases rx;obtain⟨its,rv,pl,hz⟩:=I.list (sF.seq hq);have hl:=rv.length;rw[List.length_map] at hl;refine call_any_walk (wpAny_pyIter_list pl.isList ?_);have plt:p<s.heap.objs.size:=by obtain⟨o,n,e,_⟩:=pl;exact zG e
  refine⟨s.heap.objs.size,_,_,_,_,_,fun i=>bs.getD i false,rfl,Walks.list (toI (I.ok.hd hc)) s.heap.objs.size p (zJ plt) its.toArray,zz4 pl,fun i v s' Q' E' hv hQ=> ?_,fun h' tk kp=> ?_⟩
  ·rw[z5h rv hv];exact wpAny_truthy_bool hQ
  ·rw[show its.toArray.size=bs.length by simp [hl],zu9]
   refine YW (s:=s) (v:= .bl (bs.any id)) I (fun b o e=>kp b o (fun z=> ?_) (zZ _ e)) rfl (k _ _ F H (Gr.refl sF) (by unfold Rep;rfl) h)
   rcases zT.mp z with rfl | z
   ·exact absurd (zG e) (yV _)
   ·cases z
 ·exact h.elim
def z7o:List D ->(D ->Prop) ->Prop:=fun ds P=>match ds with | [.lst xs]=>∃ns m,gq xs=some ns/\m∈ns/\ (∀i∈ns,i<=m)/\P (.int m) | _=>False
def z7n:List D ->(D ->Prop) ->Prop:=fun ds P=>match ds with | [.lst xs]=>∃ns m,gq xs=some ns/\m∈ns/\ (∀i∈ns,m<=i)/\P (.int m) | _=>False
end
def GF:Slot ->Slot | .ow ds=> .pu (.lst ds) | .tr _ t=> .pu (toD t) | s=>s
def jF(Γ:G2):G2:=Γ.map GF
def nD(Γ:G2)(σ:St)(b:Addr):Prop:=∃j,jg Γ σ j b
open Classical in
theorem zzh{K:W.Frag}{F0 H0 F H:Hp}{σ:St}{Γ:G2}(R:SR K F0 H0 F H σ Γ):∃F1,Same F F1/\SR K F1 H F1 H σ (jF Γ)/\ (∀b,F b=none ->¬nD Γ σ b ->F1 b=none)/\∀b,nD Γ σ b ->F b=none/\∃u,F1 b=some u/\LD u:=by
 let F1:Hp:=fun b=>if (F b).isSome then F b else if nD Γ σ b then H b else none
 have s1:Same F F1:=fun b u e=>by show(if _ then _ else _)=_;rw[if_pos (by rw[e];rfl)];exact e
 have s2:Same F1 H:=fun b u e=>by
  have e' :(if (F b).isSome then F b else if nD Γ σ b then H b else none)=some u:=e;split at e'
  ·exact R.g b u e'
  ·split at e'
   ·exact e'
   ·cases e'
 have at1:∀b u,F b=none ->nD Γ σ b ->H b=some u ->F1 b=some u:=fun b u h1 h2 h3=>by
  show(if (F b).isSome then F b else if nD Γ σ b then H b else none)=_;rw[if_neg (by rw[h1];exact Bool.false_ne_true),if_pos h2]
  exact h3
 have Ae:∀(i:Nat) s o a,(jF Γ)[i]?=some s ->¬eZ s o a:=fun i s o a e=>by
  unfold jF at e;rw[List.getElem?_map] at e;cases q:Γ[i]? with
  | none=>rw[q] at e;cases e
  | some t=>
   rw[q] at e;cases t<;>(cases e;exact fun h=>h)
 have own:∀b,nD Γ σ b ->F b=none/\∃u,F1 b=some u/\LD u:=fun b hb=>by
  obtain⟨j,s,o,e1,e2,hs⟩:=id hb;obtain⟨o',e3,r⟩:=R.sl j _ e1;rw[e2] at e3;cases e3;obtain⟨h1,_,u,h2,ld⟩:=uV r hs;exact⟨h1,u,at1 _ _ h1 hb h2,ld⟩
 refine⟨F1,s1,⟨Gr.refl s2,by rw[jF,List.length_map];exact R.len,fun i s e=> ?_,fun i j a ⟨s,o,e,_,h⟩=>absurd h (Ae i s o a e)⟩,fun b hb hn=> ?_,own⟩
 ·unfold jF at e;rw[List.getElem?_map] at e;cases q:Γ[i]? with
  | none=>rw[q] at e;cases e
  | some sl=>
   rw[q] at e;obtain⟨o,e1,r⟩:=R.sl i sl q;refine⟨o,e1,?_⟩;have mine:∀b u,eZ sl o b ->H b=some u ->F1 b=some u:=fun b u hb hu=>at1 b u (uV r hb).1 ⟨i,sl,o,q,e1,hb⟩ hu;cases sl with
   | no=>cases e;trivial
   | pu d=>cases e;obtain⟨v,rfl,rv⟩:=r;exact⟨v,rfl,rv.up s1⟩
   | ow ds=>
    cases e;obtain⟨a,vs,rfl,h1,h2,h3,rs⟩:=r;refine⟨.ref a,rfl,?_⟩;unfold Rep;exact⟨a,vs,rfl,.inl (.inl (mine a _ rfl h1)),rs.up s1⟩
   | tr as t=>
    cases e;obtain⟨v,rfl,nd,h1,rv⟩:=r;exact⟨v,rfl,TR.rep s1 t v as (fun a ha u hu=>mine a u ha hu) rv⟩
 ·show(if (F b).isSome then F b else if nD Γ σ b then H b else none)=none;rw[if_neg (by rw[hb];exact Bool.false_ne_true),if_neg hn]
theorem z1v{K:W.Frag}{F0 H0 F H:Hp}{σ:St}{Γ:G2}(R:SR K F0 H0 F H σ Γ):∃F1,Same F F1/\SR K F1 H F1 H σ (jF Γ):=by
 obtain⟨F1,s1,R1,_⟩:=zzh R;exact⟨F1,s1,R1⟩
theorem zu7{K:W.Frag}{F0 H0 F H H' :Hp}{σ:St}{Γ:G2}(R:SR K F0 H0 F H σ Γ)(s:Same H H'):SR K F0 H0 F H' σ Γ:=by
 refine R.grow ⟨.refl _,fun b u e=>s b u (R.g b u e),s,fun b o e n=>by rw[e] at n;cases n⟩
def Y0:D ->Prop | .non=>True | .bl _=>True | .int _=>True | .str _=>True | _=>False
theorem z5q{K:W.Frag}{F F' :Hp}{d:D}{v:V}(h:Y0 d)(r:Rep K F d v):Rep K F' d v:=by
 cases d with
 | non=>unfold Rep at r⊢;exact r
 | bl=>unfold Rep at r⊢;exact r
 | int=>unfold Rep at r⊢;exact r
 | str=>unfold Rep at r⊢;exact r
 | _=>exact h.elim
def mV(te:aK):aK:=fun Γ P _=>te (jF Γ) (fun d _=>Y0 d/\P d Γ) lF
def Ag(t:TT2):TT2:=fun Γ P _=>t (jF Γ) (fun b _=>P b Γ) lF
section
variable{X:Cx}{F0 H0:Hp}{e:Expr}{te:aK}{tt:TT2}
theorem zyk{E:XW}{F1 H1:Hp}(cx:Ctx X F0 H0 E):Ctx X F1 H1 lF:=
 ⟨fun _ _ _ _ _ _ _ _ _ _ h=>by obtain⟨_,_,_,_,_,_,_,_,_,_,_,_,_,_,_,_,h,_⟩:=h;exact h.elim,cx.po⟩
theorem Kz(h:∀F0 H0,QE X F0 H0 e te):QE X F0 H0 e (mV te):=fun z E cx=>by
 rintro pins s σ H Q I ⟨F,Γ,P,R,q,k⟩;obtain⟨F1,s1,R1⟩:=z1v R;exact h F1 H z lF (zyk cx) pins s σ H Q I ⟨F1,jF Γ,_,R1,q,fun d Γ' F' H' v R' s' r hp=>k d Γ F H' v (zu7 R R'.gr.h) (.refl _) (z5q hp.1 r) hp.2⟩
def vU(i:Nat)(te:aK):aK:=fun Γ P E=>(∃xs,Γ[i]?=some (.ow xs))/\te Γ (fun k Γ1=>match k,Γ1[i]? with | .int k,some (.ow ds)=>∃d,jy ds k=some d/\P d Γ1 | _,_=>False) E
theorem Y4{i:Nat}{x:Str}{b:Expr}{pos pos' :Pos}(hN:X.N[i]?=some x)(hv:pN X.env.scope x)(hb:QE X F0 H0 b te)(hs:OD b)(hd:(x==("__debug__" :Str))=false:=by decide)(hcd:(x==("__classdict__" :Str))=false:=by decide):
  QE X F0 H0 (.Subscript (.Name x pos') b pos) (vU i te):=fun z E cx=>
 jh (Xk Xl (sH (X:=X.wsh z) (i:=i) hN hv hd hcd) (hb z E cx) hs) fun σ H Q hq2=>by
  obtain⟨F,Γ,P,R,⟨⟨xs,e0⟩,h⟩,k⟩:=hq2;obtain⟨o,e1,a,vs,rfl,h1,h2,h3,r⟩:=R.sl i _ e0;refine⟨.ref a,e1,F,Γ,_,R,h,fun d Γ1 F1 H1 v R1 s1 r1 q1=> ?_⟩;cases d with
  | int m=>
   unfold Rep at r1;subst r1;split at q1
   ·rename_i m' ds hm e2;cases hm;obtain⟨d,ed,hp⟩:=q1;obtain⟨o,e3,a',vs',ea,g1,g2,g3,r'⟩:=R1.sl i _ e2;rw[e1] at e3;cases e3;cases ea;obtain⟨w,ew,jR⟩:=QB r' ed;exact⟨a,vs',m,w,rfl,rfl,.inl (.inl g1),ew,k d Γ1 F1 H1 w R1 s1 jR hp⟩
   ·exact q1.elim
  | _=>exact False.elim q1
end
def Rq(X:Cx)(id:String)(g:List D ->List D ->(List D ->Prop) ->Prop):Prop:=
 ∀(pins:bD) (s:Shared) (σ:St) (F H:Hp) (l:Addr) (vs args:List V) (xs ds:List D) (us:List Value) (P:List D ->Prop) (Q:VK),Inv X pins σ H s ->H l=some (.lst vs) ->Same F H ->ak X.K F xs vs ->ak X.K F ds args ->Vals args us ->g xs ds P ->
  (∀ys ws,ak X.K F ys ws ->P ys ->Q .non (upd H l (.lst ws))) ->wpAny (model X.prog X.w) X.A (call (.builtin id) (.ref l::us)) (EP X pins σ Q) X.xe s
def wR:List D ->List D ->(List D ->Prop) ->Prop:=fun xs ds P=>match ds with | [d]=>xs.length<sizeLine/\P (xs++ [d]) | _=>False
def Rr(xs:List D)(k:Nat)(d:D):List D:=xs.take k++d::xs.drop k
def zx7:List D ->List D ->(List D ->Prop) ->Prop:=fun xs ds P=>match ds with | [.int k,d]=>0<=k/\k<=xs.length/\xs.length<sizeLine/\P (Rr xs k.toNat d) | _=>False
def Rt:List D ->List D ->(List D ->Prop) ->Prop:=fun xs ds P=>match ds with | [.lst ys]=>xs.length+ys.length<=sizeLine/\P (xs++ys) | _=>False
def z5t:List D ->List D ->(List D ->Prop) ->Prop:=fun xs ds P=>match ds with | []=>P xs.reverse | _=>False
def z6x:List D ->List D ->(List D ->Prop) ->Prop:=fun xs ds P=>match ds with | []=>P [] | _=>False
section
variable{X:Cx}
theorem GJ:Rq X "list.append" wR:=by
 intro pins s σ F H l vs args xs ds us P Q I hl sF rs ra rv h k;unfold wR at h;split at h
 ·unfold ak ak at ra;obtain⟨v,_,rfl,rd,rfl⟩:=ra;exact Xq pins s σ H (.ref l) [v] (.ref l) us Q I rfl rv ⟨l,vs,v,rfl,rfl,hl,by rw[<- iu rs];exact h.1,k _ _ (yO rs (FN rd)) h.2⟩
 ·exact h.elim
end
section
variable{X:Cx}{F0 H0:Hp}{x name:Str}{apos cpos npos pos:Pos}{e:Expr}{es:List Expr}{id:String}{i:Nat}{t:bA}{g:List D ->List D ->(List D ->Prop) ->Prop}
def wU(i:Nat)(g:List D ->List D ->(List D ->Prop) ->Prop)(t:bA):au:=fun D Γ E=>(∃xs,Γ[i]?=some (.ow xs))/\t Γ (fun ds Γ1=>match Γ1[i]? with | some (.ow xs)=>g xs ds fun ys=>D.nx (Γ1.set i (.ow ys)) | _=>False) E
theorem zyy{z:X7}{σ:St}{F Fa H Ha:Hp}{Γ Γ1:G2}{xs:List D}{a:Addr}{D2:lB}{Dn:Ends}{vs args:List V}{ds:List D}(_R:SR X.K F0 H0 F H σ Γ)(R1:SR X.K F0 H0 Fa Ha σ Γ1)(s1:Same F Fa)(k:rC X.K F0 H0 F D2 Dn)(e1:σ[i]?=some (some (.ref a)))
  (q:match Γ1[i]? with | some (.ow xs)=>g xs ds fun ys=>D2.nx (Γ1.set i (.ow ys)) | _=>False):
  ∃vs xs P,Ha a=some (.lst vs)/\ak X.K Fa xs vs/\g xs ds P/\∀ys ws,ak X.K Fa ys ws ->P ys ->Dn.nx σ (upd Ha a (.lst ws)):=by
 split at q
 ·rename_i xs e;obtain⟨o,e2,a',vs,rfl,g1,g2,g3,r⟩:=R1.sl i _ e;rw[e1] at e2;cases e2;exact⟨vs,xs,_,g1,r,q,fun ys ws jR hp=>k.nx _ _ _ _ (R1.wr e e1 jR) s1 hp⟩
 ·exact q.elim
theorem CN(hr:∀z,Rq (X.wsh z) id g)(slot:PySem.Slot "list" name id)(hty:typeOf (.builtin id)=pure (.type "method_descriptor"))(hN:X.N[i]?=some x)(hv:pN X.env.scope x)(ha:QA X F0 H0 (e::es) t)
  (hd:(x==("__debug__" :Str))=false:=by decide) (hcd:(x==("__classdict__" :Str))=false:=by decide)
  (hbase:attributeBase (.Name x npos) name X.env (eval (.Name x npos) X.env)=eval (.Name x npos) X.env:=by rfl)
  (hfew:((backTo cpos (starEach (e::es) X.env)).all (fun x=> !x.1)&&(backToKw cpos (keywordEach [] X.env)).all (fun x=>x.1.isSome)
   &&decide ((e::es).length+ ([]:List Keyword).length+ (if ([]:List Keyword).isEmpty then 0 else 1)<30))=true:=by rfl)
  (hline:(apos.endLine==cpos.line)=true:=by rfl) (hs:starEach (e::es) X.env=(false,eval e X.env)::starEach es X.env:=by rfl) (hplain:(backTo cpos (starEach es X.env)).any (·.1)=false:=by rfl)
  (hsw:swapsWith (.Call (.Attribute (.Name x npos) name apos) (e::es) [] cpos) none pos.line X.env=pure false:=by rfl):
  QS X F0 H0 (.Expr (.Call (.Attribute (.Name x npos) name apos) (e::es) [] cpos) pos) (wU i g t):=by
 intro z E cx;refine n6 (z2t (X:=X.wsh z) (te:=fun σ H Q=>Ei i σ H fun v H1=>J3 X.K "list" v H1/\Gd X.K F0 H0 t E σ H1 fun vs H2=>∃l xs ws F Pd ds,v= .ref l/\H2 l=some (.lst ws)/\Same F H2/\ak X.K F xs ws/\ak X.K F ds vs/\g xs ds Pd/\∀ys us,ak X.K F ys us ->Pd ys ->Q .non (upd H2 l (.lst us))) ?_ hsw) ?_
 ·refine z7i (X:=X.wsh z) (T:= "list") (id:=id) (r:=fun v vs H2 Q=>∃l xs ws F Pd ds,v= .ref l/\H2 l=some (.lst ws)/\Same F H2/\ak X.K F xs ws/\ak X.K F ds vs/\g xs ds Pd/\∀ys us,ak X.K F ys us ->Pd ys ->Q .non (upd H2 l (.lst us)))
   PySem.F.plainAttrs_list slot hty ?_ (sH (X:=X.wsh z) (i:=i) hN hv hd hcd) (ha z E cx) hbase hfew hline hs hplain
  rintro pins s σ H x xs v us Q I rx rs ⟨l,ys,ws,Fz,Pd,ds,e1,h1,h2,h3,h4,h5,h6⟩;subst e1;cases rx;exact hr z pins s σ Fz H l ws xs ys ds us Pd Q I h1 h2 h3 h4 rs h5 h6
 ·rintro Dn σ H ⟨F,Γ,D2,R,⟨⟨xs,e0⟩,h⟩,k⟩;obtain⟨o,e1,a,vs,rfl,h1,h2,h3,r⟩:=R.sl i _ e0;refine⟨.ref a,e1,.inl ⟨rfl,vs,.inl (.inl h1)⟩,F,Γ,_,R,h,fun ds Γ1 F1 H1 us R1 s1 r1 q1=> ?_⟩;obtain⟨ws,ys,P,g1,g2,g3,g4⟩:=zyy (z:=z) (vs:=vs) (args:=us) (xs:=xs) R R1 s1 k e1 q1;exact⟨a,ys,ws,F1,P,ds,rfl,g1,R1.g,g2,r1,g3,g4⟩
end
end L3
namespace L3
open PySem PySem.Spec PyProof.Rows L2
section
variable{X:Cx}{F0 H0:Hp}{st:Stmt}{i:Nat}{t:bA}
theorem GK(h:QS X F0 H0 st (gG i t)):QS X F0 H0 st (aO i (dg t)):=fun z E cx=>
 n6 (h z E cx) fun Dn σ H hq1=>by
  obtain⟨F,Γ,D2,R,q,k⟩:=hq1;have key:(fun(ds:List D) (Γ1:G2)=>(match (Γ1.set i (.ow ds))[i]? with | some (.ow ds')=>D2.nx ((Γ1.set i (.ow ds)).set i (.pu (.lst ds'))) | _=>D2.nx (Γ1.set i (.ow ds))))=fun ds Γ1=>D2.nx (Γ1.set i (.pu (.lst ds))):=by
   funext ds Γ1
   by_cases hi:i<Γ1.length
   ·rw[List.getElem?_set_self hi];dsimp only;rw[List.set_set]
   ·rw[List.getElem?_eq_none (by simpa using hi)]
    dsimp only;rw[List.set_eq_of_length_le (by omega),List.set_eq_of_length_le (by omega)]
  refine⟨F,Γ,{D2 with nx:=fun Γ' =>match Γ'[i]? with | some (.ow ds)=>D2.nx (Γ'.set i (.pu (.lst ds))) | _=>D2.nx Γ'},R,?_,⟨fun Γ' F' H' σ' R' s' q' => ?_,k.bk,k.ct,k.rt,k.rf,k.rT,k.rm⟩⟩
  ·show t Γ _ E;dsimp only;rw[key];exact q
  ·dsimp only at q';split at q'
   ·rename_i ds e;obtain⟨a,F2,_,s2,R2,_⟩:=R'.frz e;exact k.nx _ _ _ _ R2 (s'.trans s2) q'
   ·exact k.nx _ _ _ _ R' s' q'
end
def mJ(t u:aK):bA:=fun Γ P E=>t Γ (fun d Γ1=>u Γ1 (fun d' Γ2=>match d,d' with | .lst xs,.lst ys=>xs.length+ys.length<=sizeLine/\P (xs++ys) Γ2 | _,_=>False) E) E
section
variable{X:Cx}{F0 H0:Hp}{a b c:Expr}{pos:Pos}{ta tb tc:aK}
theorem zwd{M:Program}{w:World}{A:Around}{E:bL}{s:Shared}{l b:Addr}{vs ws:List Value}{Q:bL}(hl:s.heap.IsList l vs.toArray)(hb:s.heap.IsList b ws.toArray)
  (h:Q (.ref s.heap.objs.size) {s with heap:=s.heap.push {cls:= .type "list",data:= .seq (vs++ws).toArray}}) (hsz:vs.length+ws.length<=sizeLine):wpAny (model M w) A (binaryOp .Add (.ref l) (.ref b)) Q E s:=by
 obtain⟨⟨cls,dd,data,sl⟩,ho,hc,n,hd⟩:=id hl;obtain⟨⟨cls2,dd2,data2,sl2⟩,ho2,hc2,n2,hd2⟩:=id hb;simp only at hc hd hc2 hd2;subst hc hd hc2 hd2;have e:vs.toArray++ws.toArray=(vs++ws).toArray:=by simp
 refine concat_meets ⟨_,ho,rfl⟩ ⟨_,ho2,rfl⟩ noFill_list_add seq_list_add PySem.F.slot_list_add PySem.F.entry_list_add (PySem.F.args_list_add_2 _ _) (list_addW l b vs.toArray ws.toArray n n2 dd dd2 sl sl2 (by simpa using hsz)) ⟨ho,ho2,?_⟩
 rw[e];exact h
theorem wV(ha:QE X F0 H0 a ta)(hb:QE X F0 H0 b tb):QF X F0 H0 (.BinOp a .Add b pos) (mJ ta tb):=fun z E cx=>
 jh (WY (X:=X.wsh z) (r:=fun x y H Q=>∃p q xs ys,x= .ref p/\y= .ref q/\fZ X.K H p xs/\fZ X.K H q ys/\xs.length+ys.length<=sizeLine/\∀l,H l=none ->Q (.ref l) (upd H l (.lst (xs++ys)))) (by
  rintro pins s σ H x y v u Q I rx ry ⟨p,q,xs,ys,e1,e2,h1,h2,hz,k⟩;subst e1 e2;cases rx;cases ry;obtain⟨its,r,pl,_⟩:=I.list h1;obtain⟨its2,r2,pl2,_⟩:=I.list h2;have l1:=r.length;have l2:=r2.length;refine zwd pl.isList pl2.isList ?_ (by omega)
  exact⟨.ref _,_,I.lnew (t' :=s.toks) (r.append r2) (by rw[List.length_append];omega),rfl,k _ I.fresh⟩) (ha z E cx) (hb z E cx)) fun σ H Q hq2=>by obtain⟨F,Γ,P,R,h,k⟩:=hq2;exact⟨F,Γ,_,R,h,fun d1 Γ1 F1 H1 v1 R1 s1 r1 h1=>⟨F1,Γ1,_,R1,h1,fun d2 Γ2 F2 H2 v2 R2 s2 r2 h2=>by
   cases d1 with
   | lst xs=>
    cases d2 with
    | lst ys=>
     have r1' :=r1.up s2;unfold Rep at r1' r2;obtain⟨p,vs,rfl,hq,rs⟩:=r1';obtain⟨q,ws,rfl,hq2,CP⟩:=r2;refine⟨p,q,vs,ws,rfl,rfl,R2.g.seq hq,R2.g.seq hq2,by rw[<- iu rs,<- iu CP];exact h2.1,fun l hl=> ?_⟩
     have ra:=yO rs CP;obtain⟨R3,e1,e2,e3,ap⟩:=vO R2 hl ra;exact k _ Γ2 F2 _ l _ R3 (s1.trans s2) e1 e2 e3 ra ap h2.2
    | _=>exact False.elim h2
   | _=>exact False.elim h2⟩⟩
def tQ:D ->Bool | .non=>true | .bl _=>true | .int _=>true | .str _=>true | _=>false
def KC:D ->D ->Bool
 | .non,.non=>true
 | .bl a,.bl b=>a==b
 | .bl a,.int b=>(if a then 1 else 0)==b
 | .int a,.bl b=>a==(if b then 1 else 0)
 | .int a,.int b=>a==b
 | .str a,.str b=>a==b
 | _,_=>false
def inD(x:D)(xs:List D):Bool:=xs.any fun y=>KC y x
def tR(neg:Bool):D ->D ->(D ->Prop) ->Prop:=fun x y P=>match y with
 | .lst xs=>tQ x=true/\xs.all tQ=true/\P (.bl (if neg then !inD x xs else inD x xs))
 | .tup xs=>tQ x=true/\xs.all tQ=true/\P (.bl (if neg then !inD x xs else inD x xs))
 | _=>False
theorem Ah{K:W.Frag}{F:Hp}{d:D}{v:V}(h:tQ d=true)(r:Rep K F d v):iI v=true:=by
 cases d<;>first | (unfold Rep at r;subst r;rfl) | (exact absurd h zH)
theorem Ru{K:W.Frag}{F:Hp}{d e:D}{v u:V}(h:tQ d=true)(h' :tQ e=true)(r:Rep K F d v)(r' :Rep K F e u):vJ v u=KC d e:=by
 cases d<;>first | (exact absurd h zH) | (unfold Rep at r;subst r;cases e<;>first | (exact absurd h' zH) | (unfold Rep at r';subst r';rfl))
theorem Rv{K:W.Frag}{F:Hp}:∀{ds:List D} {vs:List V},ak K F ds vs ->ds.all tQ=true ->vs.all iI=true
 | [],vs,r,_=>by unfold ak at r;subst r;rfl
 | d::ds,vs,r,h=>by
  unfold ak at r;obtain⟨v,us,rfl,r1,r2⟩:=r;rw[List.all_cons,Bool.and_eq_true] at h⊢;exact⟨Ah h.1 r1,Rv r2 h.2⟩
theorem Ai{K:W.Frag}{F:Hp}{x:D}{u:V}(hx:tQ x=true)(rx:Rep K F x u):∀{ds:List D} {vs:List V},ak K F ds vs ->ds.all tQ=true ->inV u vs=inD x ds
 | [],vs,r,_=>by unfold ak at r;subst r;rfl
 | d::ds,vs,r,h=>by
  unfold ak at r;obtain⟨v,us,rfl,r1,r2⟩:=r;rw[List.all_cons,Bool.and_eq_true] at h;unfold inV inD;rw[List.any_cons,List.any_cons,Ru h.1 hx r1 rx];have:=Ai hx rx r2 h.2;unfold inV inD at this;rw[this]
theorem tU:iH X (compareOp .In) (n8 X.K (tR false)):=by
 rintro pins s σ H x y v u Q I rx ry ⟨F,d1,d2,P,sF,r1,r2,h,k⟩;unfold tR at h;split at h
 ·unfold Rep at r2;obtain⟨p,vs,rfl,hq,rs⟩:=r2;obtain⟨h1,h2,h3⟩:=h;exact Xn pins s σ H x _ v u Q I rx ry ⟨p,vs,rfl,.inl (sF.seq hq),Ah h1 r1,Rv rs h2,k _ _ F H (Gr.refl sF) (by rw[Ai h1 r1 rs h2];unfold Rep;rfl) h3⟩
 ·unfold Rep at r2;obtain⟨p,vs,rfl,hq,rs⟩:=r2;obtain⟨h1,h2,h3⟩:=h;exact Xn pins s σ H x _ v u Q I rx ry ⟨p,vs,rfl,.inr (lA sF hq),Ah h1 r1,Rv rs h2,k _ _ F H (Gr.refl sF) (by rw[Ai h1 r1 rs h2];unfold Rep;rfl) h3⟩
 ·exact h.elim
def Aj(g g' :D ->D ->(D ->Prop) ->Prop)(ta tb tc:aK):aK:=fun Γ P E=>ta Γ (fun x Γ1=>tb Γ1 (fun y Γ2=>g x y fun r=>match r with
 | .bl k=>if k=true then tc Γ2 (fun w Γ3=>g' y w fun d=>P d Γ3) E else P (.bl false) Γ2
 | _=>False) E) E
end
section
variable{X:Cx}{F0 H0:Hp}{tg a b:Expr}{t:bA}{p pc:Pos}
def aa0(t:bA):bA:=fun Γ P E=>t Γ (fun ds Γ1=>match ds with | [.int j]=>(-(2^62)<=j/\j<2^62)/\j.toNat<=sizeLine/\P ((List.range j.toNat).map fun(k:Nat)=> .int (0+k)) Γ1 | _=>False) E
def aa1(t:bA):bA:=fun Γ P E=>t Γ (fun ds Γ1=>match ds with | [.int i,.int j]=>(-(2^62)<=i/\i<2^62/\ -(2^62)<=j/\j<2^62)/\ (j - i).toNat<=sizeLine/\P ((List.range (j - i).toNat).map fun(k:Nat)=> .int (i+k)) Γ1 | _=>False) E
end
def zzq(sc GC:Scope):Scope:={sc with names:=sc.names.map fun(n,k)=>if (k== .free&&GC.kind== .function&&GC.names.lookup n==some .cell) then(n,.cell) else(n,k)}
section
variable{X:Cx}{F0 H0:Hp}{x:Str}{pos:Pos}{d:D}
def Glb(K:W.Frag)(mg:Str ->Option Value)(x:Str)(d:D):Prop:=∃v u,mg x=some u/\RelV v u/\∀F,Rep K F d v
end
structure aa2 (K:W.Frag) (x qual:Str) (st:Stmt) (f:Addr) (fd:FuncData) (dV:Value):Prop where
 ex:∃(oc:Value) (od:Option Addr) (kV doc pm:Value) (an:Option Addr) (cdv ct:Value) (osl:Array (Option Value)),
  fd=W.fnOf x qual (vM st) (sX st) (bV st) dV kV doc pm an cdv ct/\K.lookup f=some ⟨oc,od,.func fd,osl⟩/\W.codeIn K cdv qual=true
 kp:W.keepIn K (.ref f)=true
section
variable{P:Program}{w:World}{K:W.Frag}{mg:Str ->Option Value}{base:Heap}
structure aa3 (P:Program) (w:World) (K:W.Frag) (mg:Str ->Option Value) (base:Heap) (x:Str) (k:Nat) (ps:List Str) (sp:cO):Prop where
 ex:∃f fd,eY P w K mg base (iw P w) k f fd ps (j9 K sp)/\mg x=some (.ref f)/\W.keepIn K (.ref f)=true/\Binds K fd ps []/\Binds K fd ps [.none]
end
def Ak(sp:cO)(t:bA):aK:=fun Γ P E=>t Γ (fun ds Γ1=>sp (ds++ [.non]) (fun d=>P d Γ1) fun C=>E Γ1 C) E
section
variable{X:Cx}{F0 H0:Hp}{e:Expr}{es:List Expr}{pos p:Pos}{x:Str}{ps:List Str}{k:Nat}{sp:cO}{t:bA}
end
def VE(K:W.Frag)(C:Addr):Prop:=W.kitOne K (.ref C) (.type "ValueError")=some true
def Rx(K:W.Frag)(ta:aK):aK:=fun Γ P E=>ta Γ (fun d Γ1=>match d with | .exc C0=>(tD K C0/\vR K C0/\VE K C0)/\P (.bl true) Γ1 | _=>False) E
def Ry(K:W.Frag)(Cs:List Addr)(ta:aK):aK:=fun Γ P E=>ta Γ (fun d Γ1=>match d with | .exc C0=>(tD K C0/\vR K C0)/\P (.bl (Cs.any fun C=>nA K C0 C)) Γ1 | _=>False) E
def PCl(X:Cx)(es:List Expr)(Cs:List Addr):Prop:=∀z,PA (X.wsh z) es fun _ H Q=>Q (Cs.map V.ref) H
section
variable{X:Cx}{F0 H0:Hp}{a:Expr}{pos p pt:Pos}{ta:aK}{x:Str}{C:Addr}{es:List Expr}{Cs:List Addr}
end
theorem Rz{X:Cx}{pins:bD}{σ:St}{H:Hp}{s:Shared}{h' :Heap}{t' :Nat}{fp:List Addr}(I:Inv X pins σ H s)(k:∀b o,b∉fp ->s.heap.get? b=some o ->h'.get? b=some o)(hf:∀b∈fp,gF X pins H b):Inv X pins σ H {s with heap:=h',toks:=t'}:=by
 have Eh:∀b u,H b=some u ->b∉fp:=fun b u e z=>by rw[(hf b z).1] at e;cases e
 refine I.step (g' :=s.gens) (d' :=s.drawn) (ch:=fp) (fun b hb=> ?_) (fun b o _ _ hc e _=>k b o hc e) (fun b o _ _ hc e _=>⟨o.slots,k b o hc e⟩) (fun _ _ _ _ n=>n) (fun b o hc e=>⟨o,k b o hc e⟩) (fun _ _ e=>e) (fun _ _ _ e=>e) (fun b ps e=>⟨#[],by rw[e];simp⟩) (fun m hm=> ?_) (fun b u e=> ?_) I.bare
 ·obtain⟨f0,f1,f2,f3,f4,f5⟩:=hf b hb;exact⟨f3,f1,f4,f5⟩
 ·obtain⟨o,es,ep,ho,r⟩:=hm;exact⟨o,es,ep,k _ o (fun z=>(hf _ z).2.1 rfl) ho,r⟩
 ·refine(I.hok b u e).stay (fun c v hc q=>k c v ?_ q) (fun _ q=>q) fun _ _ q=>q;rcases hc with z | z
  ·rw[z];exact Eh b u e
  ·exact Eh c _ z
theorem RB(h:gF X pins H b)(hb:b≠a):gF X pins (upd H a o) b:=⟨by rw[dH hb];exact h.1,h.2⟩
theorem Y5{X:Cx}{pins:bD}{σ:St}{H:Hp}{s:Shared}{h' :Heap}{t' :Nat}{fp:List Addr}{xs:List V}{its:List Value}(I:Inv X pins σ H s)(k:∀b o,b∉fp ->s.heap.get? b=some o ->h'.get? b=some o)
  (hlt:∀b∈fp,b<s.heap.objs.size) (ht:h'.get? s.heap.objs.size=some {cls:= .type "tuple",data:= .seq its.toArray}) (hv:Vals xs its) (hz:xs.length<=sizeLine) (hf:∀b∈fp,gF X pins H b):
  Inv X pins σ (upd H s.heap.objs.size (.tup xs)) {s with heap:=h',toks:=t'}:=by
 have I1:Inv X pins σ (upd H s.heap.objs.size (.tup xs)) {s with heap:=s.heap.push {cls:= .type "tuple",data:= .seq its.toArray},toks:=s.toks}:=
  I.laid (t' :=s.toks) (fun b o e=>zZ _ e) (zM _) (show aV X.prog X.w _ _ _ (.tup xs) from ⟨hz,its,hv,IsTup.new _ _⟩)
 refine Rz (s:={s with heap:=s.heap.push {cls:= .type "tuple",data:= .seq its.toArray},toks:=s.toks}) (fp:=fp) I1 (fun b o hb e=> ?_) fun b hb=>RB (hf b hb) (zJ (hlt b hb));rcases Heap.get?_push_cases e with ⟨rfl,rfl⟩ | e
 ·exact ht
 ·exact k b o hb e
def Ite(K:W.Frag)(a:Addr):It:=
 ⟨fun i H=>∃xs x,fZ K H a xs/\xs[i]?=some x,fun i H x H' =>∃b v,x= .ref b/\H b=none/\H' =upd H b (.tup [.int i,v])/\∀xs,fZ K H a xs ->xs[i]?=some v,fun i H=>∃xs,fZ K H a xs/\xs.length<=i⟩
theorem zvc{P:Program}{w:World}{K:W.Frag}{elts:List Expr}{x1}{pos:Pos}(a e it:Addr)(hne:e≠it):Turn P w K (.Tuple elts x1 pos) (Ite K a) [e,it] e (fun i h=>(∃old,IsEnum h e it (i:Int) old)/\h.IsListIter it a i) where
 mem:=by simp
 obj:=fun i h q b hb=>by
  obtain⟨⟨old,q⟩,st⟩:=q;rcases zT.mp hb with rfl | hb
  ·exact⟨_,q,fun v z=>by cases z⟩
  ·obtain rfl:b=it:=by simpa using hb
   obtain⟨o,e,c,d⟩:=st;exact⟨o,e,fun v z=>by rw[d] at z;cases z⟩
 keep:=fun i h h' q k=>by
  obtain⟨⟨old,q⟩,st⟩:=q;exact⟨⟨old,k e (by simp) _ q⟩,st.at fun o z=>k it (by simp) o z⟩
 item:=by
  intro X hP hw hK hc i pins s σ H E I hf q hg;obtain⟨⟨old,q⟩,st⟩:=q;subst hP hw hK;obtain⟨xs,x,hq,hx⟩:=hg;obtain⟨its,rv,p,hz⟩:=I.list hq;obtain⟨u,hu,ru⟩:=rv.get hx;have el:e<s.heap.objs.size:=zG q;have il:it<s.heap.objs.size:=by obtain⟨o,z,_⟩:=st;exact zG z
  refine wpAny_pyNext_enum_item q st p.isList (x:=u) (by simpa using hu) hne fun h1 eo st1 ht hs1 k1=> ?_
  refine⟨_,rfl,wpAny_letOwnedTupleGo_enum eo fun h2 e2 sb=> ?_⟩;have u5:Heap.SameBut e h1 h2:=sb;have I2:Inv X pins σ (upd H s.heap.objs.size (.tup [.int i,x])) {s with heap:=h2,toks:=s.toks+1}:=
   Y5 (fp:= [e,it]) (its:= [.int i s.toks,u]) I (fun b o hb z=>u5.extBut b o (fun y=>hb (by simp [y])) (k1 b o (fun y=>hb (by simp [y])) (fun y=>hb (by simp [y])) z))
    (fun b hb=>by
     rcases zT.mp hb with rfl | hb
     ·exact el
     ·obtain rfl:b=it:=by simpa using hb
      exact il)
    ((u5.2 _ (Nat.ne_of_gt el)).trans ht) (.cons ⟨_,rfl⟩ (.cons ru .nil)) (by show(2:Nat)<=sizeLine;decide) hf
  refine⟨.ref s.heap.objs.size,_,I2,rfl,⟨_,x,rfl,I.fresh,rfl,fun ys hy=>by rw[I.list_inj hy hq];exact hx⟩,⟨⟨u,?_⟩,(st1.extBut u5.extBut (Ne.symm hne))⟩,fun b hb=> ?_⟩
  ·have:((i+1:Nat):Int)=(i:Int)+1:=by omega
   rw[this];exact e2
  ·refine(RB (hf b hb) ?_).1;rcases zT.mp hb with rfl | hb
   ·exact zJ el
   ·obtain rfl:b=it:=by simpa using hb
    exact zJ il
 done:=by
  intro X hP hw hK hc i pins s σ H E I hf q hg;obtain⟨⟨old,q⟩,st⟩:=q;subst hP hw hK;obtain⟨xs,hq,hx⟩:=hg;obtain⟨its,rv,p,hz⟩:=I.list hq;have hl:=rv.length;exact wpAny_pyNext_enum_end (I.ok.hd hc) q st p.isList (by simp;omega) fun h' eb=>⟨rfl,Rz (t' :=s.toks) (fp:= [e,it]) I (fun b o hb z=>eb b o (fun y=>hb (by simp [y])) z) hf⟩
 self:=fun _ _ _ _ _ q h=>by
  obtain⟨⟨old,q⟩,st⟩:=q;exact wpAny_pyIter_enum q h
theorem zkn:bootBuiltins "enumerate" =some (.type "enumerate"):=by decide+kernel
def GP(K:W.Frag)(ta:TA):TI:=fun σ H R=>ta σ H fun vs H1=>∃a xs,vs= [.ref a]/\fZ K H1 a xs/\ (xs.length<=sizeLine ->R (Ite K a) H1)
theorem z1s{X:Cx}{a:Expr}{ta:TA}{p pos:Pos}{elts:List Expr}{x1}{pt:Pos}(hg:Gl X "enumerate")(hm:X.mg "enumerate" =none)(ha:PA X [a] ta)(hs:starEach [a] X.env=(false,eval a X.env)::starEach [] X.env:=by rfl):
  PI X (.Tuple elts x1 pt) (.Call (.Name "enumerate" p) [a] [] pos) (GP X.K ta):=by
 intro pins s σ H R I h;refine Call_ (vB I hg hm zkn (PyProof.Rows.callWith_type1 (bG (ha pos pins s σ H _ I h) fun us s1 ⟨vs,H1,I1,r1,q1⟩=> ?_) hs rfl));obtain⟨l,xs,rfl,hq,q⟩:=q1;obtain⟨u,rfl,rx⟩:=vals1 r1;cases rx;obtain⟨its,rv,pl,hz⟩:=I1.list hq;refine call_enumerate_list pl.isList fun h' e1 st hsz kp=> ?_;refine wpAny_pyIter_enum (i:=0) e1 ⟨s1.heap.objs.size+1,[s1.heap.objs.size+1,s1.heap.objs.size],_,_,H1,rfl,I1.kept (t' :=s1.toks) kp,zvc l _ _ (Nat.ne_of_gt (Nat.lt_succ_self _)),⟨⟨_,e1⟩,st⟩,fun b hb=> ?_,q hz⟩;have hb2:s1.heap.objs.size<=b:=by
  rcases zT.mp hb with rfl | hb
  ·exact Nat.le_succ _
  ·obtain rfl:b=s1.heap.objs.size:=by simpa using hb
   exact zM _
 exact I1.fpOk hb2 (I1.hok.fresh hb2)
def u6:Nat ->List D ->List D
 | _,[]=> []
 | k,x::r=> .tup [.int k,x]::u6 (k+1) r
theorem RD:∀(k:Nat) (xs:List D),(u6 k xs).length=xs.length
 | _,[]=>rfl
 | k,x::r=>by show(u6 (k+1) r).length+1=r.length+1;rw[RD]
theorem RG:∀(k:Nat) (xs:List D) (i:Nat),(u6 k xs)[i]?=(xs[i]?).map fun d=> .tup [.int (k+i:Nat),d]
 | _,[],_=>rfl
 | k,x::r,0=>rfl
 | k,x::r,i+1=>by
  show(u6 (k+1) r)[i]?=_;rw[RG (k+1) r i,show k+1+i=k+ (i+1) by omega]
  rfl
def GQ(t:bA):bA:=fun Γ P E=>t Γ (fun ds Γ1=>match ds with | [.lst xs]=>P (u6 0 xs) Γ1 | _=>False) E
theorem zzr{K:W.Frag}{F:Hp}{a:Addr}{vs:List V}{xs:List D}(hq:fZ K F a vs)(rs:ak K F xs vs)(hz:vs.length<=sizeLine):wO K F Ad (Ite K a) (u6 0 xs):=by
 have hl:=iu rs;refine⟨by rw[RD];omega,fun i H2 F2 s2 s3 _=>⟨fun e=>⟨vs,s3.seq (s2.seq hq),by rw[e,RD];omega⟩,fun d hd=> ?_⟩⟩
 rw[RG] at hd;cases hx:xs[i]? with
 | none=>rw[hx] at hd;cases hd
 | some x=>
  rw[hx] at hd;cases hd;obtain⟨v,hv,rv⟩:=oH rs hx;refine⟨⟨vs,v,s3.seq (s2.seq hq),hv⟩,fun y H' z=> ?_⟩;obtain⟨b,v2,rfl,hb,rfl,z⟩:=z;have:=z vs (s3.seq (s2.seq hq));rw[hv] at this;cases this;have gr:=Gr.laid (o:=HO.tup [.int i,v]) s3 hb;refine⟨_,gr,?_⟩;unfold Rep;refine⟨b,_,rfl,.inl (.inl mQ),pW ?_ (pW ((rv.up s2).up gr.f) (by unfold ak;rfl))⟩
  unfold Rep;simp
section
variable{X:Cx}{F0 H0:Hp}{a b e tg:Expr}{es:List Expr}{pos p pt:Pos}{te:aK}{t:bA}{g:jT}{tb:au}{elts:List Expr}
theorem Y6{x1}(hc:X.calm=true)(hg:Gl X "enumerate")(hm:X.mg "enumerate" =none)(ha:QA X F0 H0 [a] t)(hs:starEach [a] X.env=(false,eval a X.env)::starEach [] X.env:=by rfl):
  QI X F0 H0 (.Tuple elts x1 pt) (.Call (.Name "enumerate" p) [a] [] pos) (GQ t):=fun z E cx=>Cu (z1s (X:=X.wsh z) hg hm (ha z E cx) hs) fun σ H R hq2=>by obtain⟨F,Γ,P,S,q,k⟩:=hq2;exact⟨F,Γ,_,S,q,fun ds Γ1 F1 H1 vs R1 s1 r1 h1=>by
  unfold GQ at*;split at h1
  ·unfold ak ak Rep at r1;obtain⟨v,_,rfl,⟨l,us,rfl,hq,rs⟩,rfl⟩:=r1;exact⟨l,us,rfl,R1.g.seq hq,fun hz=>k _ Γ1 F1 H1 _ R1 s1 (zzr hq rs hz) h1⟩
  ·exact h1.elim⟩
end
def GR:List D ->(D ->Prop) ->Prop:=fun ds P=>match ds with | [.bl b]=>P (.int (if b then 1 else 0)) | [.int i]=>P (.int i) | _=>False
theorem Y7:cP X (.type "int") (oN X.K GR):=by
 rintro pins s σ H xs us Q I r ⟨F,ds,P,sF,rs,h,k⟩;unfold GR at h;split at h
 ·unfold ak ak Rep at rs;obtain⟨v,_,rfl,rfl,rfl⟩:=rs;obtain⟨u,rfl,rx⟩:=vals1 r;cases rx;exact call_int_bool ⟨.int _,H,I.tok _,⟨_,rfl⟩,k _ _ F H (Gr.refl sF) (by unfold Rep;rfl) h⟩
 ·unfold ak ak Rep at rs;obtain⟨v,_,rfl,rfl,rfl⟩:=rs;obtain⟨u,rfl,rx⟩:=vals1 r;obtain⟨t,rfl⟩:=rx;exact call_int_int ⟨.int _,H,I,⟨_,rfl⟩,k _ _ F H (Gr.refl sF) (by unfold Rep;rfl) h⟩
 ·exact h.elim
def zyi:List D ->(List D ->Prop) ->Prop:=fun ds P=>match ds with | [.lst xs]=>∃ns,gq xs=some ns/\ns.length<64/\∀ms:List Int,ms.Perm ns ->ms.Pairwise (· <= ·) ->P (ms.map .int) | _=>False
section
variable{prog:Program}{w:World}{A:Around}{E:bL}{s:Shared}
def dB(t:Bool)(h:Heap)(it l:Addr)(i:Nat):Prop:=match t with | false=>h.IsListIter it l i | true=>h.IsTupleIter it l i
def dM(t:Bool)(h:Heap)(l:Addr)(xs:Array Value):Prop:=match t with | false=>h.IsList l xs | true=>h.IsTuple l xs
theorem wW(x:dB t h it l i)(k:∀o,h.get? it=some o ->h'.get? it=some o):dB t h' it l i:=by
 cases t<;>exact let ⟨o,ho,r⟩:=x;⟨o,k o ho,r⟩
theorem RJ(x:dM t h l xs)(k:∀o,h.get? l=some o ->h'.get? l=some o):dM t h' l xs:=by
 cases t<;>exact let ⟨o,ho,r⟩:=x;⟨o,k o ho,r⟩
theorem KD(x:dB t h it l i):∃o,h.get? it=some o/\∀v,o.data≠ .cell v:=by
 cases t<;>exact let ⟨o,ho,_,d⟩:=x;⟨o,ho,fun v z=>by rw[d] at z;cases z⟩
theorem GX(hl:dM t s.heap l xs)
  (hQ:Q (.ref s.heap.objs.size) {s with heap:=s.heap.push {cls:= .type (if t then "tuple_iterator" else "list_iterator"),data:= .fields #[.ref l,.int 0 0]}}):wpAny (model prog w) A (pyIter (.ref l)) Q E s:=by
 cases t
 ·exact wpAny_pyIter_list hl hQ
 ·exact wpAny_pyIter_tuple hl hQ
theorem RK(hit:dB t s.heap it l i)(hl:dM t s.heap l xs)(hx:xs[i]?=some x)
  (hQ:∀h',dB t h' it l (i+1) ->Heap.SameBut it s.heap h' ->Q x {s with heap:=h'}):wpAny (model prog w) A (Builtin.SmallTypes.nextOf (.ref it)) Q E s:=by
 cases t
 ·exact wpAny_nextOf_list_item hit hl hx hQ
 ·have hit2:s.heap.IsTupleIter it l i:=hit;obtain⟨o,ho,hc,hd⟩:=id hit2;obtain⟨ol,hol,_,nl,hdl⟩:=(show s.heap.IsTuple l xs from hl);unfold Builtin.SmallTypes.nextOf;refine z8 (wpAny_callSpecial?_slot (name:=Str.ofString "__next__") hit2.typeIs F.slot_tuple_iterator_next (wpAny_call_entry F.slot_tuple_iterator_next hit2.typeIs F.entry_tuple_iterator_next ?_ (F.args_tuple_iterator_next_1 _)));show wpAny _ _ (field (.ref it) 0>>=_) _ _ s;refine z8 (wpAny_field ho hd (x:= .ref l) rfl ?_);show wpAny _ _ (if (Value.ref l==Value.none)=true then _ else _) _ _ s;rw[if_neg (show¬((Value.ref l==Value.none)=true) from Bool.false_ne_true)];show wpAny _ _ (field (.ref it) 1>>=_) _ _ s;refine z8 (wpAny_field ho hd (x:= .int i 0) rfl ?_);show wpAny _ _ (seqItems? (.ref l)>>=_) _ _ s;refine z8 (wpAny_seqItems hol hdl ?_);simp only [Int.toNat_natCast,hx];refine z8 (wpAny_setField ho hd (by simp) (z9 ⟨x,rfl,z9 (hQ _ ?_ (Heap.SameBut.update ..))⟩))
  exact⟨_,Heap.get?_update_self _ ho (Obj.isFreed_of_fields (Obj.data_mapFields hd _)),(Obj.cls_mapFields ..).trans hc,by rw[Obj.data_mapFields hd];simp [rawInt]⟩
theorem Y8(hh:A.handled=none)(hit:dB t s.heap it l i)(hl:dM t s.heap l xs)(hx:xs[i]?=none)
  (hE:∀h' e,Heap.ExtBut it s.heap h' ->(∃o,h'.get? e=some o/\o.cls= .type "StopIteration") ->E (.ref e) {s with heap:=h'}):wpAny (model prog w) A (Builtin.SmallTypes.nextOf (.ref it)) Q E s:=by
 cases t
 ·exact wpAny_nextOf_list_end hh hit hl hx hE
 ·have hit2:s.heap.IsTupleIter it l i:=hit;obtain⟨o,ho,hc,hd⟩:=id hit2;obtain⟨ol,hol,_,nl,hdl⟩:=(show s.heap.IsTuple l xs from hl);unfold Builtin.SmallTypes.nextOf;refine z8 (wpAny_callSpecial?_slot (name:=Str.ofString "__next__") hit2.typeIs F.slot_tuple_iterator_next (wpAny_call_entry F.slot_tuple_iterator_next hit2.typeIs F.entry_tuple_iterator_next ?_ (F.args_tuple_iterator_next_1 _)));show wpAny _ _ (field (.ref it) 0>>=_) _ _ s;refine z8 (wpAny_field ho hd (x:= .ref l) rfl ?_);show wpAny _ _ (if (Value.ref l==Value.none)=true then _ else _) _ _ s;rw[if_neg (show¬((Value.ref l==Value.none)=true) from Bool.false_ne_true)];show wpAny _ _ (field (.ref it) 1>>=_) _ _ s;refine z8 (wpAny_field ho hd (x:= .int i 0) rfl ?_);show wpAny _ _ (seqItems? (.ref l)>>=_) _ _ s;refine z8 (wpAny_seqItems hol hdl ?_);simp only [Int.toNat_natCast,hx];refine z8 (wpAny_rule (z8 (wpAny_setField ho hd (by simp) ?_)))
  show wpAny _ _ (newExc (.type "StopIteration") []>>=_) _ _ _;refine z8 ?_;simp only [newExc,newTuple];refine z8 (wpAny_newObj_type ?_ (by size_fits))
  refine z8 (m:=firstArgMember _ _) (wpAny_of_eq (a:=Value.none) (by first | rfl | (simp only [firstArgMember];rfl)) ?_)
  refine wpAny_newObj_type ?_ (by size_fits)
  simp only [raiseNew];refine z8 (wpAny_handled ?_)
  first | rw[show A.in1.handled=none from hh] | rw[hh]
  refine z8 (z9 (wpAny_throw ?_));exact hE _ _ (((Heap.SameBut.update ..).extBut.push _).push _) ⟨_,zY _ rfl,rfl⟩
structure nF (z TI TO i1 i2 l1 l2:Addr):Prop where
 p:TI≠z/\TO≠z/\i1≠z/\i2≠z/\TI≠TO/\TI≠i1/\TI≠i2/\TO≠i1/\TO≠i2/\i1≠i2
 q:l1≠z/\l1≠TO/\l1≠i1/\l1≠i2/\l2≠z/\l2≠TO/\l2≠i1/\l2≠i2
theorem nF.k{z TI TO i1 i2 l1 l2:Addr}(D:nF z TI TO i1 i2 l1 l2):ZipApart z TI TO i1 i2 l1 l2:=by
 obtain⟨⟨a1,a2,a3,a4,a5,a6,a7,a8,a9,a10⟩,b1,b2,b3,b4,b5,b6,b7,b8⟩:=D;exact⟨a1,a2,a3,a4,a5,a6,a7,a8,a9,a10,b1,b2,b3,b4,b5,b6,b7,b8⟩
theorem zwz{t1 t2:Bool}{z TI TO i1 i2 l1 l2:Addr}{k1 k2:Nat}{xs ys:Array Value}{x y a b:Value}{Q:bL}(D:ZipApart z TI TO i1 i2 l1 l2)(hz:IsZip s.heap z TI TO .none)(hTI:IsPair s.heap TI (.ref i1) (.ref i2))(hTO:IsPair s.heap TO a b)
  (h1:dB t1 s.heap i1 l1 k1) (h2:dB t2 s.heap i2 l2 k2) (hl1:dM t1 s.heap l1 xs) (hl2:dM t2 s.heap l2 ys) (hx:xs[k1]?=some x) (hy:ys[k2]?=some y)
  (hQ:∀h',IsZip h' z TI TO (rawInt s.heap.objs.size) ->IsPair h' TO x y ->dB t1 h' i1 l1 (k1+1) ->dB t2 h' i2 l2 (k2+1) ->IsPair h' s.heap.objs.size x y ->h'.objs.size=s.heap.objs.size+1 ->
   (∀c o,c≠z ->c≠TO ->c≠i1 ->c≠i2 ->s.heap.get? c=some o ->h'.get? c=some o) ->Q (.ref s.heap.objs.size) {s with heap:=h'}):wpAny (model prog w) A (Builtin.«zip.__next__» ⟨[.ref z],[]⟩) (fun fin s' =>∃v,fin= .done (.ret v)/\Q v s') E s:=by
 have kI:∀{t:Bool} {h h' :Heap} {it l c:Addr} {i:Nat},dB t h it l i ->Heap.ExtBut c h h' ->it≠c ->dB t h' it l i:=fun x e n=>wW x fun o ho=>e _ o n ho;have kS:∀{t:Bool} {h h' :Heap} {l c:Addr} {ws:Array Value},dM t h l ws ->Heap.ExtBut c h h' ->l≠c ->dM t h' l ws:=fun x e n=>RJ x fun o ho=>e _ o n ho;show wpAny _ _ (field (.ref z) 2>>=_) _ _ _;refine z8 (wpAny_field hz rfl (x:= .bool false) rfl ?_);show wpAny _ _ (field (.ref z) 3>>=_) _ _ _;refine z8 (wpAny_field hz rfl (x:= .ref TI) rfl ?_);refine z8 (wpAny_seqItems hTI rfl ?_);show wpAny _ _ (Builtin.SmallTypes.ownedTupleIsFree (.ref z)>>=_) _ _ _;refine z8 ?_;unfold Builtin.SmallTypes.ownedTupleIsFree;refine z8 (wpAny_field hz rfl (x:= .none) rfl (z9 ?_));simp only [if_true];refine z8 (wpAny_rule ?_);refine z8 (wpAny_field hz rfl (x:= .ref TO) rfl ?_);refine z8 (wpAny_setField_rec hz (by simp) fun g1 hz1 hs1=> ?_)
 replace hz1:IsZip g1 z TI TO .ellipsis:=hz1;refine z8 ?_;simp only [List.zipIdx_cons,List.zipIdx_nil,List.forIn_cons,List.forIn_nil];refine z8 (z8 (wpAny_onRaise ?_));show wpAny _ _ (Builtin.SmallTypes.nextOf (.ref i1)>>=_) _ _ _;refine z8 (RK (kI h1 hs1.extBut D.i1z) (kS hl1 hs1.extBut D.l1z) hx fun g2 q1 hs2=>z9 ?_);have G3 :IsPair g2 TO a b:=hs2.extBut _ _ D.TOi1 (hs1.extBut _ _ D.TOz hTO);refine z8 (wpAny_seqItems G3 rfl ?_);refine z8 (wpAny_updateSeq_pair G3 fun g3 t3 hs3=> ?_);replace t3:IsPair g3 TO x b:=t3;refine z8 (wpAny_letGo (z9 ?_));refine z8 (z8 (wpAny_onRaise ?_));show wpAny _ _ (Builtin.SmallTypes.nextOf (.ref i2)>>=_) _ _ _;refine z8 (RK (kI (kI (kI h2 hs1.extBut D.i2z) hs2.extBut D.i12.symm) hs3.extBut D.TOi2.symm) (kS (kS (kS hl2 hs1.extBut D.l2z) hs2.extBut D.l2i1) hs3.extBut D.l2TO) hy fun g4 q2 wX=>z9 ?_);have t4:IsPair g4 TO x b:=wX.extBut _ _ D.TOi2 t3;refine z8 (wpAny_seqItems t4 rfl ?_);refine z8 (wpAny_updateSeq_pair t4 fun g5 t5 wY=> ?_);replace t5:IsPair g5 TO x y:=t5;refine z8 (wpAny_letGo (z9 (z9 ?_)));refine z8 (wpAny_seqItems t5 rfl ?_);refine z8 (wpAny_newTuple ?_);have hsz:g5.objs.size=s.heap.objs.size:=by rw[wY.1,wX.1,hs3.1,hs2.1,hs1.1]
 have Rh:IsZip g5 z TI TO .ellipsis:=wY.extBut _ _ D.TOz.symm (wX.extBut _ _ D.i2z.symm (hs3.extBut _ _ D.TOz.symm (hs2.extBut _ _ D.i1z.symm hz1)));have hk5:∀c o,c≠z ->c≠TO ->c≠i1 ->c≠i2 ->s.heap.get? c=some o ->g5.get? c=some o:=fun c o c1 c2 c3 c4 e=>wY.extBut _ _ c2 (wX.extBut _ _ c4 (hs3.extBut _ _ c2 (hs2.extBut _ _ c3 (hs1.extBut _ _ c1 e))));have r1:dB t1 g5 i1 l1 (k1+1):=kI (kI (kI q1 hs3.extBut D.TOi1.symm) wX.extBut D.i12) wY.extBut D.TOi1.symm;have r2:dB t2 g5 i2 l2 (k2+1):=kI q2 wY.extBut D.TOi2.symm;have Y9:z<g5.objs.size:=zG Rh;show wpAny _ _ (Builtin.SmallTypes.ownedTupleHandOut (.ref z) (.ref g5.objs.size)>>=_) _ _ _;refine z8 ?_;unfold Builtin.SmallTypes.ownedTupleHandOut;have hz6:IsZip (g5.push {cls:= .type "tuple",data:= .seq #[x,y]}) z TI TO .ellipsis:=zZ _ Rh;refine z8 (wpAny_setField_rec hz6 (by simp) fun g7 RL RM=> ?_)
 replace RL:IsZip g7 z TI TO (rawInt g5.objs.size):=RL;refine wpAny_setField_rec RL (by simp) fun g8 hz8 RN=> ?_
 replace hz8:IsZip g8 z TI TO (rawInt g5.objs.size):=hz8;have up:∀c o,c≠z ->g5.get? c=some o ->g8.get? c=some o:=fun c o c1 e=>RN.extBut _ _ c1 (RM.extBut _ _ c1 (zZ _ e));have hT8:IsPair g8 g5.objs.size x y:=RN.extBut _ _ (Nat.ne_of_gt Y9) (RM.extBut _ _ (Nat.ne_of_gt Y9) (zY _ rfl));have Za:g8.objs.size=g5.objs.size+1:=by rw[RN.1,RM.1,Heap.size_push]
 rw[hsz] at hz8 hT8 Za;refine z9 ⟨_,rfl,?_⟩;show Q (.ref g5.objs.size) _;rw[hsz];exact hQ g8 hz8 (up _ _ D.TOz t5) (wW r1 fun o e=>up _ o D.i1z e) (wW r2 fun o e=>up _ o D.i2z e) hT8 Za fun c o c1 c2 c3 c4 e=>up c o c1 (hk5 c o c1 c2 c3 c4 e)
theorem zz9{t1 t2:Bool}{z TI TO i1 i2 l1 l2:Addr}{k1 k2:Nat}{xs ys:Array Value}{a b:Value}{Q:Fin ->Shared ->Prop}(hh:A.handled=none)(D:ZipApart z TI TO i1 i2 l1 l2)(hz:IsZip s.heap z TI TO .none)(hTI:IsPair s.heap TI (.ref i1) (.ref i2))(hTO:IsPair s.heap TO a b)
  (h1:dB t1 s.heap i1 l1 k1) (h2:dB t2 s.heap i2 l2 k2) (hl1:dM t1 s.heap l1 xs) (hl2:dM t2 s.heap l2 ys) (hend:xs[k1]?=none\/ys[k2]?=none)
  (hE:∀h' e,(∀c o,c≠z ->c≠TO ->c≠i1 ->c≠i2 ->s.heap.get? c=some o ->h'.get? c=some o) ->(∃o,h'.get? e=some o/\o.cls= .type "StopIteration") ->E (.ref e) {s with heap:=h'}):wpAny (model prog w) A (Builtin.«zip.__next__» ⟨[.ref z],[]⟩) Q E s:=by
 have kI:∀{t:Bool} {h h' :Heap} {it l c:Addr} {i:Nat},dB t h it l i ->Heap.ExtBut c h h' ->it≠c ->dB t h' it l i:=fun x e n=>wW x fun o ho=>e _ o n ho;have kS:∀{t:Bool} {h h' :Heap} {l c:Addr} {ws:Array Value},dM t h l ws ->Heap.ExtBut c h h' ->l≠c ->dM t h' l ws:=fun x e n=>RJ x fun o ho=>e _ o n ho;show wpAny _ _ (field (.ref z) 2>>=_) _ _ _;refine z8 (wpAny_field hz rfl (x:= .bool false) rfl ?_);show wpAny _ _ (field (.ref z) 3>>=_) _ _ _;refine z8 (wpAny_field hz rfl (x:= .ref TI) rfl ?_);refine z8 (wpAny_seqItems hTI rfl ?_);show wpAny _ _ (Builtin.SmallTypes.ownedTupleIsFree (.ref z)>>=_) _ _ _;refine z8 ?_;unfold Builtin.SmallTypes.ownedTupleIsFree;refine z8 (wpAny_field hz rfl (x:= .none) rfl (z9 ?_));simp only [if_true];refine z8 (wpAny_rule ?_);refine z8 (wpAny_field hz rfl (x:= .ref TO) rfl ?_);refine z8 (wpAny_setField_rec hz (by simp) fun g1 hz1 hs1=> ?_)
 replace hz1:IsZip g1 z TI TO .ellipsis:=hz1;refine z8 ?_;simp only [List.zipIdx_cons,List.zipIdx_nil,List.forIn_cons,List.forIn_nil];refine z8 (z8 (wpAny_onRaise ?_));show wpAny _ _ (Builtin.SmallTypes.nextOf (.ref i1)>>=_) _ _ _;cases hx:xs[k1]? with
 | none=>
  refine z8 (Y8 hh (kI h1 hs1.extBut D.i1z) (kS hl1 hs1.extBut D.l1z) hx fun g2 e hs2 he=> ?_);obtain⟨oe,hoe,hce⟩:=he;have hz2:IsZip g2 z TI TO .ellipsis:=hs2 _ _ D.i1z.symm hz1;have hez:e≠z:=fun x=>by subst x;rw[hz2] at hoe;cases hoe;simp at hce
  exact wpAny_setField_rec hz2 (by simp) fun g3 _ hs3=>hE g3 e (fun c o c1 _ c3 _ x=>hs3.extBut _ _ c1 (hs2 _ _ c3 (hs1.extBut _ _ c1 x))) ⟨oe,hs3.extBut _ _ hez hoe,hce⟩
 | some x=>
  have hy:ys[k2]?=none:=by rcases hend with h | h;rw[hx] at h;cases h;exact h
  refine z8 (RK (kI h1 hs1.extBut D.i1z) (kS hl1 hs1.extBut D.l1z) hx fun g2 q1 hs2=>z9 ?_);have G3 :IsPair g2 TO a b:=hs2.extBut _ _ D.TOi1 (hs1.extBut _ _ D.TOz hTO);refine z8 (wpAny_seqItems G3 rfl ?_);refine z8 (wpAny_updateSeq_pair G3 fun g3 t3 hs3=> ?_);refine z8 (wpAny_letGo (z9 ?_));refine z8 (z8 (wpAny_onRaise ?_));show wpAny _ _ (Builtin.SmallTypes.nextOf (.ref i2)>>=_) _ _ _;refine z8 (Y8 hh (kI (kI (kI h2 hs1.extBut D.i2z) hs2.extBut D.i12.symm) hs3.extBut D.TOi2.symm) (kS (kS (kS hl2 hs1.extBut D.l2z) hs2.extBut D.l2i1) hs3.extBut D.l2TO) hy fun g4 e wX he=> ?_);obtain⟨oe,hoe,hce⟩:=he;have Zb:IsZip g4 z TI TO .ellipsis:=wX _ _ D.i2z.symm (hs3.extBut _ _ D.TOz.symm (hs2.extBut _ _ D.i1z.symm hz1));have hez:e≠z:=fun x=>by subst x;rw[Zb] at hoe;cases hoe;simp at hce
  exact wpAny_setField_rec Zb (by simp) fun g5 _ wY=>hE g5 e (fun c o c1 c2 c3 c4 x=>wY.extBut _ _ c1 (wX _ _ c4 (hs3.extBut _ _ c2 (hs2.extBut _ _ c3 (hs1.extBut _ _ c1 x))))) ⟨oe,wY.extBut _ _ hez hoe,hce⟩
theorem zti{t1 t2:Bool}{z TI TO i1 i2 l1 l2:Addr}{k1 k2:Nat}{xs ys:Array Value}{x y a b:Value}{Q:Option Value ->Shared ->Prop}(D:ZipApart z TI TO i1 i2 l1 l2)(hz:IsZip s.heap z TI TO .none)(hTI:IsPair s.heap TI (.ref i1) (.ref i2))(hTO:IsPair s.heap TO a b)
  (h1:dB t1 s.heap i1 l1 k1) (h2:dB t2 s.heap i2 l2 k2) (hl1:dM t1 s.heap l1 xs) (hl2:dM t2 s.heap l2 ys) (hx:xs[k1]?=some x) (hy:ys[k2]?=some y)
  (hQ:∀h',IsZip h' z TI TO (rawInt s.heap.objs.size) ->IsPair h' TO x y ->dB t1 h' i1 l1 (k1+1) ->dB t2 h' i2 l2 (k2+1) ->IsPair h' s.heap.objs.size x y ->h'.objs.size=s.heap.objs.size+1 ->
   (∀c o,c≠z ->c≠TO ->c≠i1 ->c≠i2 ->s.heap.get? c=some o ->h'.get? c=some o) ->Q (some (.ref s.heap.objs.size)) {s with heap:=h'}):wpAny (model prog w) A (pyNext (.ref z)) Q E s:=by
 have hT:s.TypeIs (.ref z) "zip" :=⟨_,hz,rfl⟩;unfold pyNext;exact z8 (wpAny_attempt (wpAny_callSpecial?_slot (name:=Str.ofString "__next__") hT F.slot_zip_next (wpAny_call_entry F.slot_zip_next hT F.entry_zip_next (zwz D hz hTI hTO h1 h2 hl1 hl2 hx hy fun h' a1 a2 a3 a4 a5 a6 a7=>z9 (hQ h' a1 a2 a3 a4 a5 a6 a7)) (F.args_zip_next_1 _))))
theorem zvm{t1 t2:Bool}{z TI TO i1 i2 l1 l2:Addr}{k1 k2:Nat}{xs ys:Array Value}{a b:Value}{Q:Option Value ->Shared ->Prop}(hh:A.handled=none)(D:ZipApart z TI TO i1 i2 l1 l2)(hz:IsZip s.heap z TI TO .none)(hTI:IsPair s.heap TI (.ref i1) (.ref i2))(hTO:IsPair s.heap TO a b)
  (h1:dB t1 s.heap i1 l1 k1) (h2:dB t2 s.heap i2 l2 k2) (hl1:dM t1 s.heap l1 xs) (hl2:dM t2 s.heap l2 ys) (hend:xs[k1]?=none\/ys[k2]?=none)
  (hQ:∀h',(∀c o,c≠z ->c≠TO ->c≠i1 ->c≠i2 ->s.heap.get? c=some o ->h'.get? c=some o) ->Q none {s with heap:=h'}):wpAny (model prog w) A (pyNext (.ref z)) Q E s:=by
 have hT:s.TypeIs (.ref z) "zip" :=⟨_,hz,rfl⟩;unfold pyNext;refine z8 (wpAny_attempt (wpAny_callSpecial?_slot (name:=Str.ofString "__next__") hT F.slot_zip_next (wpAny_call_entry F.slot_zip_next hT F.entry_zip_next (zz9 hh D hz hTI hTO h1 h2 hl1 hl2 hend fun h' e hk he=> ?_) (F.args_zip_next_1 _))));obtain⟨o,ho,hc⟩:=he;refine z8 (wpAny_isInstance (T:= "StopIteration") (b:=true) ⟨o,ho,hc⟩ isSubtype_stop ?_);exact z9 (hQ _ hk)
def G4(t:Bool):String:=if t then "tuple_iterator" else "list_iterator"
abbrev KH(t1:Bool)(h:Heap)(l1:Addr):Heap:=h.push {cls:= .type (G4 t1),data:= .fields #[.ref l1,.int 0 0]}
abbrev KJ(t1 t2:Bool)(h:Heap)(l1 l2:Addr):Heap:=(KH t1 h l1).push {cls:= .type (G4 t2),data:= .fields #[.ref l2,.int 0 0]}
abbrev KN(t1 t2:Bool)(h:Heap)(l1 l2:Addr):Heap:=(KJ t1 t2 h l1 l2).push {cls:= .type "tuple",data:= .seq #[.ref h.objs.size,.ref (KH t1 h l1).objs.size]}
abbrev KQ(t1 t2:Bool)(h:Heap)(l1 l2:Addr):Heap:=(KN t1 t2 h l1 l2).push {cls:= .type "tuple",data:= .seq #[.none,.none]}
abbrev CQ(t1 t2:Bool)(h:Heap)(l1 l2:Addr):Heap:=(KQ t1 t2 h l1 l2).push {cls:= .type "zip",data:= .fields #[.none,.bool false,.bool false,.ref (KJ t1 t2 h l1 l2).objs.size,.ref (KN t1 t2 h l1 l2).objs.size]}
theorem zwp(x:dM t h l xs)(o:Obj):dM t (h.push o) l xs:=RJ x fun _ e=>zZ _ e
theorem tV(hl:dM t s.heap l xs)
  (hQ:Q (.ref s.heap.objs.size) {s with heap:=s.heap.push {cls:= .type (G4 t),data:= .fields #[.ref l,.int 0 0]}}):wpAny (model prog w) A (pyIter (.ref l)) Q E s:=GX hl hQ
theorem Al(t1 t2:Bool)(l1 l2:Addr)(xs ys:Array Value):Meets (Builtin.«zip.__new__» ⟨[.type "zip",.ref l1,.ref l2],[]⟩) (fun _ R s=>dM t1 s.heap l1 xs/\dM t2 s.heap l2 ys/\R (.ok (.ret (.ref (KQ t1 t2 s.heap l1 l2).objs.size))) {s with heap:=CQ t1 t2 s.heap l1 l2}):=
 .of_wp fun prog w A R s h=>by
  obtain⟨hp,g,d,tk,os⟩:=s;obtain⟨hl1,hl2,h⟩:=h;have hsub:=sub_zip;have hL1:dM t1 (Shared.heap ⟨hp,g,d,tk,os⟩) l1 xs:=hl1;have hL2:dM t2 (Shared.heap ⟨hp.push {cls:= .type (G4 t1),data:= .fields #[.ref l1,.int 0 0]},g,d,tk,os⟩) l2 ys:=zwp hl2 _
  wp_walk using tV hL1,tV hL2
  exact⟨_,rfl,h⟩
theorem Zc(e:h.get? a=some {cls:= .type (G4 t),data:= .fields #[.ref l,.int 0 0]}):dB t h a l 0:=by
 cases t<;>exact⟨_,e,rfl,rfl⟩
theorem zxj(hl1:dM t1 s.heap l1 xs)(hl2:dM t2 s.heap l2 ys)
  (h:∀h',IsZip h' (s.heap.objs.size+4) (s.heap.objs.size+2) (s.heap.objs.size+3) .none ->IsPair h' (s.heap.objs.size+2) (.ref s.heap.objs.size) (.ref (s.heap.objs.size+1)) ->IsPair h' (s.heap.objs.size+3) .none .none ->dB t1 h' s.heap.objs.size l1 0 ->dB t2 h' (s.heap.objs.size+1) l2 0 ->
   (∀c o,s.heap.get? c=some o ->h'.get? c=some o) ->Q (.ref (s.heap.objs.size+4)) {s with heap:=h'}):wpAny (model prog w) A (call (.type "zip") [.ref l1,.ref l2]) Q E s:=by
 refine callType_new F.called_zip (by decide) (F.typeCall_zip_2 _ _) (F.newCall_zip_2 _ _) (fun obj=>F.args_object_init_3 obj _ _) F.entry_zip_new (Al t1 t2 l1 l2 xs ys) ⟨hl1,hl2,?_⟩
 have z1:(KH t1 s.heap l1).objs.size=s.heap.objs.size+1:=Heap.size_push ..;have z2:(KJ t1 t2 s.heap l1 l2).objs.size=s.heap.objs.size+2:=by rw[Heap.size_push,z1]
 have z3:(KN t1 t2 s.heap l1 l2).objs.size=s.heap.objs.size+3:=by rw[Heap.size_push,z2]
 have z4:(KQ t1 t2 s.heap l1 l2).objs.size=s.heap.objs.size+4:=by rw[Heap.size_push,z3]
 have g5:(CQ t1 t2 s.heap l1 l2).get? (KQ t1 t2 s.heap l1 l2).objs.size=some _:=zY _ rfl;have g4:(CQ t1 t2 s.heap l1 l2).get? (KN t1 t2 s.heap l1 l2).objs.size=some _:=zZ _ (zY _ rfl);have g3:(CQ t1 t2 s.heap l1 l2).get? (KJ t1 t2 s.heap l1 l2).objs.size=some _:=zZ _ (zZ _ (zY _ rfl));have g2:(CQ t1 t2 s.heap l1 l2).get? (KH t1 s.heap l1).objs.size=some _:=zZ _ (zZ _ (zZ _ (zY _ rfl)));have g1:(CQ t1 t2 s.heap l1 l2).get? s.heap.objs.size=some _:=zZ _ (zZ _ (zZ _ (zZ _ (zY _ rfl))));show _/\_;rw[z2,z3,z4] at g5;rw[z1,z2] at g3;rw[z3] at g4;rw[z1] at g2;rw[z4];exact⟨⟨_,g5,rfl⟩,h _ g5 g3 g4 (Zc g1) (Zc g2) fun c o x=>zZ _ (zZ _ (zZ _ (zZ _ (zZ _ x))))⟩
end
def Sq(t:Bool)(K:W.Frag)(H:Hp)(a:Addr)(xs:List V):Prop:=match t with | false=>fZ K H a xs | true=>je K H a xs
theorem CT(I:Inv X pins σ H s)(h:Sq t X.K H a xs):∃its:List Value,Vals xs its/\dM t s.heap a its.toArray/\xs.length<=sizeLine:=by
 cases t
 ·obtain⟨its,rv,p,hz⟩:=I.list h;exact⟨its,rv,p.isList,hz⟩
 ·obtain⟨its,rv,p,hz⟩:=I.tuple h;exact⟨its,rv,p,hz⟩
theorem Zd(I:Inv X pins σ H s)(h:Sq t X.K H a xs)(h' :Sq t X.K H a ys):xs=ys:=by
 cases t
 ·exact I.list_inj h h'
 ·exact I.tuple_inj h h'
def RP(K:W.Frag)(t1 t2:Bool)(a b:Addr):It:=
 ⟨fun i H=>∃xs ys x y,Sq t1 K H a xs/\Sq t2 K H b ys/\xs[i]?=some x/\ys[i]?=some y,fun i H v H' =>∃c x y,v= .ref c/\H c=none/\H' =upd H c (.tup [x,y])/\ (∀xs,Sq t1 K H a xs ->xs[i]?=some x)/\∀ys,Sq t2 K H b ys ->ys[i]?=some y,
  fun i H=>∃xs ys,Sq t1 K H a xs/\Sq t2 K H b ys/\ (xs.length<=i\/ys.length<=i)⟩
theorem zap{n l1 l2:Nat}(h1:l1<n)(h2:l2<n):nF (n+4) (n+2) (n+3) n (n+1) l1 l2:=by
 have e:∀a b:Nat,a≠b ->(a:Addr)≠b:=fun _ _ h=>h;refine⟨⟨e _ _ ?_,e _ _ ?_,e _ _ ?_,e _ _ ?_,e _ _ ?_,e _ _ ?_,e _ _ ?_,e _ _ ?_,e _ _ ?_,e _ _ ?_⟩,e _ _ ?_,e _ _ ?_,e _ _ ?_,e _ _ ?_,e _ _ ?_,e _ _ ?_,e _ _ ?_,e _ _ ?_⟩<;>omega
theorem zyp{P:Program}{w:World}{K:W.Frag}{elts:List Expr}{x1}{pos:Pos}(t1 t2:Bool)(a b z TI TO i1 i2:Addr)(D:nF z TI TO i1 i2 a b):Turn P w K (.Tuple elts x1 pos) (RP K t1 t2 a b) [z,TI,TO,i1,i2] z
  (fun i h=>IsZip h z TI TO .none/\IsPair h TI (.ref i1) (.ref i2)/\ (∃u v,IsPair h TO u v)/\dB t1 h i1 a i/\dB t2 h i2 b i) where
 mem:=by simp
 obj:=fun i h q c hc=>by
  obtain⟨q1,q2,⟨u,v,q3⟩,q4,q5⟩:=q;simp only [List.mem_cons,List.not_mem_nil,or_false] at hc;rcases hc with rfl | rfl | rfl | rfl | rfl
  ·exact⟨_,q1,fun v z=>by cases z⟩
  ·exact⟨_,q2,fun v z=>by cases z⟩
  ·exact⟨_,q3,fun v z=>by cases z⟩
  ·exact KD q4
  ·exact KD q5
 keep:=fun i h h' q k=>by
  obtain⟨q1,q2,⟨u,v,q3⟩,q4,q5⟩:=q;exact⟨k z (by simp) _ q1,k TI (by simp) _ q2,⟨u,v,k TO (by simp) _ q3⟩,wW q4 fun o e=>k i1 (by simp) o e,wW q5 fun o e=>k i2 (by simp) o e⟩
 item:=by
  intro X hP hw hK hc i pins s σ H E I hf q hg;obtain⟨q1,q2,⟨u,v,q3⟩,q4,q5⟩:=q;subst hP hw hK;obtain⟨xs,ys,x,y,hq1,hq2,hx,hy⟩:=hg;obtain⟨its,rv,p,_⟩:=CT I hq1;obtain⟨jts,KR,p2,_⟩:=CT I hq2;obtain⟨ux,hux,rux⟩:=rv.get hx;obtain⟨uy,huy,ruy⟩:=KR.get hy;have lt:∀c∈ [z,TI,TO,i1,i2],c<s.heap.objs.size:=fun c hc=>by
   simp only [List.mem_cons,List.not_mem_nil,or_false] at hc;rcases hc with rfl | rfl | rfl | rfl | rfl
   ·exact zG q1
   ·exact zG q2
   ·exact zG q3
   ·obtain⟨o,e,_⟩:=KD q4;exact zG e
   ·obtain⟨o,e,_⟩:=KD q5;exact zG e
  have Dk:=D.k;refine zti Dk q1 q2 q3 q4 q5 p p2 (x:=ux) (y:=uy) (by simpa using hux) (by simpa using huy) fun h1 a1 a2 a3 a4 a5 a6 k1=> ?_
  refine⟨_,rfl,wpAny_letOwnedTupleGo_zip a1 fun h2 e2 sb=> ?_⟩;have u5:Heap.SameBut z h1 h2:=sb;have zl:=lt z (by simp)
  have I2:Inv X pins σ (upd H s.heap.objs.size (.tup [x,y])) {s with heap:=h2,toks:=s.toks}:=
   Y5 (fp:= [z,TI,TO,i1,i2]) (its:= [ux,uy]) I (fun c o hb e=>u5.extBut c o (fun y=>hb (by simp [y])) (k1 c o (fun y=>hb (by simp [y])) (fun y=>hb (by simp [y])) (fun y=>hb (by simp [y])) (fun y=>hb (by simp [y])) e))
    lt ((u5.2 _ (Nat.ne_of_gt zl)).trans a5) (.cons rux (.cons ruy .nil)) (by show(2:Nat)<=sizeLine;decide) hf
  refine⟨.ref s.heap.objs.size,_,I2,rfl,⟨_,x,y,rfl,I.fresh,rfl,fun zs hz=>by rw[Zd I hz hq1];exact hx,fun zs hz=>by rw[Zd I hz hq2];exact hy⟩,⟨e2,?_,⟨ux,uy,u5.extBut _ _ Dk.TOz a2⟩,wW a3 fun o e=>u5.extBut _ o Dk.i1z e,wW a4 fun o e=>u5.extBut _ o Dk.i2z e⟩,fun c hc=> ?_⟩
  ·exact u5.extBut _ _ Dk.TIz (k1 _ _ Dk.TIz Dk.TITO Dk.TIi1 Dk.TIi2 q2)
  ·exact(RB (hf c hc) (zJ (lt c hc))).1
 done:=by
  intro X hP hw hK hc i pins s σ H E I hf q hg;obtain⟨q1,q2,⟨u,v,q3⟩,q4,q5⟩:=q;subst hP hw hK;obtain⟨xs,ys,hq1,hq2,hx⟩:=hg;obtain⟨its,rv,p,_⟩:=CT I hq1;obtain⟨jts,KR,p2,_⟩:=CT I hq2;have l1:=rv.length;have l2:=KR.length;refine zvm (I.ok.hd hc) D.k q1 q2 q3 q4 q5 p p2 ?_ fun h' k1=>⟨rfl,Rz (t' :=s.toks) (fp:= [z,TI,TO,i1,i2]) I (fun c o hb e=>k1 c o (fun y=>hb (by simp [y])) (fun y=>hb (by simp [y])) (fun y=>hb (by simp [y])) (fun y=>hb (by simp [y])) e) hf⟩
  rcases hx with hx | hx
  ·exact .inl (by simp;omega)
  ·exact .inr (by simp;omega)
 self:=fun _ _ _ _ _ q h=>wpAny_pyIter_zip q.1 h
theorem zyo:bootBuiltins "zip" =some (.type "zip"):=by decide+kernel
def RQ(K:W.Frag)(ta:TA):TI:=fun σ H R=>ta σ H fun vs H1=>∃t1 t2 a b xs ys,vs= [.ref a,.ref b]/\Sq t1 K H1 a xs/\Sq t2 K H1 b ys/\ (xs.length<=sizeLine ->ys.length<=sizeLine ->R (RP K t1 t2 a b) H1)
theorem z4s{X:Cx}{a b:Expr}{ta:TA}{p pos:Pos}{elts:List Expr}{x1}{pt:Pos}(hg:Gl X "zip")(hm:X.mg "zip" =none)(ha:PA X [a,b] ta)(hs:starEach [a,b] X.env=(false,eval a X.env)::starEach [b] X.env:=by rfl)(hpl:(backTo pos (starEach [b] X.env)).any (·.1)=false:=by rfl):
  PI X (.Tuple elts x1 pt) (.Call (.Name "zip" p) [a,b] [] pos) (RQ X.K ta):=by
 intro pins s σ H R I h;refine Call_ (vB I hg hm zyo (PyProof.Rows.callWith_type1 (bG (ha pos pins s σ H _ I h) fun us s1 ⟨vs,H1,I1,r1,q1⟩=> ?_) hs hpl));obtain⟨t1,t2,l1,l2,xs,ys,rfl,hq1,hq2,q⟩:=q1;cases r1 with
 | cons r rr=>
  cases rr with
  | cons r' rr=>
   cases rr;cases r;cases r';obtain⟨its,rv,p1,hz1⟩:=CT I1 hq1;obtain⟨jts,KR,p2,hz2⟩:=CT I1 hq2;have n1:l1<s1.heap.objs.size:=by cases t1<;>exact let ⟨o,e,_⟩:=p1;zG e
   have n2:l2<s1.heap.objs.size:=by cases t2<;>exact let ⟨o,e,_⟩:=p2;zG e
   refine zxj p1 p2 fun h' e1 e2 e3 e4 e5 kp=> ?_;refine wpAny_pyIter_zip e1 ⟨s1.heap.objs.size+4,[s1.heap.objs.size+4,s1.heap.objs.size+2,s1.heap.objs.size+3,s1.heap.objs.size,s1.heap.objs.size+1],_,_,H1,rfl,I1.kept (t' :=s1.toks) kp,
    zyp t1 t2 l1 l2 _ _ _ _ _ (zap n1 n2),⟨e1,e2,⟨_,_,e3⟩,e4,e5⟩,fun c hc=> ?_,q hz1 hz2⟩
   have hb2:s1.heap.objs.size<=c:=by
    simp only [List.mem_cons,List.not_mem_nil,or_false] at hc;rcases hc with rfl | rfl | rfl | rfl | rfl
    ·exact Nat.le_add_right _ _
    ·exact Nat.le_add_right _ _
    ·exact Nat.le_add_right _ _
    ·exact zM _
    ·exact Nat.le_add_right _ _
   exact I1.fpOk hb2 (I1.hok.fresh hb2)
def kj(xs ys:List D):List D:=List.zipWith (fun x y=> .tup [x,y]) xs ys
theorem Ze{K:W.Frag}{F:Hp}{t1 t2:Bool}{a b:Addr}{vs us:List V}{xs ys:List D}(hq1:∀H1,Same F H1 ->Sq t1 K H1 a vs)(hq2:∀H1,Same F H1 ->Sq t2 K H1 b us)(r1:ak K F xs vs)(r2:ak K F ys us)(hz:vs.length<=sizeLine):wO K F Ad (RP K t1 t2 a b) (kj xs ys):=by
 have l1:=iu r1;have l2:=iu r2;have lz:(kj xs ys).length=min xs.length ys.length:=List.length_zipWith;refine⟨by omega,fun i H2 F2 s2 s3 _=>⟨fun e=>⟨vs,us,hq1 H2 (s2.trans s3),hq2 H2 (s2.trans s3),by omega⟩,fun d hd=> ?_⟩⟩
 unfold kj at hd;rw[List.getElem?_zipWith] at hd;cases e1:xs[i]? with
 | none=>rw[e1] at hd;cases hd
 | some x=>
  cases e2:ys[i]? with
  | none=>rw[e1,e2] at hd;cases hd
  | some y=>
   rw[e1,e2] at hd;cases hd;obtain⟨v,hv,rv⟩:=oH r1 e1;obtain⟨u,hu,ru⟩:=oH r2 e2;refine⟨⟨vs,us,v,u,hq1 H2 (s2.trans s3),hq2 H2 (s2.trans s3),hv,hu⟩,fun w H' z=> ?_⟩;obtain⟨c,v2,u2,rfl,hc,rfl,z1,z2⟩:=z;have:=z1 vs (hq1 H2 (s2.trans s3));rw[hv] at this;cases this;have:=z2 us (hq2 H2 (s2.trans s3));rw[hu] at this;cases this;have gr:=Gr.laid (o:=HO.tup [v,u]) s3 hc;refine⟨_,gr,?_⟩;unfold Rep;exact⟨c,_,rfl,.inl (.inl mQ),pW ((rv.up s2).up gr.f) (pW ((ru.up s2).up gr.f) (by unfold ak;rfl))⟩
def sqD:D ->Option (Bool×List D) | .lst xs=>some (false,xs) | .tup xs=>some (true,xs) | _=>none
def G5(t:bA):bA:=fun Γ P E=>t Γ (fun ds Γ1=>match ds with | [x,y]=>(match x,y with | .lst xs,.lst ys=>P (kj xs ys) Γ1 | .tup xs,.tup ys=>P (kj xs ys) Γ1 | _,_=>False) | _=>False) E
section
variable{X:Cx}{F0 H0:Hp}{a b e tg:Expr}{es:List Expr}{pos p pt:Pos}{te:aK}{t:bA}{elts:List Expr}
theorem RT{x1}(hc:X.calm=true)(hg:Gl X "zip")(hm:X.mg "zip" =none)(ha:QA X F0 H0 [a,b] t)(hs:starEach [a,b] X.env=(false,eval a X.env)::starEach [b] X.env:=by rfl)(hpl:(backTo pos (starEach [b] X.env)).any (·.1)=false:=by rfl):
  QI X F0 H0 (.Tuple elts x1 pt) (.Call (.Name "zip" p) [a,b] [] pos) (G5 t):=fun z E cx=>Cu (z4s (X:=X.wsh z) hg hm (ha z E cx) hs hpl) fun σ H R hq2=>by obtain⟨F,Γ,P,S,q,k⟩:=hq2;exact⟨F,Γ,_,S,q,fun ds Γ1 F1 H1 vs R1 s1 r1 h1=>by
  unfold G5 at*;split at h1
  ·split at h1
   ·unfold ak ak ak Rep at r1;obtain⟨v,_,rfl,⟨l,us,rfl,hq,rs⟩,⟨v2,_,rfl,⟨l2,RV,rfl,hq2,CP⟩,rfl⟩⟩:=r1;exact⟨false,false,l,l2,us,RV,rfl,R1.g.seq hq,R1.g.seq hq2,fun hz _=>k _ Γ1 F1 H1 _ R1 s1 (Ze (t1:=false) (t2:=false) (fun H s=>s.seq hq) (fun H s=>s.seq hq2) rs CP hz) h1⟩
   ·unfold ak ak ak Rep at r1;obtain⟨v,_,rfl,⟨l,us,rfl,hq,rs⟩,⟨v2,_,rfl,⟨l2,RV,rfl,hq2,CP⟩,rfl⟩⟩:=r1;exact⟨true,true,l,l2,us,RV,rfl,lA R1.g hq,lA R1.g hq2,fun hz _=>k _ Γ1 F1 H1 _ R1 s1 (Ze (t1:=true) (t2:=true) (fun H s=>lA s hq) (fun H s=>lA s hq2) rs CP hz) h1⟩
   ·exact h1.elim
  ·exact h1.elim⟩
end
def wZ:List Str ->List D ->Str ->Option D
 | f::fs,d::ds,g=>if g=f then some d else wZ fs ds g
 | _,_,_=>none
def aa4(C:Addr)(f:Str)(te:aK):aK:=fun Γ P E=>te Γ (fun d Γ1=>match d with | .obj C' fs ds=>C' =C/\∃x,wZ fs ds f=some x/\P x Γ1 | _=>False) E
def Zf(C:Addr)(m:Str)(sp:cO)(te:aK)(t:bA):aK:=fun Γ P E=>te Γ (fun d Γ1=>match d with
 | .obj C' fs ds=>C' =C/\m∉fs/\t Γ1 (fun es Γ2=>sp (.obj C' fs ds::es) (fun r=>P r Γ2) fun Cx=>E Γ2 Cx) E
 | _=>False) E
section
variable{X:Cx}{F0 H0:Hp}{e o:Expr}{es:List Expr}{pos p apos:Pos}{f m:Str}{C fa:Addr}{fd:FuncData}{ps:List Str}{k:Nat}{sp:cO}{te:aK}{t:bA}
end
def Am(K:W.Frag)(C:Addr)(f:Str)(sp:cO):Sp:=fun vs H Q E=>∃x dx rest F ds Pd Ex,vs= .ref x::rest/\H x=some (.ins C dx [])/\H dx=some (.own x)/\dx≠x/\Same F H/\F x=none/\F dx=none/\ak K F ds rest/\sp ds Pd Ex/\
 (∀d F' H' H3 v,Gr F H F' H3 ->Rep K F' d v ->Pd d ->H' =upd H3 x (.ins C dx [(f,v)]) ->Q .non H')/\∀C' H',Ex C' ->Same H H' ->E C' none H'
def Zg(C:Addr)(f:Str)(sp:cO):cO:=fun ds P E=>sp ds (fun d=>P (.obj C [f] [d])) E
section
variable{P:Program}{w:World}{K:W.Frag}{mg:Str ->Option Value}{base:Heap}
end
section
variable{X:Cx}{F0 H0:Hp}{e:Expr}{es:List Expr}{pos p:Pos}{x fl:Str}{C f:Addr}{fd:FuncData}{ps:List Str}{k:Nat}{sp:cO}{t:bA}
end
structure Mt2 (P:Program) (w:World) (K:W.Frag) (mg:Str ->Option Value) (base:Heap) (C:Addr) (m:Str) (k:Nat) (ps:List Str) (sp:cO):Prop where
 ex:∃f fd,eY P w K mg base (iw P w) k f fd ps (j9 K sp)/\Meth K C m f/\Binds K fd ps []
structure Mk2 (P:Program) (w:World) (K:W.Frag) (mg:Str ->Option Value) (base:Heap) (x:Str) (C:Addr) (fl:Str) (k:Nat) (ps:List Str) (sp:cO):Prop where
 ex:∃f fd,eY P w K mg base (iw P w) k f fd ps (Am K C fl sp)/\Mk K C f/\mg x=some (.ref C)/\Binds K fd ps []
def aa5(te:aK)(tl th:uZ):aK:=fun Γ P E=>te Γ (fun d Γ1=>tl Γ1 (fun l Γ2=>th Γ2 (fun u Γ3=>match d with | .tup xs=>¬(HT.sIx xs.length 0 l=0/\HT.sIx xs.length xs.length u=xs.length)/\P (.tup (cutD xs l u)) Γ3 | _=>False) E) E) E
section
variable{X:Cx}{F0 H0:Hp}{e o:Expr}{lo hi:Option Expr}{es:List Expr}{pos p p2 apos:Pos}{x m fl:Str}{C:Addr}{ps:List Str}{k:Nat}{sp:cO}{te:aK}{tl th:uZ}{t:bA}
def aa6:cO:=fun _ _ _=>False
end
mutual
def vV:D ->Prop
 | .lst _=>False
 | .exc _=>False
 | .dic _ _=>False
 | .iC _ _=>False
 | .nq _ _=>False
 | .tup xs=>oW xs
 | .obj _ fs xs=>sZ fs=false/\oW xs
 | _=>True
def oW:List D ->Prop
 | []=>True
 | d::ds=>vV d/\oW ds
end
section
variable{K:W.Frag}{F F' :Hp}{A:Addr ->Prop}
end
def Zh(te:aK):aK:=fun Γ P _=>te (jF Γ) (fun d _=>vV d/\P d Γ) lF
section
variable{X:Cx}{F0 H0:Hp}{e:Expr}{te:aK}
open Classical in
end
theorem Zi{K:W.Frag}{F:Hp}{d:D}{v:V}(h:Rep K F d v):∀{ds:List D} {vs:List V} (j:Nat),ak K F ds vs ->ak K F (ds.set j d) (vs.set j v)
 | [],vs,j,r=>by unfold ak at r;subst r;unfold ak;rfl
 | x::ds,vs,j,r=>by
  unfold ak at r;obtain⟨u,us,rfl,r1,r2⟩:=r;cases j with
  | zero=>exact pW h r2
  | succ j=>exact pW r1 (Zi h j r2)
def Ao(i:Nat)(ti te:aK):au:=fun D Γ E=>te Γ (fun d Γ1=>(∃xs,Γ1[i]?=some (.ow xs))/\ti Γ1 (fun k Γ2=>match k,Γ2[i]? with
 | .int k,some (.ow xs)=>∃j,rB xs.length k=some j/\D.nx (Γ2.set i (.ow (xs.set j d)))
 | _,_=>False) E) E
section
variable{X:Cx}{F0 H0:Hp}{x:Str}{pos pos' npos:Pos}{e k:Expr}{i:Nat}{te ti:aK}
theorem Zj(hN:X.N[i]?=some x)(hv:pN X.env.scope x)(hk:QE X F0 H0 k ti)(he:QE X F0 H0 e te)(hd:(x==("__debug__" :Str))=false:=by decide)(hcd:(x==("__classdict__" :Str))=false:=by decide)
  (ha:∀v,assign (.Subscript (.Name x npos) k pos') X.env v=(do
   let ov<- holding [v] (eval (.Name x npos) X.env)
   let iv<- holding [v,ov] (eval k X.env)
   standAt pos'
   holding [v,ov,iv] (setItem ov iv v)
   release [v,ov,iv] []):=by intro _;rfl)
  (hs:swapsWithSole [.Subscript (.Name x npos) k pos'] e pos.line X.env=pure false:=by rfl) (hw:swappedStores [.Subscript (.Name x npos) k pos'] e X.env=pure none:=by rfl)
  (h1:(assignEach [.Subscript (.Name x npos) k pos'] X.env).map (·.2)= [assign (.Subscript (.Name x npos) k pos') X.env]:=by rfl):
  QS X F0 H0 (.Assign [.Subscript (.Name x npos) k pos'] e pos) (Ao i ti te):=fun z E cx=>
 n6 (z41 (X:=X.wsh z) (he z E cx) (z5f (X:=X.wsh z) (sH (X:=X.wsh z) (i:=i) hN hv hd hcd) (hk z E cx) zy7 ha) hs hw h1) fun Dn σ H hq1=>by obtain⟨F,Γ,D2,R,h,kk⟩:=hq1;exact⟨F,Γ,_,R,h,fun d Γ1 F1 H1 v R1 s1 r1 h1=>by
  obtain⟨⟨xs,e0⟩,h2⟩:=h1;obtain⟨o,e1,a,vs,rfl,g1,g2,g3,r⟩:=R1.sl i _ e0;refine⟨.ref a,e1,F1,Γ1,_,R1,h2,fun k Γ2 F2 H2 kv R2 s2 rk q=> ?_⟩;split at q
  ·rename_i k' xs' e2;obtain⟨j,hj,q⟩:=q;obtain⟨o,e3,a',ws,rfl,w1,w2,w3,jR⟩:=R2.sl i _ e2;rw[e1] at e3;cases e3;unfold Rep at rk;subst rk;have hl:=iu jR;refine⟨a,ws,k',j,rfl,rfl,w1,by rw[<- hl];exact hj,?_⟩
   exact kk.nx _ _ _ _ (R2.wr e2 e1 (Zi (r1.up s2) j jR)) (s1.trans s2) q
  ·exact q.elim⟩
end
section
variable(K:W.Frag)(F0 H0:Hp)
def upR(t:aK)(E:XW):TE:=fun σ H Q=>∃F Γ P,SR K F0 H0 F H σ Γ/\t Γ P E/\∀d Γ' F' H' v,SR K F0 H0 F' H' σ Γ' ->Same F F' ->Rep K (qJ F0 F') d v ->P d Γ' ->Q v H'
def RW(t:bA)(E:XW):TA:=fun σ H Q=>∃F Γ P,SR K F0 H0 F H σ Γ/\t Γ P E/\∀ds Γ' F' H' vs,SR K F0 H0 F' H' σ Γ' ->Same F F' ->ak K (qJ F0 F') ds vs ->P ds Γ' ->Q vs H'
end
def QR(X:Cx)(F0 H0:Hp)(e:Expr)(t:aK):Prop:=∀z E,Ctx (X.wsh z) F0 H0 E ->PE (X.wsh z) e (upR X.K F0 H0 t E)
def QRA(X:Cx)(F0 H0:Hp)(es:List Expr)(t:bA):Prop:=∀z E,Ctx (X.wsh z) F0 H0 E ->PA (X.wsh z) es (RW X.K F0 H0 t E)
section
variable{X:Cx}{F0 H0:Hp}{e:Expr}{es:List Expr}{pos:Pos}{te:aK}
def cNl(te:aK):aK:=fun Γ P E=>te Γ (fun d Γ1=>vV d/\P d Γ1) E
def aa7(i:Nat):aK:=fun Γ P _=>match Γ[i]? with
 | some (.ow ds)=>oW ds/\P (.lst ds) (Γ.set i (.pu (.lst ds)))
 | _=>False
def aa8(t:bA):aK:=fun Γ P E=>t Γ (fun ds Γ1=>oW ds/\P (.lst ds) Γ1) E
def Zk(te:aK):au:=fun D Γ E=>te Γ (fun d _=>D.rf d) E
end
def G6(K:W.Frag)(sp:cO):Sp:=fun vs H Q E=>∃F ds P Ex,Same F H/\ak K F ds vs/\sp ds P Ex/\ (∀d v F' H',Gr F H F' H' ->Rep K (qJ F F') d v ->P d ->Q v H')/\∀C H',Ex C ->Same H H' ->E C none H'
structure aa9 (P:Program) (w:World) (K:W.Frag) (mg:Str ->Option Value) (base:Heap) (x:Str) (k:Nat) (ps:List Str) (sp:cO):Prop where
 ex:∃f fd,eY P w K mg base (iw P w) k f fd ps (G6 K sp)/\mg x=some (.ref f)/\W.keepIn K (.ref f)=true/\Binds K fd ps []
section
variable{P:Program}{w:World}{K:W.Frag}{mg:Str ->Option Value}{base:Heap}
end
section
variable{X:Cx}{F0 H0:Hp}{e:Expr}{es:List Expr}{pos p:Pos}{x:Str}{f:Addr}{fd:FuncData}{ps:List Str}{k:Nat}{sp:cO}{t:bA}{te:aK}
def RX(te:aK):aK:=fun Γ P _=>te (jF Γ) (fun d _=>P d Γ) lF
open Classical in
end
def abb(tf:bA)(tb:aK):bA:=fun Γ P E=>tf Γ (fun xs Γ1=>tb Γ1 (fun d Γ2=>match d with | .int k=>(-(2^63)<=k/\k<2^63/\xs.length*k.toNat<=sizeLine)/\P (List.replicate k.toNat xs).flatten Γ2 | _=>False) E) E
section
variable{X:Cx}{F0 H0:Hp}{a b:Expr}{pos:Pos}{tf:bA}{tb:aK}
end
def CV{α:Type}(lt:Nat ->Nat ->Bool):W.KasT α ->α
 | .ret a=>a
 | .ask i j k=>CV lt (k (lt i j))
def Aq{α:Type}(lt:Nat ->Nat ->Bool)(n:Nat):W.KasT α ->Bool
 | .ret _=>true
 | .ask i j k=>decide (i<n)&&(decide (j<n)&&(decide (i≠j)&&Aq lt n (k (lt i j))))
theorem Zm(hc:∀i j (C:Bool ->Shared ->Prop),i<n ->j<n ->i≠j ->C (lt i j) s ->cmp i j C s):
  ∀(t:W.KasT α) (Q:α ->Shared ->Prop),Aq lt n t=true ->Q (CV lt t) s ->t.kasWp cmp Q s
 | .ret _,_,_,h=>h
 | .ask i j k,Q,ok,h=>by
  unfold Aq at ok;simp only [Bool.and_eq_true,decide_eq_true_eq] at ok;exact hc i j _ ok.1 ok.2.1 ok.2.2.1 (Zm hc (k (lt i j)) Q ok.2.2.2 h)
def RZ(h:Heap)(v:Value)(i:Int):Prop:=∃(x:Addr) (o:Obj) (xs:Array Value) (m:Nat) (t:Tok),v= .ref x/\h.get? x=some o/\o.cls= .type "tuple" /\o.data= .seq xs m/\xs[0]?=some (.int i t)
inductive tW (h:Heap):List Value ->List Int ->Prop
 | nil:tW h [] []
 | cons {v i vs is}:RZ h v i ->tW h vs is ->tW h (v::vs) (i::is)
def ltI(ns:List Int)(i j:Nat):Bool:=decide (ns.getD i 0<ns.getD j 0)
def tY(ns:List Int):List Nat:=if ns.length<2 then List.range ns.length else(CV (ltI ns) (W.kas_sort ns.length)).toList
def G7(ns:List Int):Prop:=ns.length<2\/ (ns.length<64/\ns.Nodup/\Aq (ltI ns) ns.length (W.kas_sort ns.length)=true)
section
variable{prog:Program}{w:World}{A:Around}{E:bL}{s:Shared}
theorem zt2{vs:List Value}{p:Array Nat}(hp:p.size=vs.length):(List.toArray (p.toList.map fun i=>vs.getD i Value.none)).size=vs.length:=by simp [hp]
end
def Zn:List D ->Option (List Int)
 | []=>some []
 | .tup (.int i::_)::r=>(Zn r).map (i:: ·)
 | _::_=>none
def z4g:List D ->(List D ->Prop) ->Prop:=fun ds P=>match ds with | [.lst xs]=>∃ns,Zn xs=some ns/\G7 ns/\ (∀i∈tY ns,i<ns.length)/\ (tY ns).length<=sizeLine/\P ((tY ns).map fun i=>xs.getD i .non) | _=>False
theorem Zo(h:Vals xs us):∀{is:List Nat},(∀i∈is,i<xs.length) ->Vals (is.map fun i=>xs.getD i .non) (is.map fun i=>us.getD i Value.none)
 | [],_=> .nil
 | i::is,k=>by
  have hi:=k i zW;obtain⟨u,hu,ru⟩:=h.get (zX hi);refine .cons ?_ (Zo h fun j hj=>k j (zV _ hj));show RelV (xs.getD i .non) (us.getD i Value.none);rw[List.getD_eq_getElem?_getD,List.getD_eq_getElem?_getD,List.getElem?_eq_getElem hi,hu];exact ru
theorem Zq{K:W.Frag}{F:Hp}{ds:List D}{vs:List V}(h:ak K F ds vs):∀{is:List Nat},(∀i∈is,i<ds.length) ->ak K F (is.map fun i=>ds.getD i .non) (is.map fun i=>vs.getD i .non)
 | [],_=>by simp [ak]
 | i::is,k=>by
  have hi:=k i zW;obtain⟨v,hv,rv⟩:=oH h (zX hi);refine pW ?_ (Zq h fun j hj=>k j (zV _ hj));show Rep K F (ds.getD i .non) (vs.getD i .non);rw[List.getD_eq_getElem?_getD,List.getD_eq_getElem?_getD,List.getElem?_eq_getElem hi,hv];exact rv
def rJ(xs:List Nat):Prop:=xs.Pairwise (· < ·)
theorem G8(h:rJ xs)(hij:i<j)(hj:j<xs.length):xs[i]'(Nat.lt_trans hij hj)<xs[j]:=List.pairwise_iff_getElem.mp h i j _ hj hij
structure KY (xs:List Nat) (j b:Nat):Prop where
 le:b<=xs.length
 lo:∀(k:Nat) (h:k<xs.length),k<b ->xs[k]<j
 hi:∀(k:Nat) (h:k<xs.length),b<=k ->j<=xs[k]
theorem R7(hr:rJ xs.toList):∀(f lo hi:Nat),lo<=hi ->hi<=xs.toList.length ->hi - lo<=f ->(∀(k:Nat) (h:k<xs.toList.length),k<lo ->xs.toList[k]<j) ->(∀(k:Nat) (h:k<xs.toList.length),hi<=k ->j<=xs.toList[k]) ->KY xs.toList j (SetTable.below.go xs j f lo hi)
 | 0,lo,hi,h1,h2,h3,h4,h5=>by
  unfold SetTable.below.go;obtain rfl:lo=hi:=by omega
  exact⟨h2,h4,h5⟩
 | f+1,lo,hi,h1,h2,h3,h4,h5=>by
  unfold SetTable.below.go;by_cases hl:lo<hi
  ·rw[if_pos hl];have hm1:lo<=(lo+hi)/2:=by omega
   have hm2:(lo+hi)/2<hi:=by omega
   have hm:(lo+hi)/2<xs.toList.length:=by omega
   have hg:xs.getD ((lo+hi)/2) j=xs.toList[(lo+hi)/2]:=by
    have:(lo+hi)/2<xs.size:=by simpa using hm
    simp [Array.getD,this]
   dsimp only;rw[hg];by_cases hc:xs.toList[(lo+hi)/2]<j
   ·rw[if_pos hc];refine R7 hr f _ hi (by omega) h2 (by omega) (fun k hk hlt=> ?_) h5
    by_cases e:k=(lo+hi)/2
    ·subst e;exact hc
    ·exact Nat.lt_trans (G8 hr (by omega:k< (lo+hi)/2) hm) hc
   ·rw[if_neg hc];refine R7 hr f lo _ (by omega) (by omega) (by omega) h4 fun k hk hle=> ?_
    by_cases e:k=(lo+hi)/2
    ·subst e;omega
    ·have:=G8 hr (by omega:(lo+hi)/2<k) hk
     omega
  ·rw[if_neg hl];obtain rfl:lo=hi:=by omega
   exact⟨h2,h4,h5⟩
theorem Zr(hr:rJ xs.toList)(j:Nat):KY xs.toList j (SetTable.below xs j):=by
 unfold SetTable.below;exact R7 hr _ 0 _ (Nat.zero_le _) (by simp) (by omega) (fun k _ h=>by omega) fun k hk h=>by simp at hk;omega
theorem z4p(h:KY xs j b)(k:KY xs j c):b=c:=by
 rcases Nat.lt_trichotomy b c with q | q | q
 ·have hb:b<xs.length:=zL q k.le;have:=k.lo b hb q;have:=h.hi b hb (zM _);omega
 ·exact q
 ·have hc:c<xs.length:=zL q h.le;have:=h.lo c hc q;have:=k.hi c hc (zM _);omega
theorem z2g(hr:rJ xs.toList)(hn:xs[SetTable.below xs j]?≠some j):rJ (SetTable.insertAt xs (SetTable.below xs j) j).toList:=by
 rw[SetTable.toList_insertAt];have hb:=Zr hr j;generalize SetTable.below xs j=b at*;have hn' :∀(h:b<xs.toList.length),xs.toList[b]≠j:=fun h e=>hn (by rw[<- Array.getElem?_toList,List.getElem?_eq_getElem h,e])
 unfold rJ;rw[List.pairwise_append];refine⟨hr.take,?_,fun a ha c hc=> ?_⟩
 ·rw[List.pairwise_cons];refine⟨fun c hc=> ?_,hr.drop⟩;obtain⟨k,hk,rfl⟩:=List.mem_iff_getElem.mp hc;rw[List.length_drop] at hk;rw[List.getElem_drop];have h1:=hb.hi (b+k) (by omega) (by omega)
  by_cases e:k=0
  ·subst e;have:=hn' (by omega)
   simp only [Nat.add_zero] at h1⊢;omega
  ·have:=G8 hr (by omega:b<b+k) (by omega)
   have:=hb.hi b (by omega) (zM _)
   omega
 ·obtain⟨k,hk,rfl⟩:=List.mem_iff_getElem.mp ha;rw[List.length_take] at hk;rw[List.getElem_take];have h1:=hb.lo k (by omega) (by omega)
  rcases zT.mp hc with rfl | hc
  ·exact h1
  ·obtain⟨m,hm,rfl⟩:=List.mem_iff_getElem.mp hc;rw[List.length_drop] at hm;rw[List.getElem_drop];have:=hb.hi (b+m) (by omega) (by omega)
   omega
theorem ztq(hr:rJ xs.toList)(hi:i<=xs.toList.length):SetTable.below xs (if h:0<i then xs.toList[i - 1]'(by omega)+1 else 0)=i:=by
 refine z4p (Zr hr _) ⟨hi,fun k hk hlt=> ?_,fun k hk hle=> ?_⟩
 ·rw[dif_pos (by omega)]
  by_cases e:k=i - 1
  ·subst e;exact Nat.lt_succ_self _
  ·have:=G8 hr (by omega:k<i - 1) (by omega)
   omega
 ·split
  ·rename_i h0;have:=G8 hr (by omega:i - 1<k) hk
   omega
  ·exact Nat.zero_le _
structure rK (led:Bool) (t:SetTable):Prop where
 KZ:rJ t.place.toList
 K1:t.dummies= #[]
 led:t.led=led
theorem zwf:rK led (.fresh 0 0 led):=⟨by simp [SetTable.fresh,rJ],rfl,rfl⟩
theorem zxw(n:Nat):rJ (Array.range n).toList:=by
 unfold rJ;rw[Array.toList_range];exact List.pairwise_lt_range
theorem K3(h:rK led t)(n:Nat):rK led (t.standIn n):=⟨zxw n,rfl,h.led⟩
theorem zt1(h:rK led t):rK led {t with plain:=false}:=⟨h.KZ,h.K1,h.led⟩
theorem Zt(j:Nat):SetTable.has #[] j=false:=by simp [SetTable.has]
theorem Zu{t:SetTable}(hd:t.dummies= #[]){j:Nat}:(t.slot j= .empty ->t.place[SetTable.below t.place j]?≠some j)/\t.slot j≠ .dummy:=by
 unfold SetTable.slot;rw[hd,Zt];dsimp only;split
 ·exact⟨fun z=>(by cases z),fun z=>(by cases z)⟩
 ·rename_i q;simp only [Bool.false_eq_true,if_false];exact⟨fun _=>(by simpa using q),fun z=>(by cases z)⟩
theorem Zv{t:SetTable}(hd:t.dummies= #[]){ha:Nat ->Int}{h:Int}:∀(f:Nat) (p:SetTable.Probe) {j:Nat} {dm:Option Nat},p.dummy=none ->SetTable.probe.go t ha h f p=some (.empty j dm) ->dm=none/\t.slot j= .empty
 | 0,p,j,dm,_,e=>by unfold SetTable.probe.go at e;cases e
 | f+1,p,j,dm,hp,e=>by
  have adv:(t.advance p).dummy=none:=by
   unfold SetTable.advance;split<;>exact hp
  unfold SetTable.probe.go at e;split at e
  ·rename_i q;cases e;exact⟨hp,q⟩
  ·rename_i q;exact absurd q (Zu hd).2
  ·rename_i i q;split at e
   ·cases e
   ·exact Zv hd f _ adv e
theorem z29{led:Bool}{t:SetTable}(h:rK led t)(es:Array (Int×Value))(k:Int)(x:Value):rK led (layNew t es k x).2.1:=by
 unfold layNew;split
 ·rename_i slot wd q;unfold SetTable.freeSlot at q;split at q
  ·rename_i j dm e;cases q;obtain⟨rfl,hs⟩:=Zv h.K1 _ _ rfl e;have hn:=(Zu h.K1).1 hs;dsimp only [Option.getD_none];have hp:rK led (t.put j).1:=⟨z2g h.KZ hn,by show(if SetTable.has t.dummies j=true then _ else t.dummies)= #[];rw[h.K1,Zt];rfl,h.led⟩
   unfold SetTable.orStandIn;split
   ·exact hp
   ·exact K3 hp _
  ·cases q
 ·exact K3 h _
theorem zw2(h:rK led t)(es:Array (Int×Value))(n:Nat):rK led (relayAll t es n).2.1:=by
 unfold relayAll;split
 ·rename_i t' order q;dsimp only;split
  ·unfold SetTable.relaid SetTable.laid at q;cases e:SetTable.layClean (SetTable.sizeAbove n - 1) (es.map (·.1)) with
   | none=>rw[e] at q;cases q
   | some owner=>
    rw[e] at q;cases q;refine⟨?_,rfl,h.led⟩;show rJ (((List.range (SetTable.sizeAbove n - 1+1)).filterMap fun j=>(owner.getD j none).map (j, ·)).map (·.1));have sub:∀l:List Nat,((l.filterMap fun j=>(owner.getD j none).map (j, ·)).map (·.1)).Sublist l:=by
     intro l;induction l with
     | nil=>exact List.Sublist.refl _
     | cons a r ih=>
      rw[List.filterMap_cons];cases owner.getD a none with
      | none=>exact ih.cons _
      | some v=>exact ih.cons₂ _
    exact List.Pairwise.sublist (sub _) List.pairwise_lt_range
  ·exact K3 h _
 ·exact K3 h _
section
variable{prog:Program}{w:World}{κ:Type}[DecidableEq κ](knd:KeyKind prog w κ)(kf:Value ->κ)
structure iZ (led:Bool) (o:Obj) (ks:List κ) (es:Array (Int×Value)) (ep:Nat) (t:SetTable):Prop where
 ex:o.ExactSet
 dat:o.data= .set es ep t
 el:ElemsOf knd es.toList
 fit:t.fits es.size=true
 tok:rK led t
 key:(es.toList.map fun e=>kf e.2).Perm ks
def lH(led:Bool)(h:Heap)(a:Addr)(ks:List κ):Prop:=∃o es ep t,h.get? a=some o/\iZ knd kf led o ks es ep t
def jG(ks:List κ)(k:κ):List κ:=if k∈ks then ks else ks++ [k]
variable{knd kf}(hkf:∀k v,knd.is k v=true ->kf v=k)
include hkf
theorem z3n(el:ElemsOf knd es):k∈es.map (fun e=>kf e.2)↔∃e∈es,knd.is k e.2=true:=by
 rw[List.mem_map];constructor
 ·rintro⟨e,he,rfl⟩;obtain⟨⟨k',hk',_⟩,_⟩:=el e he;exact⟨e,he,by rw[hkf k' _ hk'];exact hk'⟩
 ·rintro⟨e,he,hk⟩;exact⟨e,he,hkf k _ hk⟩
variable{A:Around}{E:bL}{s:Shared}{a:Addr}{ks:List κ}{led:Bool}
theorem Zw{h:Heap}{o:Obj}{es:Array (Int×Value)}{ep:Nat}{t:SetTable}(hg:h.get? a=some o)(hd:o.data= .set es ep t)(es' :Array (Int×Value))(t' :SetTable):
  (h.update a (Obj.putSet es' t')).get? a=some {o with data:= .set es' (ep+1) t'}:=by
 have z:=Heap.get?_update_self (Obj.putSet es' t') hg (by rw[putSet_of es' t' hd];rfl)
 rwa [putSet_of es' t' hd] at z
omit hkf in
theorem iZ.put(S:iZ knd kf led o ks es ep t)(el:ElemsOf knd es'.toList)(fit:t'.fits es'.size=true)(tok:rK led t')(key:(es'.toList.map fun e=>kf e.2).Perm ks'):
  iZ knd kf led {o with data:= .set es' (ep+1) t'} ks' es' (ep+1) t' :=⟨S.ex,rfl,el,fit,tok,key⟩
theorem z5l{k:κ}{x:Value}{Q:Bool ->Shared ->Prop}(hx:knd.is k x=true)(hsc:x.scannable=true)(S:lH knd kf led s.heap a ks)(hb:ks.length+1<scanBound)
  (h:∀b h',Heap.SameBut a s.heap h' ->lH knd kf led h' a (jG ks k) ->Q b {s with heap:=h'}):wpAny (model prog w) A (setAddHashed a x (knd.hash k)) Q E s:=by
 obtain⟨o,es,ep,t,hg,S⟩:=S;have hsz:es.size=ks.length:=by
  have:=S.key.length_eq
  simpa using this
 have hmem:=z3n hkf S.el (k:=k);unfold setAddHashed setAddHashedIn;refine wpAny_holding (vs:= [x]) (z8 (m:=setState a) (wpAny_setState_of hg S.dat S.fit ?_));dsimp only;rw[byScan_of hsc (by omega:es.size<scanBound) S.el]
 simp only [↓reduceIte];unfold setAddByScan;refine z8 (z8 (m:=rule _) (wpAny_rule (z8 (m:=setScan a x _ _ _) (wpAny_setScan_of hx hg S.dat S.fit S.el ?_))));cases hr:List.findIdx? (fun e=>knd.is k e.2) es.toList with
 | some j=>
  dsimp only;obtain⟨hj,hpj,_⟩:=List.findIdx?_eq_some_iff_getElem.mp hr;have hk:k∈ks:=S.key.mem_iff.mp (hmem.mpr ⟨_,yX hj,hpj⟩);refine z9 (α:=_) (z9 (α:=_) ?_);have z:=h false s.heap (Heap.SameBut.refl a s.heap) ⟨o,es,ep,t,hg,by unfold jG;rw[if_pos hk];exact S⟩
  exact z
 | none=>
  dsimp only;have hk:k∉ks:=fun q=>by
   obtain⟨e,he,hp⟩:=hmem.mp (S.key.mem_iff.mpr q);have:=List.findIdx?_eq_none_iff.mp hr e he;rw[hp] at this;cases this
  have hperm:=layNew_perm t es (knd.hash k) x;have hfits:=layNew_fits t es (knd.hash k) x;have tZ:=z29 S.tok es (knd.hash k) x;generalize layNew t es (knd.hash k) x=lay at hperm hfits tZ⊢;obtain⟨es1,t1,wd,gave⟩:=lay;dsimp only at hperm hfits tZ⊢;rw[Array.toList_push] at hperm;have el1:ElemsOf knd es1.toList:=(S.el.push hx hsc).perm hperm;have key1:(es1.toList.map fun e=>kf e.2).Perm (jG ks k):=by
   unfold jG;rw[if_neg hk];refine(hperm.map _).trans ?_;rw[List.map_append];refine List.Perm.append S.key ?_;show [kf x].Perm [k];rw[hkf k x hx]
  have sz1:es1.size=es.size+1:=by
   have:=hperm.length_eq
   simpa using this
  have G9:es1.size<=sizeLine:=fits_of_scanBound (by omega)
  have gw:∀(b:Bool) {s₁:Shared} {Q' :Unit ->Shared ->Prop},Q' () s₁ ->wpAny (model prog w) A (match b with | true=>rule "set.scan.the-table-gave-way" | false=>pure ()) Q' E s₁:=
   fun b s₁ Q' q=>by
    cases b with
    | true=>exact wpAny_rule q
    | false=>exact z9 (α:=_) q
  have tail:∀t2:SetTable,t2.fits es1.size=true ->rK led t2 ->wpAny (model prog w) A (do
    storeSet a es1 t2
    if (!wd&&t2.tooFull)=true then do
      (match (relayAll t2 es1 (SetTable.grown es1.size)).2.2 with | true=>rule "set.scan.the-table-gave-way" | false=>pure ())
      storeSet a (relayAll t2 es1 (SetTable.grown es1.size)).1 (relayAll t2 es1 (SetTable.grown es1.size)).2.1
      pure (some true)
     else pure (some true)) (fun r s' =>wpAny (model prog w) A (match r with | some added=>pure added | none=>setAddHashedIn a x (knd.hash k) 99999) Q E s') E s:=by
   intro t2 f2 k2;refine z8 (m:=storeSet a es1 t2) (wpAny_storeSet_of hg S.dat ?_ G9);have g1:=Zw (hkf:=hkf) hg S.dat es1 t2;have S1:=S.put (ks' :=jG ks k) el1 f2 k2 key1;have Zx:=Heap.SameBut.update s.heap a (Obj.putSet es1 t2);split
   ·have hp2:=relayAll_perm t2 es1 (SetTable.grown es1.size);have hf2:=relayAll_fits t2 es1 (SetTable.grown es1.size);have R8:=zw2 k2 es1 (SetTable.grown es1.size);generalize relayAll t2 es1 (SetTable.grown es1.size)=rl at hp2 hf2 R8⊢;obtain⟨es2,t3,gave2⟩:=rl;dsimp only at hp2 hf2 R8⊢;have sz2:es2.size=es1.size:=by
     have:=hp2.length_eq
     simpa using this
    refine z8 (gw gave2 ?_);refine z8 (m:=storeSet a es2 t3) (wpAny_storeSet_of g1 rfl ?_ (by omega))
    have S2:=S1.put (ks' :=jG ks k) (el1.perm hp2) hf2 R8 ((hp2.map _).trans key1);refine z9 (α:=_) (z9 (α:=_) ?_);exact h true _ (Zx.trans (Heap.SameBut.update _ a _)) ⟨_,_,_,_,Zw (hkf:=hkf) g1 rfl es2 t3,S2⟩
   ·exact z9 (α:=_) (z9 (α:=_) (h true _ Zx ⟨_,_,_,_,g1,S1⟩))
  refine z8 (gw gave ?_);split
  ·refine z8 ?_;rw[hashByValue_scannable 8 hsc];refine z9 (α:=_) ?_;refine tail _ ?_ ?_
   ·split
    ·exact hfits
    ·exact SetTable.fits_plain_off hfits
   ·split
    ·exact tZ
    ·exact zt1 tZ
  ·refine z8 (z9 (α:=_) ?_);simp only [↓reduceIte];exact tail _ hfits tZ
end
abbrev gA(w:World):Bool:= !(w.params.followText "set-order")
abbrev vW(w:World):Obj:={cls:= .type "set",dict:=none,data:= .set #[] 0 (.fresh 0 0 (gA w))}
def fW{κ:Type}[DecidableEq κ](val:Nat ->κ):Nat ->List κ
 | 0=> []
 | i+1=>jG (fW val i) (val i)
theorem Zy [DecidableEq κ](val:Nat ->κ):∀i,(fW val i).length<=i
 | 0=>zM _
 | i+1=>by
  have ih:=Zy val i;show(jG (fW val i) (val i)).length<=i+1;unfold jG;split
  ·omega
  ·rw[List.length_append,List.length_singleton];omega
theorem R9 [DecidableEq κ](val:Nat ->κ):∀{i},k∈fW val i↔∃j,j<i/\val j=k
 | 0=>by simp [fW]
 | i+1=>by
  have ih:=R9 val (k:=k) (i:=i);have e:k∈fW val (i+1)↔k∈fW val i\/k=val i:=by
   show k∈jG (fW val i) (val i)↔_;unfold jG;split
   ·rename_i q;constructor
    ·exact .inl
    ·rintro(z | rfl)
     ·exact z
     ·exact q
   ·rw[List.mem_append,List.mem_singleton]
  rw[e,ih];constructor
  ·rintro(⟨j,hj,rfl⟩ | rfl)
   ·exact⟨j,by omega,rfl⟩
   ·exact⟨i,by omega,rfl⟩
  ·rintro⟨j,hj,rfl⟩;by_cases q:j=i
   ·subst q;exact .inr rfl
   ·exact .inl ⟨j,by omega,rfl⟩
theorem Zz [DecidableEq κ](val:Nat ->κ):∀i,(fW val i).Nodup
 | 0=>List.nodup_nil
 | i+1=>by
  have ih:=Zz val i;show(jG (fW val i) (val i)).Nodup;unfold jG;split
  ·exact ih
  ·rename_i q;rw[List.nodup_append];refine⟨ih,by simp,fun a ha b hb=> ?_⟩
   rw[List.mem_singleton] at hb;subst hb;exact fun z=>q (z ▸ ha)
theorem zyu{prog:Program}{w:World}{κ:Type}[DecidableEq κ]{knd:KeyKind prog w κ}{kf:Value ->κ}:iZ knd kf (gA w) (vW w) [] #[] 0 (.fresh 0 0 (gA w)):=
 ⟨⟨rfl,rfl,rfl⟩,rfl,fun e he=>by simp at he,by rfl,zwf,by simp⟩
section
variable{prog:Program}{w:World}{κ:Type}[DecidableEq κ]{knd:KeyKind prog w κ}{kf:Value ->κ}(hkf:∀k v,knd.is k v=true ->kf v=k)
theorem lH.stay(S:lH knd kf led h a ks)(e:∀o,h.get? a=some o ->h'.get? a=some o):lH knd kf led h' a ks:=by
 obtain⟨o,es,ep,t,hg,S⟩:=S;exact⟨o,es,ep,t,e o hg,S⟩
include hkf
theorem zy5{A:Around}{R:Result ->Shared ->Prop}{I:Addr}{fp wr:List Addr}{G:Array GenState ->Array GenState ->Prop}{n:Nat}{P:Nat ->Value ->Prop}{St:Nat ->Shared ->Prop}
  (W:WalksS prog w A.in1 I fp wr G n P St) {S:Addr} (hS:S∉fp) {val:Nat ->κ} (hv:∀i v,P i v ->knd.is (val i) v=true/\v.scannable=true) (hb:n+1<scanBound) {led:Bool}:
  ∀(j i:Nat) (s:Shared),i+j=n ->St i s ->lH knd kf led s.heap S (fW val i) ->
   (∀s',Moved (S::wr) G s s' ->lH knd kf led s'.heap S (fW val n) ->R (.ok (.ret .none)) s') ->codeAny (model prog w) A (.builtin "set.update.loop" ⟨[.ref S,.ref I],[]⟩) R s:=by
 have hw:S∉wr:=fun q=>hS (W.sub _ q);have grow:∀b∈wr,b∈S::wr:=fun b q=>zV _ q;intro j;induction j with
 | zero=>
  intro i s hij st hs hR;obtain rfl:i=n:=by omega
  refine codeAny_builtin PyProof.Rows.F.entry_set_update_loop ?_;rw[Around.under_plainId PyProof.Rows.F.plain_set_update_loop _];show wpAny _ _ (pyNext (.ref I)>>=_) _ _ _;refine z8 (m:=pyNext (.ref I)) (W.done s _ _ st fun s' hm=> ?_);show wpAny _ _ (ret Value.none) _ _ _;exact z9 (α:=_) (hR s' (hm.mono grow) (hs.stay fun o e=>hm.heap S o hw e))
 | succ j ih=>
  intro i s hij st hs hR;refine codeAny_builtin PyProof.Rows.F.entry_set_update_loop ?_;rw[Around.under_plainId PyProof.Rows.F.plain_set_update_loop _];show wpAny _ _ (pyNext (.ref I)>>=_) _ _ _;refine z8 (m:=pyNext (.ref I)) (W.item i s _ _ (by omega) st fun v s1 hP st1 hm=> ?_)
  obtain⟨hk,hc⟩:=hv i v hP;have hs1:=hs.stay (h' :=s1.heap) fun o e=>hm.heap S o hw e;show wpAny _ _ (holding [v] (setAdd S v)>>=_) _ _ _;refine z8 (m:=holding [v] (setAdd S v)) (wpAny_holding (vs:= [v]) ?_);unfold setAdd;refine wpAny_holding (vs:= [v]) (z8 (m:=pyHash v) (knd.pyHash hk ?_));refine z5l hkf (s:={s1 with toks:=s1.toks+1}) hk hc hs1 (by have:=Zy val i;omega) fun _ h2 sb S2=> ?_
  refine z9 (α:=_) ⟨plainId_quiet PyProof.Rows.F.plain_set_update_loop _,ih (i+1) _ (by omega) (W.frame _ s1 h2 _ st1 (Nat.le_succ _) fun b hb o e=> ?_) S2 fun s3 hm3 S3=> ?_⟩
  ·exact(sb.2 b fun z=>hS (z ▸ hb)).trans e
  ·refine hR s3 (Moved.trans W.gtrans ((hm.mono grow).then_heap (Nat.le_succ _) fun b o hb e=> ?_) hm3) S3;exact(sb.2 b fun z=>hb (z ▸ zW)).trans e
end
section
variable{prog:Program}{w:World}{A:Around}{E:bL}{s:Shared}
theorem zq2(v:Value)(h:Q₁ (.ref s.heap.objs.size) {s with heap:=s.heap.push (vW w)}):
  codeAny (model prog w) A (.call (.builtin "set.__new__") ⟨[.type "set",v],[]⟩) (wants Q₁ E) s:=by
 refine codeAny_of_tree ?_;show wpAny _ A.in1 (checkBuiltinCall "set.__new__" ⟨[.type "set",v],[]⟩>>=fun _=>again (.builtin "set.__new__" ⟨[.type "set",v],[]⟩)) _ _ s;refine z8 (wpAny_of_eq (PySem.F.newCall_set_1 v) (z9 (α:=_) ⟨plainId_quiet PySem.F.plain_set_new _,codeAny_builtin PySem.F.entry_set_new ?_⟩));rw[Around.under_plainId PySem.F.plain_set_new _];unfold Builtin.«set.__new__» Builtin.Frozenset.newClass;have hsub:=sub_set_self;obtain⟨hp,g,d,tk,os⟩:=s;dsimp only
 wp_walk
 refine wpAny_askSetting (z9 (α:=_) ?_);dsimp only;simp only [newObj];exact z8 (wpAny_alloc (z9 (α:=_) (z9 (α:=_) h)))
end
section
variable{prog:Program}{w:World}{κ:Type}[DecidableEq κ]{knd:KeyKind prog w κ}{kf:Value ->κ}(hkf:∀k v,knd.is k v=true ->kf v=k){A:Around}{E:bL}{s:Shared}
include hkf
set_option maxHeartbeats 3200000 in
theorem zq3{l:Addr}{items:Array Value}{val:Nat ->κ}{Q:bL}(hh:A.handled=none)(hl:s.heap.IsList l items)(hv:∀i v,items[i]?=some v ->knd.is (val i) v=true/\v.scannable=true)(hb:items.size+1<scanBound)
  (h:∀(h' :Heap) (tk:Nat),lH knd kf (gA w) h' s.heap.objs.size (fW val items.size) ->(∀b o,s.heap.get? b=some o ->h'.get? b=some o) ->Q (.ref s.heap.objs.size) {s with heap:=h',toks:=tk}):
  wpAny (model prog w) A (call (.type "set") [.ref l]) Q E s:=by
 obtain⟨c,tl,hmro⟩:=PySem.F.called_set.mro;have hmade:=PySem.F.called_set.made;have hsub:=PySem.F.called_set.sub;refine wpAny_call (codeAny_of_tree ?_);show wpAny _ _ (callAny (.type "set") _) _ _ _;refine z9 (α:=_) ⟨Code.quiet_builtin _ (by decide+kernel),codeAny_builtin PySem.F.entry_type_call ?_⟩
 rw[Around.under_plain (weight_type_call_type "set" [.ref l] []) rfl];have q1:=PySem.F.called_set.notType;have q2:=PySem.F.called_set.canCreate;have q3:=PySem.F.typeCall_set_1 (.ref l)
 (repeat (any_goals (first | assumption | wp_step)));skip
 refine codeAny_mono (zq2 (.ref l) (E:=E) (Q₁:=fun obj s₁=>obj= .ref s.heap.objs.size/\s₁={s with heap:=s.heap.push (vW w)}) ⟨rfl,rfl⟩) fun r s₁ hr=> ?_;cases r with
 | error e=>exact hr
 | ok fl=>
  cases fl with
  | ret obj=>
   obtain⟨rfl,rfl⟩:=hr;have hS:(s.heap.push (vW w)).get? s.heap.objs.size=some (vW w):=zY _ rfl;have hT:Shared.TypeIs {s with heap:=s.heap.push (vW w)} (.ref s.heap.objs.size) "set" :=⟨_,hS,rfl⟩;have q4:=PySem.F.called_set.init.lookup;have q5:=PySem.F.called_set.init.bind (.ref s.heap.objs.size)
   (repeat (any_goals (first | assumption | wp_step)));skip
   refine codeAny_mono (codeAny_call_builtin (R:=wants (fun r s₂=>r= .none/\∃h' tk,s₂={s with heap:=h',toks:=tk}/\lH knd kf (gA w) h' s.heap.objs.size (fW val items.size)/\
     ∀b o,s.heap.get? b=some o ->h'.get? b=some o) E) PySem.F.called_set.init.plain PySem.F.entry_set_init (check_set_init_1 hT ?_)) fun r₂ s₂ hr₂=> ?_
   ·obtain⟨ol,hol,hcl,nl,hdl⟩:=hl;obtain⟨oc,od,ot,os⟩:=ol;simp only at hcl hdl;subst hcl;subst hdl;have hol' :(s.heap.push (vW w)).get? l=some {cls:= .type "list",dict:=od,data:= .seq items nl,slots:=os}:=zZ _ hol;have q6:=PySem.F.sub_list_set;have q7:=PySem.F.sub_list_frozenset;have q8:(Value.type "list" ==Value.type "dict")=false:=by decide
    have hl1:(s.heap.push (vW w)).IsList l items:=⟨_,hol',rfl,nl,rfl⟩;unfold Builtin.«set.__init__» noKeywords Builtin.Frozenset.updateFrom;generalize hPI:pyIter=PI
    wp_walk
    subst hPI;refine wpAny_pyIter_list hl1 (z8 (wpAny_runValue ?_));have hlS:l<s.heap.objs.size:=zG hol;have hh3:A.in1.in1.in1.handled=none:=by simp [hh]
    have Sd:(s.heap.push (vW w)).objs.size=s.heap.objs.size+1:=Heap.size_push ..;refine zy5 hkf (led:=gA w) ((Walks.list hh3 _ l (by rw[Sd];exact zJ (Nat.lt_succ_of_lt hlS)) items).toS) (S:=s.heap.objs.size) ?_ hv hb items.size 0 _ (Nat.zero_add _)
     ⟨⟨_,zY _ rfl,rfl,rfl⟩,hl1.push _⟩ ⟨_,_,_,_,zZ _ hS,zyu⟩ fun s' hm hS' => ?_
    ·rw[Sd];simp only [List.mem_cons,List.not_mem_nil,or_false,not_or];exact⟨zJ (Nat.lt_succ_self _),Nat.ne_of_gt hlS⟩
    ·obtain⟨h',g',d',tk',os'⟩:=s';obtain rfl:g' =s.gens:=hm.gens;obtain rfl:d' =s.drawn:=hm.drawn;obtain rfl:os' =s.os:=hm.os;refine z9 (α:=_) ?_;show wpAny _ _ (ret Value.none) _ _ _;refine z9 (α:=_) ⟨rfl,h',tk',rfl,hS',fun b o e=> ?_⟩;have hlt:=zG e;refine hm.heap b o ?_ (zZ _ (zZ _ e));rw[Sd];simp only [List.mem_cons,List.not_mem_nil,or_false,not_or];exact⟨zJ hlt,zJ (Nat.lt_succ_of_lt hlt)⟩
   ·cases r₂ with
    | error e=>exact hr₂
    | ok fl₂=>
     cases fl₂ with
     | ret r=>
      obtain⟨rfl,h',tk,rfl,hS',hk'⟩:=hr₂
      (repeat (any_goals (first | assumption | wp_step)));skip
      exact h _ _ hS' hk'
     | _=>exact hr₂.elim
  | _=>exact hr.elim
end
theorem jH:PySem.Slot "set_iterator" "__next__" "set_iterator.__next__" := .of (owner:= "set_iterator") (n:= "__next__") (by rw[typeLookup_type,builtinLookup_eq_fast];kernel_rfl) (by decide+kernel) (by decide+kernel) (by decide+kernel) (by first | exact .inl (by decide+kernel) | exact .inr (by decide+kernel)) (by rw[isSubtype_type];kernel_rfl)
theorem z52:entryFor table "set_iterator.__next__" =some Builtin.«set_iterator.__next__»:=entryFor_of_tree (by kernel_rfl)
theorem z59(v:Value):argsOk "set_iterator.__next__" ⟨[v],[]⟩:=by unfold argsOk;kernel_rfl
theorem zzy:entryFor table "set.__iter__" =some Builtin.«frozenset.__iter__»:=entryFor_alias (id' := "frozenset.__iter__") (by kernel_rfl) rfl (by decide+kernel) (by kernel_rfl)
def pP(h:Heap)(I:Addr)(fst:Value)(i:Nat)(S:Addr)(n ep:Nat):Prop:=∃o,h.get? I=some o/\o.cls= .type "set_iterator" /\o.data= .fields #[fst,.int i 0,.ref S,.int n 0,.int ep 0]
theorem pP.ty{s:Shared}{I S:Addr}{fst:Value}{i n ep:Nat}(x:pP s.heap I fst i S n ep):s.TypeIs (.ref I) "set_iterator" :=let ⟨o,ho,hc,_⟩:=x;⟨o,ho,hc⟩
theorem pP.at(x:pP h I fst i S n ep)(e:∀o,h.get? I=some o ->h'.get? I=some o):pP h' I fst i S n ep:=let ⟨o,ho,r⟩:=x;⟨o,e o ho,r⟩
theorem ZC(hi:i<xs.length):(xs[i]::xs.eraseIdx i).Perm xs:=by
 rw[List.eraseIdx_eq_take_drop_succ];refine List.perm_middle.symm.trans ?_;rw[<- List.drop_eq_getElem_cons hi,List.take_append_drop]
section
variable{prog:Program}{w:World}{A:Around}{E:bL}{s:Shared}
theorem zvy(hn:n≠0)(h:∀i d,i<n ->Q i {s with drawn:=d}):wpAny (model prog w) A (choose src n) Q E s:=fun Γ p _=>by
 unfold choose;rw[Sem.wp_choose];exact⟨hn,h _ _ (Nat.mod_lt _ (Nat.pos_of_ne_zero hn))⟩
theorem zpc(n:Nat):∀(xs:List α) {s:Shared} {Q:List α ->Shared ->Prop},xs.length=n ->(∀ys d,ys.Perm xs ->Q ys {s with drawn:=d}) ->wpAny (model prog w) A (drawOrder n xs) Q E s:=by
 induction n with
 | zero=>
  intro xs s Q hn h;have:xs= []:=List.length_eq_zero_iff.mp hn;subst this;unfold drawOrder;exact z9 (α:=_) (h [] s.drawn (.refl _))
 | succ n ih=>
  intro xs s Q hn h;cases xs with
  | nil=>cases hn
  | cons x xs=>
  unfold drawOrder;refine z8 (m:=choose _ _) (zvy (by simp) fun i d hi=> ?_)
  rw[List.getElem?_eq_getElem hi];dsimp only;refine z8 (ih ((x::xs).eraseIdx i) ?_ fun ys d' hp=>z9 (α:=_) (h _ d' ?_))
  ·rw[List.length_eraseIdx_of_lt hi];omega
  ·refine(hp.cons _).trans ?_;exact ZC hi
section
variable{S I:Addr}{fst:Value}{i n ep:Nat}{o:Obj}{es:Array (Int×Value)}{t:SetTable}
theorem Sg(hh:A.handled=none)(hQ:∀h',Heap.ExtBut I h0 h' ->Q none {s with heap:=h'})(hk:Heap.ExtBut I h0 s.heap):
  wpAny (model prog w) A.in1 (newExc (.type "StopIteration") []>>=fun e=>(raiseNew e:Sem PySem.Fin)) (fun _ _=>False)
   (fun e s' =>wpAny (model prog w) A (do if<- isInstance e (.type "StopIteration") then pure (none:Option Value) else throw e) Q E s') s:=by
 refine z8 ?_;simp only [newExc,newTuple];refine z8 (wpAny_newObj_type ?_ (by size_fits))
 refine z8 (m:=firstArgMember _ _) (wpAny_of_eq (a:=Value.none) (by first | rfl | (simp only [firstArgMember];rfl)) ?_)
 refine wpAny_newObj_type ?_ (by size_fits)
 simp only [raiseNew];refine z8 (m:=_) (wpAny_handled ?_);rw[show A.in1.handled=none by simp [hh]]
 refine z8 (z9 (α:=_) (wpAny_throw (α:=_) ?_));refine z8 (m:=isInstance _ _) (wpAny_isInstance (T:= "StopIteration") (b:=true) ⟨_,zY _ rfl,rfl⟩ isSubtype_stop ?_);exact z9 (α:=_) (hQ _ ((hk.push _).push _))
end
end
section
variable{prog:Program}{w:World}{κ:Type}[DecidableEq κ]{knd:KeyKind prog w κ}{kf:Value ->κ}{A:Around}{E:bL}{s:Shared}{S I:Addr}{fst:Value}{i n ep:Nat}{o:Obj}{es:Array (Int×Value)}{t:SetTable}{led:Bool}{ks:List κ}
theorem CW(hit:pP s.heap I fst i S n ep)(hg:s.heap.get? S=some o)(O:iZ knd kf led o ks es ep t)(hn:es.size=n)
  (h:wpAny (model prog w) A.in1 (if let .int slot _:=fst then do
    match<- setNext S slot.toNat i ep with
    | some (x,next)=>
     setField (.ref I) 0 (rawInt next)
     setField (.ref I) 1 (rawInt ((i:Int)+1))
     ret x
    | none=>setField (.ref I) 2 .none;raiseNew (<- newExc (.type "StopIteration") [])
   else do
    let some places<- seqItems? fst | unsupported "internal:set_iterator"
    match places[i]? with
    | some (.int place _)=>
     let x<- setNextDrawn S place.toNat ep
     setField (.ref I) 1 (rawInt ((i:Int)+1))
     ret x
    | some _=>unsupported "internal:set_iterator"
    | none=>setField (.ref I) 0 (rawInt 0);setField (.ref I) 2 .none;raiseNew (<- newExc (.type "StopIteration") []))
   (fun fin s' =>∃r,fin= .done (.ret r)/\Q (some r) s')
   (fun e s' =>wpAny (model prog w) A (do if<- isInstance e (.type "StopIteration") then pure (none:Option Value) else throw e) Q E s') s):
  wpAny (model prog w) A (pyNext (.ref I)) Q E s:=by
 obtain⟨oi,ho,hc,hd⟩:=id hit;unfold pyNext;refine z8 (m:=_) (wpAny_attempt (wpAny_callSpecial?_slot (name:=Str.ofString "__next__") hit.ty jH (wpAny_call_entry jH hit.ty z52 ?_ (z59 _))));unfold Builtin.«set_iterator.__next__»;refine z8 (m:=slotArgs _ _ _) (z9 (α:=_) ?_);refine z8 (m:=fieldsOf _) (wpAny_fieldsOf ho hd ?_);dsimp only;refine z8 (m:=setEntries S) (wpAny_setEntries_of hg O.dat O.fit ?_);rw[if_neg (by rw[hn];simp)]
 refine wpAny_mono h (fun fin s' ⟨r,hr,hq⟩=>⟨r,hr,z9 (α:=_) hq⟩) fun e s' he=>he
theorem K4(h:Q (w.params.followText "set-order") s):wpAny (model prog w) A setsByText Q E s:=by
 unfold setsByText;exact z8 (m:=ask) (wpAny_askSetting (z9 (α:=_) h))
theorem ZD(hbt:w.params.followText "set-order" =false)(hg:s.heap.get? S=some o)(O:iZ knd kf true o ks es ep t)(hdr:(!t.plain&&decide (es.size>1))=false)
  (h:Q (match es[SetTable.below t.place slot]?,t.place[SetTable.below t.place slot]? with | some (_,x),some j=>some (x,j+1) | _,_=>none) s):wpAny (model prog w) A (setNext S slot given e0) Q E s:=by
 unfold setNext;refine z8 (m:=setState S) (wpAny_setState_of hg O.dat O.fit ?_);dsimp only;refine z8 (m:=setsByText) (K4 ?_);rw[hbt,if_neg Bool.false_ne_true,if_neg (fun z=>by have z' :(!t.plain&&decide (es.size>1))=true:=z;rw[hdr] at z';cases z')]
 refine z8 (m:=_) ?_;show wpAny _ _ (if (!t.led&& !es.isEmpty)=true then _ else pure PUnit.unit) _ _ _;rw[O.tok.led,if_neg (by simp)]
 exact z9 (α:=_) (z9 (α:=_) h)
theorem ZF(hbt:w.params.followText "set-order" =true)(hg:s.heap.get? S=some o)(O:iZ knd kf led o ks es ep t)
  (h:Q ((pickOrder (w.params.setOrder S ep) es)[given]?.map fun e=>(e.2,slot)) s):wpAny (model prog w) A (setNext S slot given ep) Q E s:=by
 unfold setNext;refine z8 (m:=setState S) (wpAny_setState_of hg O.dat O.fit ?_);dsimp only;refine z8 (m:=setsByText) (K4 ?_);rw[hbt,if_pos rfl,if_neg (by simp)]
 refine z8 (m:=setWalk S) ?_;unfold setWalk;refine z8 (m:=setState S) (wpAny_setState_of hg O.dat O.fit ?_);dsimp only;refine z8 (m:=setsByText) (K4 ?_);rw[hbt,if_pos rfl];exact z8 (m:=ask) (wpAny_askSetting (z9 (α:=_) (z9 (α:=_) h)))
theorem zvk(hg:s.heap.get? S=some o)(O:iZ knd kf led o ks es ep t)(hx:es[p]?=some x)(h:Q x.2 s):wpAny (model prog w) A (setNextDrawn S p ep) Q E s:=by
 unfold setNextDrawn;refine z8 (m:=setState S) (wpAny_setState_of hg O.dat O.fit ?_);dsimp only;rw[if_neg (by simp),hx]
 exact z9 (α:=_) h
theorem zqb(hg:s.heap.get? S=some o)(O:iZ knd kf led o ks es ep t)(h:Q (!w.params.followText "set-order" &&(!t.plain&&decide (es.size>1))) s):wpAny (model prog w) A (setDrawn S) Q E s:=by
 unfold setDrawn;refine z8 (m:=setState S) (wpAny_setState_of hg O.dat O.fit ?_);dsimp only;refine z8 (m:=setsByText) (K4 ?_);exact z9 (α:=_) h
theorem ZG(nx:Nat ->Nat):∀(f k:Nat) (l:List α) (out:Array α),l.length=f ->(pickOrder.go nx f k l out).toList.Perm (out.toList++l)
 | 0,k,l,out,hl=>by
  unfold pickOrder.go;rw[List.length_eq_zero_iff.mp hl];simp
 | f+1,k,l,out,hl=>by
  unfold pickOrder.go;have hi:nx k % l.length<l.length:=Nat.mod_lt _ (by omega)
  rw[List.getElem?_eq_getElem hi];dsimp only;refine(ZG nx f (k+1) (l.eraseIdx (nx k % l.length)) _ (by rw[List.length_eraseIdx_of_lt hi];omega)).trans ?_
  rw[Array.toList_push,List.append_assoc];exact List.Perm.append_left _ (ZC hi)
theorem Sh(nx:Nat ->Nat)(xs:Array α):(pickOrder nx xs).toList.Perm xs.toList:=by
 unfold pickOrder;exact ZG nx _ 0 _ #[] (by simp)
end
theorem ZJ:PySem.Slot "set_iterator" "__iter__" "set_iterator.__iter__" := .of (owner:= "set_iterator") (n:= "__iter__") (by rw[typeLookup_type,builtinLookup_eq_fast];kernel_rfl) (by decide+kernel) (by decide+kernel) (by decide+kernel) (by first | exact .inl (by decide+kernel) | exact .inr (by decide+kernel)) (by rw[isSubtype_type];kernel_rfl)
theorem z5z:entryFor table "set_iterator.__iter__" =some Builtin.«dict_keyiterator.__iter__»:=entryFor_alias (id' := "dict_keyiterator.__iter__") (by kernel_rfl) rfl (by decide+kernel) (by kernel_rfl)
theorem z6g(v:Value):argsOk "set_iterator.__iter__" ⟨[v],[]⟩:=by unfold argsOk;kernel_rfl
theorem pP.Ar(x:pP h I fst i S n ep)(v:Value):pP (h.update I (Obj.mapFields (·.setIfInBounds 0 v))) I v i S n ep:=by
 obtain⟨o,ho,hc,hd⟩:=x;exact⟨_,Heap.get?_update_self _ ho (Obj.isFreed_of_fields (Obj.data_mapFields hd _)),(Obj.cls_mapFields ..).trans hc,by rw[Obj.data_mapFields hd];simp⟩
theorem pP.Av(x:pP h I fst i S n ep):pP (h.update I (Obj.mapFields (·.setIfInBounds 1 (rawInt ((i:Int)+1))))) I fst (i+1) S n ep:=by
 obtain⟨o,ho,hc,hd⟩:=x;exact⟨_,Heap.get?_update_self _ ho (Obj.isFreed_of_fields (Obj.data_mapFields hd _)),(Obj.cls_mapFields ..).trans hc,by rw[Obj.data_mapFields hd];simp [rawInt]⟩
section
variable{prog:Program}{w:World}{κ:Type}[DecidableEq κ]{knd:KeyKind prog w κ}{kf:Value ->κ}
structure Steps (prog:Program) (w:World) (A:Around) (I S:Addr) (n ep:Nat) (o:Obj) (ex:bD) (vals:List Value) (fst:Nat ->Value):Prop where
 item:∀i (s:Shared) (Q:Option Value ->Shared ->Prop) (E:bL),i<n ->pP s.heap I (fst i) i S n ep ->s.heap.get? S=some o ->(∀p∈ex,s.heap.get? p.1=some p.2) ->
  (∀v h',vals[i]?=some v ->pP h' I (fst (i+1)) (i+1) S n ep ->Heap.SameBut I s.heap h' ->Q (some v) {s with heap:=h'}) ->wpAny (model prog w) A (pyNext (.ref I)) Q E s
 done:∀(s:Shared) (Q:Option Value ->Shared ->Prop) (E:bL),pP s.heap I (fst n) n S n ep ->s.heap.get? S=some o ->(∀p∈ex,s.heap.get? p.1=some p.2) ->
  (∀h',Heap.ExtBut I s.heap h' ->Q none {s with heap:=h'}) ->wpAny (model prog w) A (pyNext (.ref I)) Q E s
theorem zwu(T:Steps prog w A I S n ep o ex vals fst)(hS:S≠I)(hX:∀p∈ex,p.1≠I):
  Walks prog w A I (I::S::ex.map (·.1)) [I] n (fun i v=>vals[i]?=some v) (fun i h=>pP h I (fst i) i S n ep/\h.get? S=some o/\∀p∈ex,h.get? p.1=some p.2) where
 sub:=fun b hb=>by simp at hb;simp [hb]
 frame:=fun i h h' st hk=>⟨st.1.at fun o e=>hk I (by simp) o e,hk S (by simp) o st.2.1,fun p hp=>hk p.1 (by simp only [List.mem_cons,List.mem_map];exact .inr (.inr ⟨p,hp,rfl⟩)) p.2 (st.2.2 p hp)⟩
 item:=fun i s Q E hi st hQ=>T.item i s Q E hi st.1 st.2.1 st.2.2 fun v h' hv st' sb=>hQ v h' s.toks hv ⟨st',(sb.2 S hS).trans st.2.1,fun p hp=>(sb.2 p.1 (hX p hp)).trans (st.2.2 p hp)⟩ fun b o hb e=>(sb.2 b fun z=>hb (by simp [z])).trans e
 done:=fun s Q E st hQ=>T.done s Q E st.1 st.2.1 st.2.2 fun h' eb=>hQ h' s.toks fun b o hb e=>eb b o (fun z=>hb (by simp [z])) e
 self:=fun i s Q E st hQ=>by
  refine wpAny_pyIter_slot st.1.ty ZJ (wpAny_call_entry ZJ st.1.ty z5z ?_ (z6g _));show wpAny _ _ (ret (.ref I)) _ _ _;exact z9 (α:=_) ⟨_,rfl,"set_iterator",_,st.1.ty,jH.lookup,hQ⟩
variable{A:Around}{I S:Addr}{n ep:Nat}{o:Obj}{es:Array (Int×Value)}{t:SetTable}{ks:List κ}
def iJ(t:SetTable)(i:Nat):Nat:=if h:0<i/\i<=t.place.toList.length then t.place.toList[i - 1]'(by omega)+1 else 0
theorem ZK(hr:rJ t.place.toList)(hi:i<=t.place.toList.length):SetTable.below t.place (iJ t i)=i:=by
 have:=ztq hr hi;unfold iJ;by_cases h0:0<i
 ·rw[dif_pos ⟨h0,hi⟩];rw[dif_pos h0] at this;exact this
 ·rw[dif_neg (fun z=>h0 z.1)];rw[dif_neg h0] at this;exact this
theorem ZL(h:t.fits n=true):t.place.toList.length=n:=by
 simp only [SetTable.fits,Bool.and_eq_true,beq_iff_eq] at h
 simpa using h.1
theorem z2m(hh:A.handled=none)(hbt:w.params.followText "set-order" =false)(O:iZ knd kf true o ks es ep t)(hdr:(!t.plain&&decide (es.size>1))=false):
  Steps prog w A I S es.size ep o [] (es.toList.map (·.2)) fun i=> .int (iJ t i) 0 where
 item:=fun i s Q E hi hit hg _ hQ=>by
  have hl:=ZL O.fit;have hb:=ZK O.tok.KZ (i:=i) (by omega)
  have hp:i<t.place.size:=by simpa using (by omega:i<t.place.toList.length)
  refine CW hit hg O rfl ?_;refine z8 (m:=setNext _ _ _ _) (ZD (ep:=ep) hbt hg O hdr ?_);rw[show((iJ t i:Nat):Int).toNat=iJ t i from Int.toNat_natCast _,hb,Array.getElem?_eq_getElem hi,Array.getElem?_eq_getElem hp];dsimp only;obtain⟨oi,h1,h2,h3⟩:=id hit;refine z8 (m:=setField _ _ _) (wpAny_setField h1 h3 (by simp) ?_)
  have hit2:=hit.Ar (rawInt (t.place[i]+1:Nat));obtain⟨oj,g1,g2,g3⟩:=id hit2;refine z8 (m:=setField _ _ _) (wpAny_setField g1 g3 (by simp) ?_)
  refine z9 (α:=_) ⟨_,rfl,hQ _ _ (by simp [hi]) ?_ ((Heap.SameBut.update s.heap I _).trans (Heap.SameBut.update _ I _))⟩
  have e:(Value.int (iJ t (i+1)) 0)=rawInt (t.place[i]+1:Nat):=by
   unfold iJ;rw[dif_pos ⟨by omega,by omega⟩]
   simp [rawInt]
  rw[e];exact hit2.Av
 done:=fun s Q E hit hg _ hQ=>by
  have hl:=ZL O.fit;have hb:=ZK O.tok.KZ (i:=es.size) (by omega)
  refine CW hit hg O rfl ?_;refine z8 (m:=setNext _ _ _ _) (ZD (ep:=ep) hbt hg O hdr ?_);rw[show((iJ t es.size:Nat):Int).toNat=iJ t es.size from Int.toNat_natCast _,hb,Array.getElem?_eq_none (Nat.le_refl _)];dsimp only;obtain⟨oi,h1,h2,h3⟩:=id hit;refine z8 (m:=setField _ _ _) (wpAny_setField h1 h3 (by simp) ?_)
  exact wpAny_mono (Sg (I:=I) hh hQ (Heap.SameBut.update s.heap I _).extBut) (fun _ _ q=>q.elim) fun _ _ q=>q
theorem z13(hh:A.handled=none)(hbt:w.params.followText "set-order" =true)(O:iZ knd kf led o ks es ep t):
  Steps prog w A I S es.size ep o [] ((pickOrder (w.params.setOrder S ep) es).toList.map (·.2)) fun _=> .int 0 0 where
 item:=fun i s Q E hi hit hg _ hQ=>by
  have hp:=(Sh (w.params.setOrder S ep) es).length_eq;simp only [Array.length_toList] at hp;refine CW hit hg O rfl ?_;refine z8 (m:=setNext _ _ _ _) (ZF hbt hg O ?_);have hi' :i< (pickOrder (w.params.setOrder S ep) es).size:=by omega
  rw[Array.getElem?_eq_getElem hi'];dsimp only [Option.map_some];obtain⟨oi,h1,h2,h3⟩:=id hit;refine z8 (m:=setField _ _ _) (wpAny_setField h1 h3 (by simp) ?_)
  have hit2:=hit.Ar (rawInt ((0:Nat):Int));obtain⟨oj,g1,g2,g3⟩:=id hit2;refine z8 (m:=setField _ _ _) (wpAny_setField g1 g3 (by simp) ?_)
  exact z9 (α:=_) ⟨_,rfl,hQ _ _ (by simp [hi']) hit2.Av ((Heap.SameBut.update s.heap I _).trans (Heap.SameBut.update _ I _))⟩
 done:=fun s Q E hit hg _ hQ=>by
  have hp:=(Sh (w.params.setOrder S ep) es).length_eq;simp only [Array.length_toList] at hp;refine CW hit hg O rfl ?_;refine z8 (m:=setNext _ _ _ _) (ZF hbt hg O ?_);rw[Array.getElem?_eq_none (by omega)]
  dsimp only [Option.map_none];obtain⟨oi,h1,h2,h3⟩:=id hit;refine z8 (m:=setField _ _ _) (wpAny_setField h1 h3 (by simp) ?_)
  exact wpAny_mono (Sg (I:=I) hh hQ (Heap.SameBut.update s.heap I _).extBut) (fun _ _ q=>q.elim) fun _ _ q=>q
theorem z3c{led:Bool}(hh:A.handled=none)(O:iZ knd kf led o ks es ep t){Tp:Addr}{ot:Obj}{ps:List Nat}(hps:ps.Perm (List.range es.size))(hot:∃m,ot.data= .seq (ps.map fun(p:Nat)=>rawInt p).toArray m):
  Steps prog w A I S es.size ep o [(Tp,ot)] (ps.map fun p=>(es.getD p (0,.none)).2) fun _=> .ref Tp where
 item:=fun i s Q E hi hit hg hx hQ=>by
  obtain⟨m,hm⟩:=hot;have hl:ps.length=es.size:=by simpa using hps.length_eq
  have hi' :i<ps.length:=by omega
  have hlt:ps[i]<es.size:=List.mem_range.mp (hps.mem_iff.mp (yX hi'));refine CW hit hg O rfl ?_;show wpAny _ _ (seqItems? (.ref Tp)>>=_) _ _ _;refine z8 (m:=seqItems? _) (wpAny_seqItems (hx (Tp,ot) (by simp)) hm ?_)
  dsimp only;have e:(ps.map fun(p:Nat)=>rawInt p).toArray[i]?=some (.int (ps[i]:Nat) 0):=by simp [hi',rawInt]
  rw[e];dsimp only;refine z8 (m:=setNextDrawn _ _ _) (zvk (x:=es[ps[i]]) hg O (by rw[Int.toNat_natCast];exact Array.getElem?_eq_getElem hlt) ?_)
  obtain⟨oi,h1,h2,h3⟩:=id hit;refine z8 (m:=setField _ _ _) (wpAny_setField h1 h3 (by simp) ?_)
  exact z9 (α:=_) ⟨_,rfl,hQ _ _ (by simp [hi',hlt]) hit.Av (Heap.SameBut.update s.heap I _)⟩
 done:=fun s Q E hit hg hx hQ=>by
  obtain⟨m,hm⟩:=hot;have hl:ps.length=es.size:=by simpa using hps.length_eq
  refine CW hit hg O rfl ?_;show wpAny _ _ (seqItems? (.ref Tp)>>=_) _ _ _;refine z8 (m:=seqItems? _) (wpAny_seqItems (hx (Tp,ot) (by simp)) hm ?_)
  dsimp only;have e:(ps.map fun(p:Nat)=>rawInt p).toArray[es.size]?=none:=by simp [hl]
  rw[e];dsimp only;obtain⟨oi,h1,h2,h3⟩:=id hit;refine z8 (m:=setField _ _ _) (wpAny_setField h1 h3 (by simp) ?_)
  have hit2:=hit.Ar (rawInt 0);obtain⟨oj,g1,g2,g3⟩:=id hit2;refine z8 (m:=setField _ _ _) (wpAny_setField g1 g3 (by simp) ?_)
  exact wpAny_mono (Sg (I:=I) hh hQ ((Heap.SameBut.update s.heap I _).trans (Heap.SameBut.update _ I _)).extBut) (fun _ _ q=>q.elim) fun _ _ q=>q
end
section
variable{prog:Program}{w:World}{κ:Type}[DecidableEq κ]{knd:KeyKind prog w κ}{kf:Value ->κ}{A:Around}{E:bL}{s:Shared}{S:Addr}{ep:Nat}{o:Obj}{es:Array (Int×Value)}{t:SetTable}{ks:List κ}
structure Laid (knd:KeyKind prog w κ) (kf:Value ->κ) (s:Shared) (S:Addr) (o:Obj) (ks:List κ) (I:Addr) (h' :Heap) (n:Nat) (vals:List Value) (St:Nat ->Heap ->Prop) (fp:List Addr):Prop where
 wk:∀A' :Around,A'.handled=none ->Walks prog w A' I fp [I] n (fun i v=>vals[i]?=some v) St
 st:St 0 h'
 len:vals.length=n
 lem:n=ks.length
 key:(vals.map kf).Perm ks
 mem:∀v∈vals,(∃k,knd.is k v=true)/\v.scannable=true
 new:s.heap.objs.size<=I
 inF:I∈fp
 fpl:∀b∈fp,b<h'.objs.size
 fpn:∀b∈fp,b=S\/s.heap.objs.size<=b
 kep:∀b ob,s.heap.get? b=some ob ->h'.get? b=some ob
 siz:s.heap.objs.size<=h'.objs.size
theorem zzl(hg:s.heap.get? S=some o)(O:iZ knd kf (gA w) o ks es ep t)(hb:es.size<=sizeLine)
  (h:∀(I:Addr) (h' :Heap) d n vals St fp,Laid knd kf s S o ks I h' n vals St fp ->Q (.ref I) {s with heap:=h',drawn:=d}):wpAny (model prog w) A (pyIter (.ref S)) Q E s:=by
 have hT:s.TypeIs (.ref S) "set" :=⟨o,hg,O.ex.1⟩;have hSl:S<s.heap.objs.size:=zG hg;have hlk:es.size=ks.length:=by simpa using O.key.length_eq
 have Sv:∀v∈es.toList.map (·.2),(∃k,knd.is k v=true)/\v.scannable=true:=fun v hv=>by
  obtain⟨e,he,rfl⟩:=zE.mp hv;obtain⟨⟨k,hk,_⟩,hs⟩:=O.el e he;exact⟨⟨k,hk⟩,hs⟩
 have fin:∀(h1:Heap) d (vals:List Value) (ex:bD) (fst:Nat ->Value),s.heap.objs.size<=h1.objs.size ->(∀b ob,s.heap.get? b=some ob ->h1.get? b=some ob) ->(∀p∈ex,h1.get? p.1=some p.2/\s.heap.objs.size<=p.1) ->
   (∀A' :Around,A'.handled=none ->Steps prog w A' h1.objs.size S es.size ep o ex vals fst) ->vals.length=es.size ->(vals.map kf).Perm ks ->(∀v∈vals,(∃k,knd.is k v=true)/\v.scannable=true) ->
   Q (.ref h1.objs.size) {s with heap:=h1.push {cls:= .type "set_iterator",data:= .fields #[fst 0,rawInt 0,.ref S,rawInt es.size,rawInt ep]},drawn:=d}:=by
  intro h1 d vals ex fst hsz hk hx' hs hl hp hm;have hx:∀p∈ex,h1.get? p.1=some p.2:=fun p q=>(hx' p q).1;refine h _ _ d es.size vals _ _ ⟨fun A' hh=>zwu (hs A' hh) (zJ (zL hSl hsz)) (fun p q=>zJ (zG (hx p q))),⟨⟨_,zY _ rfl,rfl,rfl⟩,zZ _ (hk S o hg),fun p q=>zZ _ (hx p q)⟩,hl,hlk,hp,hm,hsz,by simp,fun b q=> ?_,fun b q=> ?_,fun b ob e=>zZ _ (hk b ob e),?_⟩
  ·rw[Heap.size_push];simp only [List.mem_cons,List.mem_map] at q;rcases q with rfl | rfl | ⟨p,hp',rfl⟩
   ·exact Nat.lt_succ_self _
   ·exact Nat.lt_succ_of_lt (zL hSl hsz)
   ·exact Nat.lt_succ_of_lt (zG (hx p hp'))
  ·simp only [List.mem_cons,List.mem_map] at q;rcases q with rfl | rfl | ⟨p,hp',rfl⟩
   ·exact .inr hsz
   ·exact .inl rfl
   ·exact .inr (hx' p hp').2
  ·rw[Heap.size_push];exact Nat.le_succ_of_le hsz
 refine wpAny_pyIter_slot hT PySem.F.slot_set_iter (wpAny_call_entry PySem.F.slot_set_iter hT zzy ?_ (PySem.F.args_set_iter_1 _));unfold Builtin.«frozenset.__iter__»;refine z8 (m:=Builtin.Frozenset.slot0 _ _) ?_;unfold Builtin.Frozenset.slot0;refine z8 (m:=slotArgs _ _ _) (z9 (α:=_) ?_);show wpAny _ _ (pure S) _ _ _;refine z9 (α:=_) ?_;refine z8 (m:=Builtin.Frozenset.sizeOf S) ?_;unfold Builtin.Frozenset.sizeOf;refine z8 (m:=setEntries S) (wpAny_setEntries_of hg O.dat O.fit (z9 (α:=_) ?_));refine z8 (m:=setDrawn S) (zqb hg O ?_);dsimp only;cases hbt:w.params.followText "set-order" with
 | true=>
  rw[show(!true&&(!t.plain&&decide (es.size>1)))=false from rfl,if_neg Bool.false_ne_true];refine z8 (m:=pure _) (z9 (α:=_) ?_);refine z8 (m:=setEpoch S) (wpAny_setEpoch_of hg O.dat O.fit ?_);refine z8 (m:=newFields _ _) (wpAny_newObj_type (z9 (α:=_) ⟨_,rfl,"set_iterator",_,⟨_,zY _ rfl,rfl⟩,jH.lookup,?_⟩));have hp:=Sh (w.params.setOrder S ep) es;refine fin s.heap s.drawn ((pickOrder (w.params.setOrder S ep) es).toList.map (·.2)) [] (fun _=> .int 0 0) (zM _) (fun _ _ e=>e) (fun p q=>by cases q) (fun A' hh=>z13 hh hbt O) (by simpa using hp.length_eq) ?_ fun v hv=>Sv v ((hp.map _).mem_iff.mp hv)
  rw[List.map_map];exact(hp.map _).trans O.key
 | false=>
  have Sw:gA w=true:=by unfold gA;rw[hbt];rfl
  cases hdr:(!t.plain&&decide (es.size>1)) with
  | false=>
   rw[show(!false&&false)=false from rfl,if_neg Bool.false_ne_true];refine z8 (m:=pure _) (z9 (α:=_) ?_);refine z8 (m:=setEpoch S) (wpAny_setEpoch_of hg O.dat O.fit ?_);refine z8 (m:=newFields _ _) (wpAny_newObj_type (z9 (α:=_) ⟨_,rfl,"set_iterator",_,⟨_,zY _ rfl,rfl⟩,jH.lookup,?_⟩));rw[Sw] at O;refine fin s.heap s.drawn (es.toList.map (·.2)) [] (fun i=> .int (iJ t i) 0) (zM _) (fun _ _ e=>e) (fun p q=>by cases q) (fun A' hh=>z2m hh hbt O hdr) (by simp) ?_ Sv
   rw[List.map_map];exact O.key
  | true=>
   rw[show(!false&&true)=true from rfl,if_pos rfl];refine z8 (m:=drawOrder _ _) (zpc es.size (List.range es.size) (by simp) fun ps d hps=> ?_)
   have hpl:ps.length=es.size:=by simpa using hps.length_eq
   refine z8 (m:=newTuple _) (wpAny_newTuple ?_ (by rw[List.length_map,hpl];exact hb))
   have hgt:(s.heap.push {cls:= .type "tuple",data:= .seq (ps.map fun(i:Nat)=>rawInt i).toArray}).get? S=some o:=zZ _ hg;refine z8 (m:=setEpoch S) (wpAny_setEpoch_of hgt O.dat O.fit ?_);refine z8 (m:=newFields _ _) (wpAny_newObj_type (z9 (α:=_) ⟨_,rfl,"set_iterator",_,⟨_,zY _ rfl,rfl⟩,jH.lookup,?_⟩));have hpm:(ps.map fun p=>(es.getD p (0,.none)).2).Perm (es.toList.map (·.2)):=by
    refine(hps.map _).trans ?_;have:(List.range es.size).map (fun p=>(es.getD p (0,.none)).2)=es.toList.map (·.2):=by
     apply List.ext_getElem
     ·simp
     ·intro i h1 h2;have:i<es.size:=by simpa using h1
      simp [this]
    rw[this]
   refine fin _ d (ps.map fun p=>(es.getD p (0,.none)).2) [(s.heap.objs.size,{cls:= .type "tuple",data:= .seq (ps.map fun(i:Nat)=>rawInt i).toArray})] (fun _=> .ref s.heap.objs.size) (by rw[Heap.size_push];exact Nat.le_succ _) (fun b ob e=>zZ _ e) (fun p q=> ?_) (fun A' hh=>z3c hh O hps ⟨_,rfl⟩) (by simp [hpl]) ?_ fun v hv=>Sv v (hpm.mem_iff.mp hv)
   ·obtain rfl:p=_:=by simpa using q
    exact⟨zY _ rfl,zM _⟩
   ·refine(hpm.map kf).trans ?_;rw[List.map_map];exact O.key
abbrev fj:Obj:={cls:= .type "list",data:= .seq ([]:List Value).toArray}
theorem zqu(hh:A.handled=none)(hg:s.heap.get? S=some o)(O:iZ knd kf (gA w) o ks es ep t)(hb:es.size<=sizeLine)
  (h:∀(vals:List Value) (h' :Heap) d tk,(vals.map kf).Perm ks ->(∀v∈vals,(∃k,knd.is k v=true)/\v.scannable=true) ->s.heap.objs.size<h'.objs.size ->(∀b ob,s.heap.get? b=some ob ->h'.get? b=some ob) ->Q vals {s with heap:=h',drawn:=d,toks:=tk}):
  wpAny (model prog w) A (collect (.ref S)) Q E s:=by
 have hSl:S<s.heap.objs.size:=zG hg;unfold collect;refine z8 (m:=runValue _) (wpAny_runValue (codeAny_builtin PySem.F.entry_proto_collect ?_));rw[Around.under_plainId PySem.F.plain_proto_collect _];show wpAny _ _ (newList []>>=fun l=>again (.builtin "list.__iadd__" ⟨[l,.ref S],[]⟩)) _ _ _;refine z8 (m:=newList []) (wpAny_newObj_type ?_);refine z9 (α:=_) ⟨plainId_quiet PySem.F.plain_list_iadd _,codeAny_builtin PySem.F.entry_list_iadd ?_⟩;rw[Around.under_plainId PySem.F.plain_list_iadd _];have hg1:(s.heap.push fj).get? S=some o:=zZ _ hg;have hT1:Shared.TypeIs {s with heap:=s.heap.push fj} (.ref S) "set" :=⟨o,hg1,O.ex.1⟩;show wpAny _ _ (Builtin.List.listExtendWith (.ref s.heap.objs.size) (.ref S) (.ref s.heap.objs.size)) _ _ _;unfold Builtin.List.listExtendWith;refine z8 (m:=typeOf _) (wpAny_typeOf hT1 ?_);have n1:Builtin.List.listSameRef (.ref s.heap.objs.size) (.ref S)=false:=by simp [Builtin.List.listSameRef,Nat.ne_of_gt hSl]
 rw[if_neg (by rw[n1];decide)]
 refine z8 (m:=pyIter _) (zzl hg1 O hb fun I h1 d n vals St fp L=> ?_);refine z8 (m:=holding _ _) (wpAny_holding (vs:= [_]) ?_);unfold Builtin.List.listLengthHint;have hg2:h1.get? S=some o:=L.kep S o hg1;have hT2:Shared.TypeIs {s with heap:=h1,drawn:=d} (.ref S) "set" :=⟨o,hg2,O.ex.1⟩;refine z8 (m:=specialOf _ _) (wpAny_specialOf hT2 PySem.F.slot_set_len.lookup ?_);dsimp only;rw[show splitId "set.__len__" =some ("set","__len__") by decide+kernel]
 dsimp only;refine z8 (m:=isInstance _ _) (wpAny_isInstance hT2 sub_set_self ?_);rw[if_neg (by decide),if_pos (by decide+kernel)]
 refine z8 (m:=typeOf _) (wpAny_typeOf hT2 ?_);dsimp only;refine z9 (α:=_) ?_;rw[if_pos (by decide+kernel)]
 refine z8 (m:=rule _) (wpAny_rule ?_);have hS1:h1.get? s.heap.objs.size=some fj:=L.kep _ _ (zY _ rfl);have hNI:s.heap.objs.size≠I:=zJ (zL (by rw[Heap.size_push];exact Nat.lt_succ_self _) L.new)
 refine z8 (m:=Builtin.List.listTouch _) ?_;show wpAny _ _ (updateSeq s.heap.objs.size (·.push .none)>>=fun _=>updateSeq s.heap.objs.size (·.pop)) _ _ _;refine z8 (m:=updateSeq _ _) (wpAny_updateSeq hS1 rfl ?_);have hS2:=Heap.get?_update_self (Obj.mapSeq (·.push Value.none)) hS1 rfl;refine wpAny_updateSeq hS2 rfl ?_;have hS3:=Heap.get?_update_self (Obj.mapSeq (·.pop)) hS2 rfl;have oth:∀b ob,b≠s.heap.objs.size ->h1.get? b=some ob ->((h1.update s.heap.objs.size (Obj.mapSeq (·.push Value.none))).update s.heap.objs.size (Obj.mapSeq (·.pop))).get? b=some ob:=
  fun b ob q e=>(Heap.get?_update_other _ _ (Ne.symm q)).trans ((Heap.get?_update_other _ _ (Ne.symm q)).trans e)
 have ZM:s.heap.objs.size∉fp:=fun q=>by
  rcases L.fpn _ q with z | z
  ·exact absurd z (Nat.ne_of_gt hSl)
  ·have z' :(s.heap.push fj).objs.size<=s.heap.objs.size:=z;rw[Heap.size_push] at z';exact absurd z' (Nat.not_succ_le_self _)
 have u9:n<=sizeLine:=by
  have e1:=L.lem;have e2:es.size=ks.length:=by simpa using O.key.length_eq
  omega
 have W:=L.wk A.in1 (by simp [hh])
 refine z9 (α:=_) ⟨plainId_quiet PySem.F.plain_extend_loop _,codeAny_extend_loopS W.toS u9 _ ZM _ n 0 _ _ _ rfl (Nat.zero_le _) (W.frame 0 h1 _ L.st fun b q ob e=>oth b ob (fun z=>ZM (z ▸ q)) e) hS3 (ItemsOf.nil _) fun s' acc c' hm hS' hacc=> ?_⟩;show wpAny _ _ (load s.heap.objs.size>>=_) _ _ _;refine z8 (m:=load _) (wpAny_load hS' ?_);refine z9 (α:=_) ?_;have ev:acc.toList=vals:=by
  apply List.ext_getElem?;intro i;by_cases q:i<n
  ·have hi:i<acc.size:=by rw[hacc.1];exact q
   have:=hacc.2 i acc[i] (Array.getElem?_eq_getElem hi);rw[Array.getElem?_toList,Array.getElem?_eq_getElem hi,this]
  ·exact(List.getElem?_eq_none (by rw[Array.length_toList,hacc.1];omega)).trans (List.getElem?_eq_none (by rw[L.len];omega)).symm
 rw[ev];obtain⟨h',g',d',tk',os'⟩:=s';obtain rfl:g' =s.gens:=hm.gens;obtain rfl:d' =d:=hm.drawn;obtain rfl:os' =s.os:=hm.os;refine h vals h' d' tk' L.key L.mem (zG hS') fun b ob e=> ?_;have hlt:=zG e;have Sx:b≠s.heap.objs.size:=zJ hlt;refine hm.heap b ob ?_ (oth b ob Sx (L.kep b ob (zZ _ e)));simp only [List.mem_cons,List.not_mem_nil,or_false,not_or];exact⟨Sx,fun z=>Sx (by
  subst z;have z2:(s.heap.push fj).objs.size<=b:=L.new;rw[Heap.size_push] at z2;exact absurd hlt (Nat.not_lt_of_ge (Nat.le_of_succ_le z2)))⟩
end
def Sy:Value ->Int | .int i _=>i | _=>0
theorem z7k(hob:h.get? a=some (seqObj "list" xs n)):∃e,(sortedHeap h a vs out).get? a=some (seqObj "list" out e):=by
 have hal:a<h.objs.size:=zG hob;have h1:=get?_update_seq hob (fun _=>(#[]:Array Value));have h2:(((h.update a (Obj.mapSeq fun _=> #[])).push (seqObj "tuple" vs.toArray 0)).push (seqObj "list" #[] 0)).get? a=some (seqObj "list" #[] _):=zZ _ (zZ _ h1);exact⟨_,get?_update_seq h2 (fun _=>out)⟩
theorem z43(hb:h.get? b=some o)(hne:b≠a):(sortedHeap h a vs out).get? b=some o:=by
 have h1:(h.update a (Obj.mapSeq fun _=>(#[]:Array Value))).get? b=some o:=(Heap.get?_update_ne _ _ _ _ hne).trans hb;exact(Heap.get?_update_ne _ _ _ _ hne).trans (zZ _ (zZ _ h1))
section
variable{prog:Program}{w:World}{A:Around}{E:bL}{s:Shared}{S:Addr}{ks:List Int}
end
def Hf(P:Program)(w:World)(a:Addr)(ns:List Int):HO:= .ext fun h=>lH (PySem.intKind P w) Sy (gA w) h a (fW (fun i=>ns.getD i 0) ns.length)
theorem z5m(I:Inv X pins σ H s)(d):Inv X pins σ H {s with drawn:=d}:=⟨I.ok,I.os,I.bare,I.base,I.loc,I.cell,I.free,I.freeC,I.pin,I.hok,I.len⟩
def abd(X:Cx):List V ->Hp ->VK ->Prop:=fun vs H Q=>∃(p:Addr) (ns:List Int),vs= [.ref p]/\fZ X.K H p (ns.map .int)/\ns.length+1<scanBound/\∀q,H q=none ->Q (.ref q) (upd H q (Hf X.prog X.w q ns))
def abe(X:Cx):List V ->Hp ->VK ->Prop:=fun vs H Q=>∃(q:Addr) (ns:List Int),vs= [.ref q]/\H q=some (Hf X.prog X.w q ns)/\ (fW (fun i=>ns.getD i 0) ns.length).length<64/\
 ∀(l:Addr) (ms:List Int),H l=none ->ms.Perm (fW (fun i=>ns.getD i 0) ns.length) ->ms.Pairwise (· <= ·) ->Q (.ref l) (upd H l (.lst (ms.map .int)))
def z7m:List D ->(List D ->Prop) ->Prop:=fun ds P=>match ds with
 | [.lst xs]=>∃ns,gq xs=some ns/\ns.length<63/\∀ms:List Int,ms.Pairwise (· < ·) ->(∀i,i∈ms↔i∈ns) ->P (ms.map .int)
 | _=>False
theorem zzp:bootBuiltins "set" =some (.type "set"):=by decide+kernel
section
variable{X:Cx}{F0 H0:Hp}{a e:Expr}{pos p pos2 p2:Pos}{t:bA}
end
def Itv(K:W.Frag)(a:Addr)(xs:List V):It:=⟨fun i H=>fZ K H a xs/\i<xs.length,fun i H x H' =>H' =H/\xs.reverse[i]?=some x,fun i _=>xs.length<=i⟩
def ZP(K:W.Frag)(ta:TA):TI:=fun σ H R=>ta σ H fun vs H1=>∃a xs,vs= [.ref a]/\fZ K H1 a xs/\ (xs.length<=sizeLine ->R (Itv K a xs) H1)
def z33(t:bA):bA:=fun Γ P E=>t Γ (fun ds Γ1=>match ds with | [.lst xs]=>P xs.reverse Γ1 | _=>False) E
section
variable{X:Cx}{F0 H0:Hp}{a e tg:Expr}{pos p pos2 p2:Pos}{t:bA}
end
section
variable{prog:Program}{w:World}{A:Around}{E:bL}{s:Shared}
abbrev SJ:Obj:={cls:= .type "list",data:= .seq #[]}
end
def z7t:List D ->(List D ->Prop) ->Prop:=fun ds P=>match ds with | [.lst xs]=>P xs.reverse | _=>False
structure SM (K:W.Frag) (C:Addr):Prop where
 cls:Ga K C=true
 g:vR K C
 sa:W.findIn K (.ref C) "__setattr__" =some (some (.builtin "object.__setattr__"))
 hd:W.hasDictIn K C=true
section
variable{prog:Program}{w:World}{A:Around}{E:bL}{K:W.Frag}{h:Heap}{g:Array GenState}{d:Drawn}{t:Nat}{os:OsState}{x C:Addr}{o:Obj}{name:Str}{v:Value}
end
section
variable{prog:Program}{w:World}{A:Around}{E:bL}{K:W.Frag}{h:Heap}{g:Array GenState}{d:Drawn}{t:Nat}{os:OsState}{x C dx:Addr}{o:Obj}{name:Str}{v:Value}{mA:Str ->Option Value}
end
def XO(e C:Addr)(od:Option Addr):HO:= .ext fun h=>∃t,h.get? e=some ⟨.ref C,od,.fields #[.ref t,.none,.none,.none,.bool false,.none],#[]⟩
section
variable{X:Cx}{pins:bD}{σ:St}{H:Hp}{s:Shared}{A:Around}{E:bL}{a C dx:Addr}{f:Str}{y v:V}{u:Value}{fs:List (Str×V)}
end
def ZQ(C:Addr)(f:Str)(ta:TE):TE:=fun σ H Q=>ta σ H fun x H1=>∃a dx fs v,x= .ref a/\H1 a=some (XO a C (some dx))/\H1 dx=some (.xd fs)/\fs.lookup f=some v/\Q v H1
def ZR(C:Addr)(f:Str)(ta tv:TE):TS:=fun D σ H=>tv σ H fun y H1=>ta σ H1 fun x H2=>∃a,x= .ref a/\H2 a=some (XO a C none)/\∀dx,H2 dx=none ->dx≠a ->D.nx σ (upd (upd H2 a (XO a C (some dx))) dx (.xd [(f,y)]))
structure abf (K:W.Frag) (B:Addr):Prop where
 sp:W.specialIn K (.ref B) "__getattribute__" =some (some (.builtin "type.__getattribute__"))
 rd:W.readsIn K B (.type "type")=true
 fi:W.findCls K (.ref B) (.type "type") "__init__" =some (.val (.builtin "ValueError.__init__"))
section
variable{X:Cx}{o e value:Expr}{f:Str}{pos pos' apos p:Pos}{ta tv:TE}{C B:Addr}{x:Str}
end
def z6i(bn:Str)(p apos pos:Pos)(args:List Expr)(env:Env)(pl:Sem Bool):Prop:=eval (.Call (.Attribute (.Name bn p) "__init__" apos) args [] pos) env=(do
   let ov<- eval (.Name bn p) env
   standAt apos.atName
   let (f,first)<- holding [ov] (getMethod ov "__init__" pl)
   callWith pos f first (backTo pos (starEach args env)) (backToKw pos (keywordEach [] env)))
def z2e(K:W.Frag)(C:Addr)(f:Str)(sp:cO):Sp:=fun vs H Q E=>∃x rest F ds Pd Ex,vs= .ref x::rest/\H x=some (XO x C none)/\Same F H/\F x=none/\ak K F ds rest/\sp ds Pd Ex/\
 (∀d F' H3 v dx H',Gr F H F' H3 ->Rep K F' d v ->Pd d ->H3 dx=none ->dx≠x ->H' x=some (XO x C (some dx)) ->H' dx=some (.xd [(f,v)]) ->(∀b,b≠x ->b≠dx ->H' b=H3 b) ->Q .non H')/\∀C' H',Ex C' ->Same H H' ->E C' none H'
section
variable{P:Program}{w:World}{K:W.Frag}{mg:Str ->Option Value}{base:Heap}
end
def z6r(C:Addr)(sp:cO)(t:bA):au:=fun _ Γ E=>t Γ (fun ds Γ1=>ds.length<=sizeLine/\sp ds (fun _=>E Γ1 (.ref C)) fun Cx=>E Γ1 Cx) E
section
variable{X:Cx}{F0 H0:Hp}{e:Expr}{es:List Expr}{pos np cpos:Pos}{t:bA}{x fl:Str}{C f:Addr}{fd:FuncData}{ps:List Str}{k:Nat}{sp:cO}
structure Xk2 (P:Program) (w:World) (K:W.Frag) (mg:Str ->Option Value) (base:Heap) (x:Str) (C:Addr) (fl:Str) (k:Nat) (ps:List Str) (sp:cO):Prop where
 ex:∃f fd,eY P w K mg base (iw P w) k f fd ps (z2e K C fl sp)/\W.findIn K (.ref C) "__init__" =some (some (.ref f))/\W.isFn K (.ref f)=true/\SM K C/\mg x=some (.ref C)/\Binds K fd ps []
end
section
variable{X:Cx}{F0 H0:Hp}{tg iter elt:Expr}{ifs:List Expr}{pos:Pos}{sc:Scope}{own:List Str}{caps:List Nat}{N' :List Str}{ti:bA}{g:jT}{tc:TT2}{te:aK}
open Classical in
end
section
variable{K:W.Frag}{F H:Hp}
theorem K5:∀{ds:List D} {vs:List V},ak K F ds vs ->c7 K F H (ds.map .leaf) vs []
 | [],_,h=>by unfold ak at h;subst h;rw[List.map_nil];unfold c7;exact⟨rfl,rfl⟩
 | d::ds,_,h=>by
  unfold ak at h;obtain⟨v,us,rfl,h1,h2⟩:=h;rw[List.map_cons];unfold c7;exact⟨v,us,[],[],rfl,rfl,by unfold TR;exact⟨rfl,h1⟩,K5 h2⟩
theorem ZS:∀{ts us:List T} {vs ws:List V} {as bs:List Addr},c7 K F H ts vs as ->c7 K F H us ws bs ->c7 K F H (ts++us) (vs++ws) (as++bs)
 | [],us,vs,ws,as,bs,h1,h2=>by
  unfold c7 at h1;obtain⟨rfl,rfl⟩:=h1;exact h2
 | t::ts,us,vs,ws,as,bs,h1,h2=>by
  unfold c7 at h1;obtain⟨v,vs',a1,a2,rfl,rfl,q1,q2⟩:=h1;rw[List.cons_append];unfold c7;exact⟨v,vs' ++ws,a1,a2++bs,rfl,by rw[List.append_assoc],q1,ZS q2 h2⟩
theorem z3x(h:TR K F H t v as):c7 K F H [t] [v] as:=by
 unfold c7;refine⟨v,[],as,[],rfl,by simp,h,?_⟩
 unfold c7;exact⟨rfl,rfl⟩
theorem ZV:∀{ts:List T} {vs:List V} {as:List Addr} {j:Nat} {t:T},c7 K F H ts vs as ->ts[j]?=some t ->∃v b1 bs b2,vs[j]?=some v/\as=b1++ (bs++b2)/\TR K F H t v bs/\
  ∀{F' H' :Hp} {t' :T} {cs:List Addr},Same F F' ->(∀a∈b1++b2,∀u,H a=some u ->H' a=some u) ->TR K F' H' t' v cs ->c7 K F' H' (ts.set j t') vs (b1++ (cs++b2))
 | [],_,_,j,t,_,e=>by simp at e
 | t0::ts,_,_,0,t,h,e=>by
  cases e;unfold c7 at h;obtain⟨v,vs',a1,a2,rfl,rfl,q1,q2⟩:=h;refine⟨v,[],a1,a2,rfl,rfl,q1,fun{F' H' t' cs} f k r=> ?_⟩;rw[List.set_cons_zero];unfold c7;exact⟨v,vs',cs,a2,rfl,rfl,r,c7.move f ts vs' a2 (fun a ha=>k a ha) q2⟩
 | t0::ts,_,_,j+1,t,h,e=>by
  unfold c7 at h;obtain⟨v,vs',a1,a2,rfl,rfl,q1,q2⟩:=h;obtain⟨w,b1,bs,b2,g1,rfl,g3,g4⟩:=ZV q2 (by simpa using e)
  refine⟨w,a1++b1,bs,b2,by simpa using g1,by simp,g3,fun{F' H' t' cs} f k r=> ?_⟩
  rw[List.set_cons_succ];unfold c7;exact⟨v,vs',a1,b1++ (cs++b2),rfl,by simp,TR.move f t0 v a1 (fun a ha=>k a (by simp [ha])) q1,g4 f (fun a ha=>k a (by rcases zR.mp ha with z | z<;>simp [z])) r⟩
end
mutual
def Hg:T ->Prop
 | .leaf d=>vV d
 | .lst ts=>oX ts
 | .dic _ ts=>oX ts
 | .iC _ ts=>oX ts
 | .ob _ _ ts=>oX ts
 | .kt _=>True
def oX:List T ->Prop
 | []=>True
 | t::ts=>Hg t/\oX ts
end
section
variable{K:W.Frag}{F F' H:Hp}
end
abbrev jA:=G2 ->(T ->G2 ->Prop) ->XW ->Prop
section
variable(K:W.Frag)(F0 H0:Hp)
def upN(t:jA)(E:XW):TE:=fun σ H Q=>∃F Γ P,SR K F0 H0 F H σ Γ/\t Γ P E/\∀tr Γ' F' H' v as,SR K F0 H0 F' H' σ Γ' ->Same F F' ->as.Nodup ->(∀a∈as,F' a=none/\H0 a=none/\Apart σ Γ' a) ->TR K F' H' tr v as ->P tr Γ' ->Q v H'
end
def QN(X:Cx)(F0 H0:Hp)(e:Expr)(t:jA):Prop:=∀z E,Ctx (X.wsh z) F0 H0 E ->PE (X.wsh z) e (upN X.K F0 H0 t E)
def ZW(t:bA):jA:=fun Γ P E=>t Γ (fun ds Γ1=>P (.lst (ds.map .leaf)) Γ1) E
section
variable{X:Cx}{F0 H0:Hp}{e:Expr}{es:List Expr}{pos p:Pos}{te:aK}{tf:bA}{tn:jA}
theorem z6p(h:QF X F0 H0 e tf):QN X F0 H0 e (ZW tf):=fun z E cx=>
 jh (h z E cx) fun σ H Q hq1=>by obtain⟨F,Γ,P,R,h,k⟩:=hq1;exact⟨F,Γ,_,R,h,fun ds Γ1 F1 H1 a vs R1 s1 e1 e2 e3 r1 ap h1=>by
  refine k _ _ _ _ _ [a] R1 s1 (by simp) (fun b hb=>by rw[List.mem_singleton.mp hb];exact⟨e2,e3,ap⟩) ?_ h1
  unfold TR;exact⟨a,vs,[],rfl,rfl,e1,K5 r1⟩⟩
def Aw:jA:=fun Γ P _=>P (.dic [] []) Γ
theorem CZ:QN X F0 H0 (.Dict [] [] pos) Aw:=fun z E cx=>
 jh zz0 fun σ H Q hq2 q hq=>by
  obtain⟨F,Γ,P,R,h,k⟩:=hq2;have R2:SR X.K F0 H0 F (upd H q (.dK [])) σ Γ:=R.grow ⟨.refl _,fun b u e=>by rw[dH (mC (R.g b u e) hq)];exact R.g b u e,fun b u e=>by rw[dH (mC e hq)];exact e,fun b o e n=>by rw[e] at n;cases n⟩
  refine k _ _ _ _ _ [q] R2 (.refl _) (by simp) (fun b hb=>by rw[List.mem_singleton.mp hb];exact⟨R.g.free hq,R.gr.h.free hq,R.apart hq⟩) ?_ h
  unfold TR;exact⟨q,[],[],rfl,rfl,mQ,rfl,by unfold c7;exact⟨rfl,rfl⟩⟩
def ZX(t:jA):jA:=fun Γ P _=>t (jF Γ) (fun tr _=>Hg tr/\P tr Γ) lF
open Classical in
def mW(i:Nat)(t:jA):au:=fun D Γ E=>t Γ (fun tr Γ1=>∀as,D.nx (Γ1.set i (.tr as tr))) E
theorem Hh(hN:X.N.Nodup)(hi:X.N[i]?=some x)(hx:Loc X.env.scope x)(he:QN X F0 H0 e tn)(hs:swapsWith e (some (.Name x pos')) pos.line X.env=pure false:=by rfl)
  (hf:X.fn x=true\/X.env.scope.names.lookup x=some .local:=by first | exact .inl rfl | exact .inr rfl):QS X F0 H0 (.Assign [.Name x pos'] e pos) (mW i tn):=fun z E cx=>
 n6 (NP (X:=X.wsh z) (i:=i) hN hi hx (he z E cx) hs hf) fun D σ H rD=>by obtain⟨F,Γ,D2,R,h,k⟩:=rD;exact⟨F,Γ,_,R,h,fun t Γ1 F1 H1 v as R1 s1 nd hn r1 h1=>
  k.nx _ _ _ _ (R1.put i (s:= .tr as t) ⟨v,rfl,nd,fun b hb=>⟨(hn b hb).1,(hn b hb).2.1⟩,r1⟩ fun a ha=>(hn a ha).2.2) s1 (h1 as)⟩
def qO(t:jA):au:=fun D Γ E=>t Γ (fun tr _=>D.rT tr) E
theorem SN(he:QN X F0 H0 e tn):QS X F0 H0 (.Return (some e) pos) (qO tn):=fun z E cx=>
 n6 (WK (he z E cx)) fun D σ H oK=>by obtain⟨F,Γ,D2,R,h,k⟩:=oK;exact⟨F,Γ,_,R,h,fun t Γ1 F1 H1 v as R1 s1 nd hn r1 h1=>k.rT _ _ _ _ _ R1.gr nd (fun a ha=>⟨(hn a ha).1,(hn a ha).2.1⟩) r1 h1⟩
def nV(i:Nat):jA:=fun Γ P _=>match Γ[i]? with
 | some (.tr _ t)=>P t (Γ.set i .no)
 | _=>False
theorem Z0(hN:X.N[i]?=some x)(hv:pN X.env.scope x)(hd:(x==("__debug__" :Str))=false:=by decide)(hcd:(x==("__classdict__" :Str))=false:=by decide):QN X F0 H0 (.Name x pos) (nV i):=fun z E cx=>
 jh (sH (X:=X.wsh z) (i:=i) hN hv hd hcd) fun σ H Q uX=>by
  obtain⟨F,Γ,P,R,h,k⟩:=uX;unfold nV at h;split at h
  ·rename_i as t e;obtain⟨o,e0,v,rfl,nd,hn,r⟩:=R.sl i _ e;exact⟨v,e0,k t _ F H v as (R.dropAt e0) (.refl _) nd (fun a ha=>⟨(hn a ha).1,(hn a ha).2,R.less e e0 (show eZ (Slot.tr as t) (some v) a from ha)⟩) r h⟩
  ·exact h.elim
end
section
variable{prog:Program}{w:World}{κ:Type}[DecidableEq κ]{knd:KeyKind prog w κ}{A:Around}{E:bL}{s:Shared}{d:Addr}{ep:Nat}{kvs:List (κ×Value)}
end
section
variable{prog:Program}{w:World}{A:Around}{E:bL}{s:Shared}{d:Addr}{ep:Nat}{kvs:List (Key×Value)}
end
def Z1(X:Cx):List V ->Hp ->VK ->Prop:=fun vs H Q=>∃(q:Addr) (kvs:List (Key×V)) (ns:List Int),vs= [.ref q]/\H q=some (.dK kvs)/\kvs.map (·.1)=ns.map .inl/\ns.length<64/\
 ∀(l:Addr) (ms:List Int),H l=none ->ms.Perm ns ->ms.Pairwise (· <= ·) ->Q (.ref l) (upd H l (.lst (ms.map .int)))
def Z2(i:Nat):bA:=fun Γ P _=>match Γ[i]? with
 | some (.tr _ (.dic ks _))=>∃ns:List Int,ks=ns.map .inl/\ns.length<64/\∀ms:List Int,ms.Perm ns ->ms.Pairwise (· <= ·) ->P (ms.map .int) Γ
 | _=>False
section
variable{X:Cx}{F0 H0:Hp}{pos p px:Pos}{x:Str}{i:Nat}
theorem SQ:∀{ks:List Key} {vs:List V},ks.length=vs.length ->(ks.zip vs).map (·.1)=ks
 | [],[],_=>rfl
 | [],_::_,h=>by cases h
 | _::_,[],h=>by cases h
 | k::ks,v::vs,h=>by rw[List.zip_cons_cons,List.map_cons,SQ (by simpa using h)]
end
section
variable{K:W.Frag}{F0 H0 F H F' H' :Hp}{σ:St}{Γ:List Slot}
theorem zs2(e1:σ[i]?=some o)(h:Apart σ Γ a):Apart σ (Γ.set i .no) a:=fun j q=>by
 have q' :jg (Γ.set i .no) (σ.set i o) j a:=by rw[yP e1];exact q
 rcases FQ q' with ⟨_,z⟩ | ⟨_,z⟩
 ·exact z
 ·exact h j z
theorem SR.wrT(R:SR K F0 H0 F H σ Γ)(e:Γ[i]?=some s)(e1:σ[i]?=some o)(h:eZ s o a)(r:jf K F (L2.upd H a u) H0 t o)(ht:∀b,eZ t o b ->eZ s o b\/Apart σ Γ b):
  SR K F0 H0 F (L2.upd H a u) σ (Γ.set i t):=by
 have R1:=R.wrO (t:= .no) (u:=u) e e1 h trivial fun _ z=>z.elim;have R2:=R1.put i r fun b hb=>by
  rcases ht b hb with z | z
  ·rw[show(Γ.set i Slot.no)=Γ.set i .no from rfl];exact R.less e e1 z
  ·exact zs2 e1 z
 rw[yP e1,List.set_set] at R2;exact R2
end
abbrev qP:=List D ->(T ->Prop) ->(Value ->Prop) ->Prop
def oY(K:W.Frag)(sp:qP):Sp:=fun vs H Q E=>∃F ds P Ex,Same F H/\ak K F ds vs/\sp ds P Ex/\ (∀t v as F' H',Gr F H F' H' ->as.Nodup ->(∀a∈as,F' a=none/\H a=none) ->TR K F' H' t v as ->P t ->Q v H')/\∀C H',Ex C ->Same H H' ->E C none H'
def vX(sp:qP):cO:=fun ds P E=>sp ds (fun t=>P (toD t)) E
open Classical in
theorem zzz{K:W.Frag}{sp:qP}{vs:List V}{H:Hp}{Q:VK}{E:XK}(h:j9 K (vX sp) vs H Q E):oY K sp vs H Q E:=by
 obtain⟨F,ds,P,Ex,h1,h2,h3,h4,h5⟩:=h;refine⟨F,ds,fun t=>P (toD t),Ex,h1,h2,h3,fun t v as F' H' g nd hn r p=> ?_,h5⟩;have s1:Same F' (fun b=>if b∈as then H' b else F' b):=fun b u e=>by
  show(if b∈as then H' b else F' b)=some u;rw[if_neg fun hb=>by rw[(hn b hb).1] at e;cases e]
  exact e
 refine h4 (toD t) v (fun b=>if b∈as then H' b else F' b) H' ⟨g.f.trans s1,fun b u e=> ?_,g.h,fun b o e n=> ?_⟩ (TR.rep s1 t v as (fun a ha u hu=> ?_) r) p
 ·have e' :(if b∈as then H' b else F' b)=some u:=e;split at e'
  ·exact e'
  ·exact g.g b u e'
 ·have e' :(if b∈as then H' b else F' b)=some o:=e;split at e'
  ·rename_i hb;exact .inl (hn b hb).2
  ·exact g.n b o e' n
 ·show(if a∈as then H' a else F' a)=some u;rw[if_pos ha];exact hu
structure nG (P:Program) (w:World) (K:W.Frag) (mg:Str ->Option Value) (base:Heap) (x:Str) (k:Nat) (ps:List Str) (sp:qP):Prop where
 ex:∃f fd,eY P w K mg base (iw P w) k f fd ps (oY K sp)/\mg x=some (.ref f)/\W.keepIn K (.ref f)=true/\Binds K fd ps []
theorem nG.fn{P:Program}{w:World}{K:W.Frag}{mg:Str ->Option Value}{base:Heap}{x:Str}{k:Nat}{ps:List Str}{sp:qP}(G:nG P w K mg base x k ps sp):cR P w K mg base x k ps (vX sp):=by
 obtain⟨f,fd,h1,h2⟩:=G.ex;exact⟨f,fd,h1.imp fun _ _ _ _ q=>zzz q,h2⟩
section
variable{P:Program}{w:World}{K:W.Frag}{mg:Str ->Option Value}{base:Heap}
theorem Ax{x qual:Str}{st:Stmt}{f:Addr}{fd:FuncData}{N ps:List Str}{k:Nat}{sp:qP}(Fn:fP K x qual st f fd)(S:aD N ps (bV st))(len:∀ds Q E,sp ds Q E ->ds.length=ps.length)
  (hbody:∀(cdv:Value) (A:Around) (outer:List Env) (s:Shared) (H:Hp) (E:XK),fB k (A.deeper (envOfC qual (bV st) s.heap.objs.size f cdv)) ->∀F0:Hp,
   ∃t,qK (j7 (iw P w) P w K mg base N qual (bV st) f cdv A outer s H E) F0 H (sX st) t/\∀ds Q Ex,sp ds Q Ex ->t {nx:=fun _=>False,rt:=fun _=>False,rT:=Q} (gH N ds) fun _=>Ex):
  eY P w K mg base (iw P w) (k+1) f fd ps (oY K sp):=by
 obtain⟨oc,od,kV,doc,pm,an,cdv,ct,osl,rfl,lk,hcd⟩:=Fn.ex;refine Xg lk hcd S (fun vs H Q E ⟨F,ds,P',Ex,_,rs,hs,_⟩=>by rw[<- iu rs];exact len _ _ _ hs) fun A outer s H vs Q E hr ⟨F0,ds,Pd,Ex,sF,rs,hsp,hQ,hE⟩=> ?_
 obtain⟨t,ht,hq⟩:=hbody cdv A outer s H E hr F0;have cx:Ctx ((j7 (iw P w) P w K mg base N qual (bV st) f cdv A outer s H E).wsh ⟨(j7 (iw P w) P w K mg base N qual (bV st) f cdv A outer s H E).xe,[]⟩) F0 H (fun _=>Ex):=by
  refine⟨fun pins σ Γ F H1 s1 e s' I R hx=> ?_,PassesOwn.leaving⟩;refine bG (X5 (E:=fun C dx H' =>E C dx H') I rfl rfl rfl (hx.imp fun C dx H' z=> ?_)) fun _ s'' z=>z;obtain⟨Γ',F',R',_,z1,rfl⟩:=z;exact hE C H' z1 R'.gr.h
 exact⟨_,ht _ _ cx,F0,gH N ds,{nx:=fun _=>False,rt:=fun _=>False,rT:=Pd},Yk sF rs,hq ds Pd Ex hsp,⟨fun _ _ _ _ _ _ q=>q.elim,fun _ _ _ _ _ _ q=>q,fun _ _ _ _ _ _ q=>q,fun _ _ _ _ _ _ q=>q.elim,fun _ _ _ _ _ _ q=>q.elim,fun t v as F' H' gr nd hn r q=>hQ t v as F' H' gr nd hn r q,fun _ _ _ _ _ _ _ _ q=>q.elim⟩⟩
end
def qb(sp:qP)(t:bA):jA:=fun Γ P E=>t Γ (fun ds Γ1=>sp ds (fun tr=>P tr Γ1) fun C=>E Γ1 C) E
section
variable{X:Cx}{F0 H0:Hp}{e:Expr}{es:List Expr}{pos p:Pos}{x:Str}{ps:List Str}{k:Nat}{sp:qP}{t:bA}
theorem Z4(G:nG X.prog X.w X.K X.mg X.base x k ps sp)(hr:fB k X.A)(hg:Gl X x)(ha:QA X F0 H0 (e::es) t)(hdb:(x==("__debug__" :Str))=false:=by decide)(he:starEach (e::es) X.env=(false,eval e X.env)::starEach es X.env:=by rfl)(hpl:(backTo pos (starEach es X.env)).any (·.1)=false:=by rfl):
  QN X F0 H0 (.Call (.Name x p) (e::es) [] pos) (qb sp t):=by
 obtain⟨f,fd,Fn,hm,hk,hb⟩:=G.ex;rintro z E cx pins s σ H Q I ⟨F,Γ,P,R,h,kk⟩;refine wpAny_Call_Name_kw (Nj (X:=X.wsh z) I hg hm ?_ hdb);refine W.callWith_K (h₀:=X.base) I.ok.mod.Ec hk (bG (ha z E cx pos pins s σ H (fun vs H1=>∃F1 Γ1 ds,SR X.K F0 H0 F1 H1 σ Γ1/\Same F F1/\ak X.K F1 ds vs/\sp ds (fun d=>P d Γ1) fun C=>E Γ1 C) I ⟨F,Γ,_,R,h,fun ds Γ1 F1 H1 vs R1 s1 r1 h1=>⟨F1,Γ1,ds,R1,s1,r1,h1⟩⟩) fun us s1 ⟨vs,H1,I1,r,F1,Γ1,ds,R1,sF,rs,q⟩=>⟨I1.kIn,?_⟩) he hpl;have hs:oY X.K sp vs H1 Q (fun C dx H' =>E Γ1 C/\dx=none/\Same H1 H'):=⟨F1,ds,_,_,R1.g,rs,q,fun t v as F' H' gr nd hn rt hp=>kk t Γ1 F' H' v as (R1.grow gr) (sF.trans gr.f) nd (fun a ha=>⟨(hn a ha).1,R1.gr.h.free (hn a ha).2,R1.apart (hn a ha).2⟩) rt hp,fun C H' hE hS=>⟨hE,rfl,hS⟩⟩;have hl:(us++ []).length=ps.length:=by rw[List.append_nil,<- r.length];exact Fn.len _ _ _ _ hs
 have hbs:=hb s1 us I1.kIn hl;rw[List.append_nil] at hbs;refine wpAny_call (codeAny_mono (Fn.run X.A X.stack s1 H1 ⟨us,[]⟩ us vs Q _ hr I1.env0 hbs r hs) fun r s' hq=> ?_);cases r with
 | error e=>exact cx.px pins σ Γ1 F1 H1 s1 e s' I1 R1 hq
 | ok fl=>
  cases fl with
  | ret u=>exact I1.after hq
  | next=>exact False.elim hq
  | brk=>exact False.elim hq
  | cont=>exact False.elim hq
end
def abg(i:Nat)(t:TE):TS:=fun D σ H=>∃a vs,σ[i]?=some (some (.ref a))/\H a=some (.lst vs)/\t σ H fun v H1=>∃l us y,V.ref a= .ref l/\ [v]= [y]/\H1 l=some (.lst us)/\us.length<sizeLine/\D.nx σ (upd H1 l (.lst (us++ [y])))
section
variable{X:Cx}{F0 H0:Hp}{e:Expr}{pos npos apos cpos:Pos}{x:Str}{i:Nat}{t:TE}{te:aK}{tn:jA}
def cTA(i:Nat)(te:aK):au:=fun D Γ E=>(∃as ts,Γ[i]?=some (.tr as (.lst ts)))/\te Γ (fun d Γ1=>match Γ1[i]? with | some (.tr as (.lst ts))=>ts.length<sizeLine/\D.nx (Γ1.set i (.tr as (.lst (ts++ [.leaf d])))) | _=>False) E
def cTN(i:Nat)(tn:jA):au:=fun D Γ E=>(∃as ts,Γ[i]?=some (.tr as (.lst ts)))/\tn Γ (fun t Γ1=>match Γ1[i]? with | some (.tr as (.lst ts))=>ts.length<sizeLine/\∀cs,D.nx (Γ1.set i (.tr (as++cs) (.lst (ts++ [t])))) | _=>False) E
end
end L3
namespace L3
open PySem PySem.Spec PyProof.Rows L2
def jk(ks:List Key)(k:Key):Bool:=ks.any fun k' =>decide (k' =k)
theorem lJ:jk ks k=true↔k∈ks:=by
 unfold jk;rw[List.any_eq_true];exact⟨fun⟨x,h,e⟩=>of_decide_eq_true e ▸ h,fun h=>⟨k,h,decide_eq_true rfl⟩⟩
def eE(ks:List Key)(k:Key):List Key:=if jk ks k=true then ks else ks++ [k]
def cA{α:Type}(ks:List Key)(xs:List α)(k:Key)(x:α):List α:=if jk ks k=true then List.zipWith (fun k' y=>if k' =k then x else y) ks xs else xs++ [x]
theorem Z5:∀{ks:List Key} {vs:List V},ks.length=vs.length ->(ks.zip vs).map (fun kv=>if kv.1=k then(kv.1,v) else kv)=ks.zip (List.zipWith (fun k' y=>if k' =k then v else y) ks vs)
 | [],_,_=>rfl
 | _::_,[],h=>by cases h
 | k' ::ks,w::vs,h=>by
  rw[List.zip_cons_cons,List.map_cons,List.zipWith_cons_cons,List.zip_cons_cons,Z5 (by simpa using h)]
  by_cases q:k' =k<;>simp [q]
theorem SX(h:ks.length=vs.length):putK (ks.zip vs) k v=(eE ks k).zip (cA ks vs k v):=by
 unfold putK eE cA;have e:((ks.zip vs).any fun kv=>decide (kv.1=k))=true↔jk ks k=true:=by
  rw[lJ,List.any_eq_true];constructor
  ·rintro⟨kv,hm,q⟩;have:=List.mem_map_of_mem (f:=(·.1)) hm;rw[SQ h] at this;rw[<- of_decide_eq_true q];exact this
  ·intro hm;rw[<- SQ h] at hm;obtain⟨kv,h1,h2⟩:=zE.mp hm;exact⟨kv,h1,decide_eq_true h2⟩
 by_cases q:jk ks k=true
 ·rw[if_pos (e.mpr q),if_pos q,if_pos q];exact Z5 h
 ·rw[if_neg (fun z=>q (e.mp z)),if_neg q,if_neg q,List.zip_append h]
  rfl
theorem Z6(h:ks.length=xs.length):(eE ks k).length=(cA ks xs k x).length:=by
 unfold eE cA;split
 ·rw[List.length_zipWith,<- h,Nat.min_self]
 ·simp [h]
theorem Z7{K:W.Frag}{F:Hp}{k:Key}{d:D}{v:V}(r:Rep K F d v):∀{ks:List Key} {xs:List D} {vs:List V},ak K F xs vs ->ak K F (List.zipWith (fun k' y=>if k' =k then d else y) ks xs) (List.zipWith (fun k' y=>if k' =k then v else y) ks vs)
 | [],xs,vs,h=>by simp [ak]
 | _::_,[],vs,h=>by unfold ak at h;subst h;simp [ak]
 | k' ::ks,x::xs,vs,h=>by
  unfold ak at h;obtain⟨u,us,rfl,h1,h2⟩:=h;rw[List.zipWith_cons_cons,List.zipWith_cons_cons];refine pW ?_ (Z7 r h2);by_cases q:k' =k
  ·rw[if_pos q,if_pos q];exact r
  ·rw[if_neg q,if_neg q];exact h1
theorem Z8{K:W.Frag}{F:Hp}{ks:List Key}{xs:List D}{vs:List V}{k:Key}{d:D}{v:V}(h:ak K F xs vs)(r:Rep K F d v):ak K F (cA ks xs k d) (cA ks vs k v):=by
 unfold cA;split
 ·exact Z7 r h
 ·exact yO h (FN r)
theorem S5{K:W.Frag}{F H:Hp}:∀{xs:List D} {vs:List V} {as:List Addr},c7 K F H (xs.map .leaf) vs as ->as= []/\ak K F xs vs
 | [],vs,as,h=>by rw[List.map_nil] at h;unfold c7 at h;unfold ak;exact⟨h.2,h.1⟩
 | x::xs,vs,as,h=>by
  rw[List.map_cons] at h;unfold c7 at h;obtain⟨v,us,bs,cs,rfl,rfl,h1,h2⟩:=h;unfold TR at h1;obtain⟨rfl,r⟩:=h1;obtain⟨rfl,rs⟩:=S5 h2;exact⟨rfl,pW r rs⟩
def cDP(i:Nat)(tk tv:aK):au:=fun D Γ E=>tv Γ (fun d Γ1=>(∃as t,Γ1[i]?=some (.tr as t))/\tk Γ1 (fun kd Γ2=>match kd,Γ2[i]? with
 | .int k,some (.tr as (.dic ks ts))=>∃xs,ts=xs.map .leaf/\ks.length<sizeLine/\D.nx (Γ2.set i (.tr as (.dic (eE ks (.inl k)) ((cA ks xs (.inl k) d).map .leaf))))
 | _,_=>False) E) E
section
variable{X:Cx}{F0 H0:Hp}{ke value:Expr}{pos npos pos' :Pos}{x:Str}{i:Nat}{tk tv:aK}
end
section
variable{K:W.Frag}{F0 H0 F H F' H' :Hp}{σ σ' :St}{Γ Γ' :List Slot}
open Classical in
noncomputable def abh (Γ:List Slot) (σ:St) (H:Hp):Hp:=fun b=>if nD Γ σ b then none else H b
end
def Hi(i x:Nat)(a b:Addr)(Dc:List T)(j:Nat)(I:Nat ->G2 ->Prop):G2 ->Prop:=fun Γ' =>∃cs' us',Γ'[x]?=some (Slot.tr (b::cs') (.lst us'))/\Γ'[i]?=some (Slot.pu (.ptr a))/\
 ∀q:List Addr,I (j+1) ((Γ'.set x Slot.no).set i (Slot.tr (a::q) (.lst (Dc.set j (.lst us')))))
def Z9(i x:Nat)(tb:au):au:=fun D0 Γ _=>∃as ts,Γ[i]?=some (Slot.tr as (.lst ts))/\∀a bs,as=a::bs ->∃I:Nat ->G2 ->Prop,I 0 Γ/\
 (∀(j:Nat) Γ1,j<ts.length ->I j Γ1 ->∃bs1 Dc us,Γ1[i]?=some (Slot.tr (a::bs1) (.lst Dc))/\Dc.length=ts.length/\Dc[j]?=some (.lst us)/\
  ∀(b:Addr) (cs:List Addr),tb {nx:=Hi i x a b Dc j I,ct:=fun _=>False,bk:=fun _=>False,rt:=D0.rt,rf:=D0.rf,rT:=D0.rT} ((Γ1.set i (Slot.pu (.ptr a))).set x (Slot.tr (b::cs) (.lst us))) lF)/\
 ∀Γ1,I ts.length Γ1 ->D0.nx Γ1
section
variable{X:Cx}{F0 H0:Hp}{pos px pn:Pos}{xv xn:Str}{i x:Nat}{body:List Stmt}{tb:au}
open Classical in
end
def nL1(t:jA):jA:=fun Γ P E=>t Γ (fun tr Γ1=>P (.lst [tr]) Γ1) E
section
variable{X:Cx}{F0 H0:Hp}{e:Expr}{pos:Pos}{tn:jA}
end
end L3
namespace L3
open PySem PySem.Spec PyProof.Rows L2 PySem.W
structure Ord (lt:Nat ->Nat ->Bool) (n:Nat):Prop where
 tri:∀i j,i<n ->j<n ->i≠j ->lt i j=false ->lt j i=true
 S6:∀i j,i<n ->j<n ->lt i j=true ->lt j i=false
 tr:∀i j k,i<n ->j<n ->k<n ->lt i j=true ->lt j k=true ->lt i k=true
def Sat{α:Type}(lt:Nat ->Nat ->Bool)(n:Nat)(t:KasT α)(Q:α ->Prop):Prop:=Aq lt n t=true/\Q (CV lt t)
section
variable{lt:Nat ->Nat ->Bool}{n:Nat}{α β:Type}
theorem uc(h:Q a):Sat lt n (.ret a) Q:=⟨rfl,h⟩
theorem Dd(hi:i<n)(hj:j<n)(hij:i≠j)(h:Sat lt n (k (lt i j)) Q):Sat lt n (.ask i j k) Q:=by
 refine⟨?_,h.2⟩;unfold Aq;simp only [Bool.and_eq_true,decide_eq_true_eq];exact⟨hi,hj,hij,h.1⟩
theorem Df:∀{t:KasT α},Sat lt n t (fun a=>Sat lt n (f a) Q) ->Sat lt n (t.bind f) Q
 | .ret a,h=>h.2
 | .ask i j k,h=>by
  have h1:=h.1;unfold Aq at h1;simp only [Bool.and_eq_true,decide_eq_true_eq] at h1;exact Dd h1.1 h1.2.1 h1.2.2.1 (Df ⟨h1.2.2.2,h.2⟩)
theorem Sat.imp(h:Sat lt n t Q)(k:∀a,Q a ->Q' a):Sat lt n t Q' :=⟨h.1,k _ h.2⟩
def Pm(n:Nat)(p:Array Nat):Prop:=p.toList.Perm (List.range n)
theorem Pm.size(h:Pm n p):p.size=n:=by simpa using List.Perm.length_eq h
theorem Hj{p:Array Nat}{k:Nat}(hk:k<p.size):p.getD k 0=p.toList[k]'(by simpa using hk):=by simp [Array.getD,hk]
theorem Pm.below{p:Array Nat}(h:Pm n p){k:Nat}(hk:k<n):p.getD k 0<n:=by
 have hk' :k<p.size:=by rw[h.size];exact hk
 rw[Hj hk'];exact List.mem_range.mp (h.mem_iff.mp (yX _))
theorem Pm.ne{p:Array Nat}(h:Pm n p){k j:Nat}(hk:k<n)(hj:j<n)(hkj:k≠j):p.getD k 0≠p.getD j 0:=by
 have nd:p.toList.Nodup:=h.nodup_iff.mpr List.nodup_range;rw[Hj (by rw[h.size];exact hk),Hj (by rw[h.size];exact hj)]
 have key:=List.pairwise_iff_getElem.mp nd;rcases Nat.lt_or_gt_of_ne hkj with q | q
 ·exact key k j _ _ q
 ·exact fun z=>key j k _ _ q z.symm
def Lp(lt:Nat ->Nat ->Bool)(p:Array Nat)(i j:Nat):Bool:=lt (p.getD i 0) (p.getD j 0)
def Up(lt:Nat ->Nat ->Bool)(p:Array Nat)(r:Nat):Prop:=∀i j,i<j ->j<r ->Lp lt p i j=true
def Dn(lt:Nat ->Nat ->Bool)(p:Array Nat)(r:Nat):Prop:=∀i j,i<j ->j<r ->Lp lt p j i=true
theorem S7(O:Ord lt n)(P:Pm n p)(hi:i<n)(hj:j<n)(hij:i≠j)(h:Lp lt p i j=false):Lp lt p j i=true:=O.tri _ _ (P.below hi) (P.below hj) (P.ne hi hj hij) h
theorem K6(O:Ord lt n)(P:Pm n p)(hi:i<n)(hj:j<n)(hk:k<n)(h:Lp lt p i j=true)(h' :Lp lt p j k=true):Lp lt p i k=true:=O.tr _ _ _ (P.below hi) (P.below hj) (P.below hk) h h'
theorem z2q(O:Ord lt n)(P:Pm n p)(hr:r<n)(h1:1<=r)(U:Up lt p r)(h:Lp lt p (r - 1) r=true):Up lt p (r+1):=fun i j hij hj=>by
 rcases Nat.lt_or_ge j r with q | q
 ·exact U i j hij q
 ·obtain rfl:j=r:=by omega
  rcases Nat.lt_or_ge i (j - 1) with q' | q'
  ·exact K6 O P (by omega) (by omega) hr (U i (j - 1) q' (by omega)) h
  ·obtain rfl:i=j - 1:=by omega
   exact h
theorem z2o(O:Ord lt n)(P:Pm n p)(hr:r<n)(h1:1<=r)(U:Dn lt p r)(h:Lp lt p r (r - 1)=true):Dn lt p (r+1):=fun i j hij hj=>by
 rcases Nat.lt_or_ge j r with q | q
 ·exact U i j hij q
 ·obtain rfl:j=r:=by omega
  rcases Nat.lt_or_ge i (j - 1) with q' | q'
  ·exact K6 O P hr (by omega) (by omega) h (U i (j - 1) q' (by omega))
  ·obtain rfl:i=j - 1:=by omega
   exact h
theorem S8(O:Ord lt n)(P:Pm n p):∀(f m:Nat),1<=m ->m+f<=n ->Up lt p m ->Sat lt n (kas_asc p f m) fun r=>m<=r/\r<=m+f/\Up lt p r/\ (r<m+f ->Lp lt p r (r - 1)=true)
 | 0,m,h1,_,U=>uc ⟨zM _,zM _,U,fun z=>absurd z (yV _)⟩
 | f+1,m,h1,hn,U=>by
  unfold kas_asc;refine Dd (P.below (by omega)) (P.below (by omega)) (P.ne (by omega) (by omega) (by omega)) ?_
  cases q:lt (p.getD m 0) (p.getD (m - 1) 0) with
  | true=>
   rw[if_pos rfl];exact uc ⟨zM _,by omega,U,fun _=>q⟩
  | false=>
   rw[if_neg (by decide)]
   refine(S8 O P f (m+1) (by omega) (by omega) (z2q O P (by omega) h1 U (S7 O P (by omega) (by omega) (by omega) q))).imp fun r ⟨a1,a2,a3,a4⟩=>⟨by omega,by omega,a3,fun z=>a4 (by omega)⟩
theorem z1a(O:Ord lt n)(P:Pm n p):∀(f m:Nat),1<=m ->m+f<=n ->Dn lt p m ->Sat lt n (kas_desc f p m 0) fun r=>r.1=p/\m<=r.2.1/\r.2.1<=m+f/\r.2.2=0/\Dn lt p r.2.1
 | 0,m,h1,_,U=>uc ⟨rfl,zM _,zM _,rfl,U⟩
 | f+1,m,h1,hn,U=>by
  unfold kas_desc;refine Dd (P.below (by omega)) (P.below (by omega)) (P.ne (by omega) (by omega) (by omega)) ?_
  cases q:lt (p.getD m 0) (p.getD (m - 1) 0) with
  | true=>
   rw[if_pos rfl,if_neg (by decide)]
   exact(z1a O P f (m+1) (by omega) (by omega) (z2o O P (by omega) h1 U q)).imp fun r hq1=>by obtain⟨a1,a2,a3,a4,a5⟩:=hq1;exact⟨a1,by omega,by omega,a4,a5⟩
  | false=>
   rw[if_neg (by decide)]
   refine Dd (P.below (by omega)) (P.below (by omega)) (P.ne (by omega) (by omega) (by omega)) ?_
   have q' :lt (p.getD (m - 1) 0) (p.getD m 0)=true:=S7 O P (i:=m) (j:=m - 1) (by omega) (by omega) (by omega) q
   rw[q',if_pos rfl];exact uc ⟨rfl,zM _,by show m<=_;omega,rfl,U⟩
theorem z1e(P:Pm n p)(i j:Nat):Pm n (kas_rev p i j):=(Array.perm_iff_toList_perm.mp (mirror_perm p i j ((j - i)/2))).trans P
theorem getD_get?{p q:Array Nat}{i j:Nat}(h:p[i]?=q[j]?):p.getD i 0=q.getD j 0:=by
 rw[Array.getD_eq_getD_getElem?,Array.getD_eq_getD_getElem?,h]
theorem z0k{p:Array Nat}{m k:Nat}(hm:m<=p.size)(hk:k<m):(kas_rev p 0 m).getD k 0=p.getD (m - 1 - k) 0:=by
 have e:=getElem?_mirror_all (i:=0) hm k;rw[if_pos ⟨Nat.zero_le _,hk⟩] at e;have:=getD_get? e;rw[show 0+m - 1 - k=m - 1 - k by omega] at this
 exact this
theorem z14(O:Ord lt n)(P:Pm n p)(h1:1<=m)(hm:m<=n)(D:Dn lt p m):Sat lt n (kas_tail3 m n p) fun r=>Pm n r.2/\1<=r.1/\r.1<=n/\Up lt r.2 r.1:=by
 unfold kas_tail3;have U:Up lt (kas_rev p 0 m) m:=fun i j hij hj=>by
  unfold Lp;rw[z0k (by rw[P.size];exact hm) (by omega),z0k (by rw[P.size];exact hm) hj]
  exact D (m - 1 - j) (m - 1 - i) (by omega) (by omega)
 exact Df ((S8 O (z1e P 0 m) (n - m) m h1 (by omega) U).imp fun r ⟨a1,a2,a3,_⟩=>uc ⟨z1e P 0 m,by show 1<=r;omega,by show r<=n;omega,a3⟩)
theorem z3f(O:Ord lt n)(P:Pm n p)(h1:1<=n):Sat lt n (kas_count n p) fun r=>Pm n r.2/\1<=r.1/\r.1<=n/\Up lt r.2 r.1:=by
 unfold kas_count;refine Df ((S8 O P (n - 1) 1 (zM _) (by omega) (fun i j a b=>by omega)).imp fun r ⟨a1,a2,a3,a4⟩=> ?_)
 by_cases e:r=n
 ·rw[if_pos (by simp [e])]
  exact uc ⟨P,a1,by show r<=n;omega,a3⟩
 ·rw[if_neg (by simp [e])]
  by_cases g:r>1
  ·rw[if_pos g];refine Dd (P.below (by omega)) (P.below (by omega)) (P.ne (by omega) (by omega) (by omega)) ?_
   have q:lt (p.getD 0 0) (p.getD (r - 1) 0)=true:=a3 0 (r - 1) (by omega) (by omega)
   rw[q,if_pos rfl];exact uc ⟨P,a1,by show r<=n;omega,a3⟩
  ·rw[if_neg g];obtain rfl:r=1:=by omega
   unfold kas_descPart;have q:=a4 (by omega)
   have D:Dn lt p 2:=fun i j hij hj=>by
    obtain rfl:i=0:=by omega
    obtain rfl:j=1:=by omega
    exact q
   refine Df ((z1a O P (n - (1+1)) (1+1) (by omega) (by omega) D).imp fun r hq2=> ?_)
   obtain⟨b1,b2,b3,b4,b5⟩:=hq2;rw[if_neg (by omega),b1]
   exact z14 O P (by omega) (by omega) b5
theorem S9(O:Ord lt n)(P:Pm n p)(hk:k<n)(U:Up lt p k):∀(f l r:Nat),l<=r ->r<=k ->r - l<=f ->(∀j,j<l ->Lp lt p j k=true) ->(∀j,r<=j ->j<k ->Lp lt p k j=true) ->
  Sat lt n (kas_place p k f l r) fun x=>x<=k/\ (∀j,j<x ->Lp lt p j k=true)/\∀j,x<=j ->j<k ->Lp lt p k j=true
 | 0,l,r,h1,h2,h3,h4,h5=>uc ⟨by omega,h4,fun j a b=>h5 j (by omega) b⟩
 | f+1,l,r,h1,h2,h3,h4,h5=>by
  unfold kas_place;by_cases g:l≥r
  ·rw[if_pos g];exact uc ⟨by omega,h4,fun j a b=>h5 j (by omega) b⟩
  ·rw[if_neg g];have m1:l<=(l+r)/2:=by omega
   have m2:(l+r)/2<r:=by omega
   refine Dd (P.below hk) (P.below (by omega)) (P.ne hk (by omega) (by omega)) ?_
   cases q:lt (p.getD k 0) (p.getD ((l+r)/2) 0) with
   | true=>
    rw[if_pos rfl];refine S9 O P hk U f l _ m1 (by omega) (by omega) h4 fun j a b=> ?_
    rcases Nat.lt_or_ge ((l+r)/2) j with z | z
    ·exact K6 O P hk (by omega) (by omega) q (U _ j z b)
    ·obtain rfl:j=(l+r)/2:=by omega
     exact q
   | false=>
    rw[if_neg (by decide)]
    have q' :Lp lt p ((l+r)/2) k=true:=S7 O P hk (by omega) (by omega) q
    refine S9 O P hk U f _ r (by omega) h2 (by omega) (fun j a=> ?_) h5
    rcases Nat.lt_or_ge j ((l+r)/2) with z | z
    ·exact K6 O P (by omega) (by omega) hk (U j _ z (by omega)) q'
    ·obtain rfl:j=(l+r)/2:=by omega
     exact q'
theorem z4e(P:Pm n p)(k d:Nat):Pm n (bubble p k d):=(Array.perm_iff_toList_perm.mp (bubble_perm p k d)).trans P
theorem z6a(O:Ord lt n):∀(f:Nat) (p:Array Nat) (k:Nat),Pm n p ->k+f=n ->Up lt p k ->Sat lt n (kas_bin f p k) fun q=>Pm n q/\Up lt q n
 | 0,p,k,P,h,U=>by
  obtain rfl:k=n:=by omega
  exact uc ⟨P,U⟩
 | f+1,p,k,P,h,U=>by
  unfold kas_bin;have hk:k<n:=by omega
  refine Df ((S9 O P hk U k 0 k (Nat.zero_le _) (zM _) (by omega) (fun j a=>by omega) (fun j a b=>by omega)).imp fun l ⟨a1,a2,a3⟩=> ?_)
  refine z6a O f _ (k+1) (z4e P k (k - l)) (by omega) fun i j hij hj=> ?_
  have at' :∀x,(bubble p k (k - l)).getD x 0=if x=l then p.getD k 0 else if l<x/\x<=k then p.getD (x - 1) 0 else p.getD x 0:=fun x=>by
   have e:=getElem?_bubble (xs:=p) (src:=k) (by rw[P.size];exact hk) (k - l) (by omega) x
   rw[show k - (k - l)=l by omega] at e
   split
   ·rename_i q;rw[if_pos q] at e;exact getD_get? e
   ·rename_i q;rw[if_neg q] at e;split
    ·rename_i q2;rw[if_pos q2] at e;exact getD_get? e
    ·rename_i q2;rw[if_neg q2] at e;exact getD_get? e
  show lt _ _=true;rw[at',at'];by_cases e1:i=l
  ·rw[if_pos e1,if_neg (by omega),if_pos (by omega)]
   exact a3 (j - 1) (by omega) (by omega)
  ·rw[if_neg e1];by_cases e2:j=l
   ·rw[if_pos e2,if_neg (by omega)]
    exact a2 i (by omega)
   ·rw[if_neg e2];by_cases e3:l<i/\i<=k
    ·rw[if_pos e3,if_pos (by omega)]
     exact U (i - 1) (j - 1) (by omega) (by omega)
    ·rw[if_neg e3];by_cases e4:l<j/\j<=k
     ·rw[if_pos e4];exact U i (j - 1) (by omega) (by omega)
     ·rw[if_neg e4];exact U i j hij (by omega)
theorem z38(O:Ord lt n):Sat lt n (kas_sort n) fun q=>Pm n q/\Up lt q n:=by
 unfold kas_sort;have P0:Pm n (List.toArray (List.range n)):=by unfold Pm;exact List.Perm.refl _
 by_cases h0:n=0
 ·subst h0;exact⟨rfl,(by unfold Pm;exact List.Perm.refl _),fun i j _ hj=>absurd hj (Nat.not_lt_zero _)⟩
 ·refine Df ((z3f O P0 (by omega)).imp fun r ⟨a1,a2,a3,a4⟩=> ?_)
  by_cases g:r.1<n
  ·rw[if_pos g,show max r.1 1=r.1 by omega]
   exact z6a O _ _ _ a1 (by omega) a4
  ·rw[if_neg g];obtain e:r.1=n:=by omega
   exact uc ⟨a1,e ▸ a4⟩
end
end L3
namespace L3
open PySem PySem.Spec PyProof.Rows L2
def mX(lt:Nat ->Nat ->Bool)(is:List Nat):Prop:=is.Pairwise fun i j=>lt i j=true
theorem z58(P:Pm n q)(U:Up lt q n):mX lt q.toList:=by
 unfold mX;rw[List.pairwise_iff_getElem];intro i j hi hj hij;have hj' :j<q.size:=by simpa using hj
 have hi' :i<q.size:=by omega
 have:=U i j hij (by rw[<- P.size];exact hj')
 unfold Lp at this;rw[Hj hi',Hj hj'] at this;exact this
structure vY (prog:Program) (w:World) (A:Around) (E:bL) (vs:List Value) (lt:Nat ->Nat ->Bool) (T:Heap ->Prop) (κ:SortKind):Prop where
 kind:∀(s:Shared) (Q:SortKind ->Shared ->Prop),T s.heap ->2<=vs.length ->Q κ s ->wpAny (model prog w) A (keyKind' vs.toArray) Q E s
 ask:∀(s:Shared) (i j:Nat) (C:Bool ->Shared ->Prop),T s.heap ->i<vs.length ->j<vs.length ->i≠j ->C (lt i j) s ->W.kas_ask prog w A κ vs i j C s
section
variable{prog:Program}{w:World}{A:Around}{E:bL}{s:Shared}
theorem zl5{a:Addr}{vs:List Value}{lt:Nat ->Nat ->Bool}{T:Heap ->Prop}{κ:SortKind}{n:Nat}{P:PySem.Fin ->Shared ->Prop}(hob:s.heap.get? a=some (seqObj "list" vs.toArray n))(O:Ord lt vs.length)(hT:T s.heap)
  (hst:∀h',(∀x o,s.heap.get? x=some o ->x≠a ->h'.get? x=some o) ->T h') (K:vY prog w A E vs lt T κ) (h64:vs.length<64)
  (h:∀is:List Nat,is.Perm (List.range vs.length) ->mX lt is ->P (.done (.ret .none)) {s with heap:=sortedHeap s.heap a vs (is.map fun i=>vs.getD i Value.none).toArray}):wpAny (model prog w) A (Builtin.«list.sort» ⟨[.ref a],[]⟩) P E s:=by
 have hal:a<s.heap.objs.size:=zG hob;have Dg:vs.length<=sizeLine:=by rw[sizeLine_eq];omega
 rw[list_sort_plain];refine z8 (listItems_at (n:=n) hob rfl ?_);refine z8 (listUpdate_at (n:=n) hob rfl ?_ (by rw[List.size_toArray];exact Dg) (Nat.zero_le _))
 obtain⟨ea,hoa⟩:∃ea,(s.heap.update a (Obj.mapSeq fun _=> #[])).get? a=some (seqObj "list" #[] ea):=⟨_,get?_update_seq hob (fun _=> #[])⟩;refine z8 (seqEpoch_at (n:=ea) hoa rfl ?_);refine z8 (wpAny_newTuple ?_ (by simpa using Dg))
 refine z8 (wpAny_newList ?_ (Nat.zero_le _));refine wpAny_holding (m:=_) ?_;have vZ:(((s.heap.update a (Obj.mapSeq fun _=> #[])).push (seqObj "tuple" vs.toArray 0)).push (seqObj "list" #[] 0)).get? a=some (seqObj "list" #[] ea):=by
  refine Eq.trans (zA _ _ _ ?_) (Eq.trans (zA _ _ _ ?_) hoa)
  ·rw[size_push',Heap.size_update];exact zJ (Nat.lt_succ_of_lt hal)
  ·rw[Heap.size_update];exact zJ hal
 have T2:T (((s.heap.update a (Obj.mapSeq fun _=> #[])).push (seqObj "tuple" vs.toArray 0)).push (seqObj "list" #[] 0)):=hst _ fun x o hx hxa=>by
  have hlt:=zG hx;refine Eq.trans (zA _ _ _ ?_) (Eq.trans (zA _ _ _ ?_) (Eq.trans (Heap.get?_update_ne _ _ _ _ hxa) hx))
  ·rw[size_push',Heap.size_update];exact zJ (Nat.lt_succ_of_lt hlt)
  ·rw[Heap.size_update];exact zJ hlt
 show wpAny (model prog w) A _ P E ({s with heap:=((s.heap.update a (Obj.mapSeq fun _=> #[])).push (seqObj "tuple" vs.toArray 0)).push (seqObj "list" #[] 0)}:Shared);dsimp only;have hsv:vs.toArray.size=vs.length:=List.size_toArray ..;by_cases hfew:vs.toArray.size<2
 ·rw[if_pos hfew,if_pos hfew];refine z8 (z9 (α:=_) ?_);rw[StateT.run_pure];refine z8 (z9 (α:=_) ?_);dsimp only;refine z8 (seqEpoch_at (n:=ea) vZ rfl ?_);have eo:(arrOf (SortSt.mk' general' (vs.toArray.zip vs.toArray) #[] 7 none)).map (·.2)=((List.range vs.length).map fun i=>vs.getD i Value.none).toArray:=by
   show(vs.toArray.zip vs.toArray).map (·.2)=_;apply Array.toList_inj.mp;apply List.ext_getElem
   ·simp
   ·intro i q1 q2;have:i<vs.length:=by simpa using q2
    simp [this]
  rw[eo];refine z8 (listUpdate_at (n:=ea) vZ rfl ?_ (Nat.zero_le _) ?_)
  ·simp only [bne_self_eq_false,Bool.false_eq_true,if_false];refine z9 (α:=_) (h _ (.refl _) ?_);unfold mX;rw[List.pairwise_iff_getElem];intro i j hi hj hij;have:j<vs.length:=by simpa using hj
   omega
  ·simp;omega
 ·rw[if_neg hfew,if_neg hfew];refine z8 (K.kind _ _ T2 (by omega) ?_)
  obtain⟨ok,Pq,Uq⟩:=z38 O;show wpAny _ _ (StateT.run sortRuns' (SortSt.mk' κ (vs.toArray.zip vs.toArray) #[] 7 none)>>=_) _ _ _;refine z8 (wpAny_mono (W.kat_run (Q:=fun st' s' =>∃p:Array Nat,p.size=vs.length/\arrOf st' =p.map (W.kas_item (vs.toArray.zip vs.toArray))/\failedOf st' =none/\p=CV lt (W.kas_sort vs.length)/\s' ={s with heap:=((s.heap.update a (Obj.mapSeq fun _=> #[])).push (seqObj "tuple" vs.toArray 0)).push (seqObj "list" #[] 0)})
   (G:=fun p s' =>p=CV lt (W.kas_sort vs.length)/\s' ={s with heap:=((s.heap.update a (Obj.mapSeq fun _=> #[])).push (seqObj "tuple" vs.toArray 0)).push (seqObj "list" #[] 0)})
   rfl (by omega) (by omega) (fun p st' s' a1 a2 a3 a4=>⟨p,a1,a2,a3,a4⟩) ?_) ?_ fun _ _ y=>y)
  ·exact Zm (fun i j C hi hj hij hC=>K.ask _ i j C T2 hi hj hij hC) _ _ ok ⟨rfl,rfl⟩
  ·rintro⟨⟨⟩,st'⟩ s' ⟨p,hp,har,hf,rfl,rfl⟩;dsimp only;have eo:=W.kat_snds (vs:=vs) rfl har;rw[eo];refine z8 (seqEpoch_at (n:=ea) vZ rfl ?_);refine z8 (listUpdate_at (n:=ea) vZ rfl ?_ (Nat.zero_le _) ?_)
   ·rw[hf];simp only [bne_self_eq_false,Bool.false_eq_true,if_false];exact z9 (α:=_) (h _ Pq (z58 Pq Uq))
   ·exact zN (Nat.le_of_eq (zt2 hp)) (by omega)
theorem Tc{src:Value}{Q:bL}
  (hc:wpAny (model prog w) A.in1 (collect src) (fun vs s1=>∃lt T κ,Ord lt vs.length/\vs.length<64/\vY prog w A.in1.in1 E vs lt T κ/\ (∀h2:Heap,(∀x o,s1.heap.get? x=some o ->h2.get? x=some o) ->T h2)/\
   ∀(l:Addr) (h' :Heap) (is:List Nat) e,s1.heap.objs.size<=l ->is.Perm (List.range vs.length) ->mX lt is ->h'.get? l=some (seqObj "list" (is.map fun i=>vs.getD i Value.none).toArray e) ->(∀b ob,s1.heap.get? b=some ob ->h'.get? b=some ob) ->Q (.ref l) {s1 with heap:=h'}) E s):
  wpAny (model prog w) A (call (.builtin "sorted") [src]) Q E s:=by
 refine Calls.call_function_entry kind_sorted plain_sorted entry_sorted (args_sorted1 _) (show wpAny _ _ (Builtin.«sorted» _) _ _ _ from ?_);unfold Builtin.«sorted»;refine z8 (m:=checkCount "sorted" 1 1 _) (z9 (α:=_) ?_);refine z8 (m:=collect _) (wpAny_mono hc (fun vs s1 tG=> ?_) fun _ _ y=>y);obtain⟨lt,T,κ,O,h64,K,hT2,h⟩:=tG;have Dg:vs.length<=sizeLine:=by rw[sizeLine_eq];omega
 refine z8 (wpAny_newList ?_ Dg);have hoL:(s1.heap.push (seqObj "list" vs.toArray 0)).get? s1.heap.objs.size=some (seqObj "list" vs.toArray 0):=zY _ rfl;refine z8 (m:=holding _ _) (wpAny_holding (vs:= [_]) (wpAny_call_entry slot_list_sort ⟨_,hoL,rfl⟩ entry_list_sort (zl5 (T:=T) hoL O (hT2 _ fun x o e=>zZ _ e) (fun h' k=>hT2 _ fun x o e=>k x o (zZ _ e) (zJ (zG e))) K h64 fun is a1 a2=>⟨_,rfl,?_⟩) (args_list_sort _)));refine z9 (α:=_) ⟨_,rfl,?_⟩;obtain⟨e,he⟩:=z7k (vs:=vs) (out:=(is.map fun i=>vs.getD i Value.none).toArray) hoL;refine h s1.heap.objs.size _ is e (zM _) a1 a2 he fun b ob eb=> ?_;exact z43 (zZ _ eb) (zJ (zG eb))
end
def gD(a b:Str):Bool:=decide (a.cps.toList<b.cps.toList)
theorem zxq(a:Str):gD a a=false:=by unfold gD;simpa using List.lt_irrefl a.cps.toList
theorem z1c(h1:gD a b=true)(h2:gD b c=true):gD a c=true:=by
 unfold gD at*;simp only [decide_eq_true_eq] at*;exact List.lt_trans h1 h2
theorem z24(h1:gD a b=false)(h2:a≠b):gD b a=true:=by
 unfold gD at*;simp only [decide_eq_false_iff_not,decide_eq_true_eq] at*;cases q:decide (b.cps.toList<a.cps.toList) with
 | true=>exact of_decide_eq_true q
 | false=>
  have:=List.le_antisymm (List.not_lt.mp h1) (List.not_lt.mp (of_decide_eq_false q));exact absurd (by cases a;cases b;simp at this;rw[this]) h2
theorem zsy(h:gD a b=true):gD b a=false:=by
 cases q:gD b a with
 | false=>rfl
 | true=>have:=z1c h q;rw[zxq] at this;cases this
def Ay(xs:List Str)(i j:Nat):Bool:=gD (xs.getD i Str.empty) (xs.getD j Str.empty)
theorem rM{α:Type}{xs:List α}{i:Nat}{d:α}(h:i<xs.length):xs.getD i d=xs[i]:=by
 rw[List.getD_eq_getElem?_getD,List.getElem?_eq_getElem h];rfl
theorem Td{xs:List Str}(nd:xs.Nodup):Ord (Ay xs) xs.length:=by
 have key:=List.pairwise_iff_getElem.mp nd;refine⟨fun i j hi hj hij h=> ?_,fun i j _ _ h=>zsy h,fun i j k _ _ _ h1 h2=>z1c h1 h2⟩;refine z24 h ?_;rw[rM hi,rM hj];rcases Nat.lt_or_gt_of_ne hij with q | q
 ·exact key i j hi hj q
 ·exact fun z=>key j i hj hi q z.symm
def pick{α:Type}(d:α)(xs:List α)(is:List Nat):List α:=is.map fun i=>xs.getD i d
theorem Te{α:Type}{d:α}{xs:List α}{is:List Nat}(h:is.Perm (List.range xs.length)):(pick d xs is).Perm xs:=by
 have e:(List.range xs.length).map (fun i=>xs.getD i d)=xs:=by
  apply List.ext_getElem
  ·simp
  ·intro i q1 q2;simp only [List.getElem_map,List.getElem_range];exact rM q2
 have:=h.map fun i=>xs.getD i d;rw[e] at this;exact this
theorem Tf(h:mX (Ay xs) is):(pick Str.empty xs is).Pairwise fun a b=>gD a b=true:=by
 unfold pick;rw[List.pairwise_map];exact h
theorem K7{xs:List Str}{vs:List Value}(r:Vals (xs.map V.str) vs){i:Nat}(hi:i<xs.length):∃t,vs.getD i Value.none= .str (xs.getD i Str.empty) t:=by
 obtain⟨u,e,ru⟩:=r.get (i:=i) (x:= .str (xs.getD i Str.empty)) (by rw[List.getElem?_map,List.getElem?_eq_getElem hi,rM (d:=Str.empty) hi];rfl)
 rw[List.getD_eq_getElem?_getD,e];exact ru
theorem zsb{prog:Program}{w:World}{A:Around}{E:bL}{xs:List Str}{vs:List Value}(r:Vals (xs.map V.str) vs):vY prog w A E vs (Ay xs) (fun _=>True) oneType' :=by
 have hl:vs.length=xs.length:=by have:=r.length;simpa using this.symm
 refine⟨fun s Q _ h2 hQ=>W.kas_kind (T:= .type "str") h2 (fun v hv=> ?_) (by decide) (by decide) hQ,fun s i j C _ hi hj _ hC=> ?_⟩
 ·obtain⟨k,hk,rfl⟩:=List.mem_iff_getElem.mp hv;obtain⟨t,e⟩:=K7 r (i:=k) (by omega)
  rw[rM hk] at e;rw[e];exact W.Looks.of_pure rfl
 ·obtain⟨t,e⟩:=K7 r (i:=i) (by omega)
  obtain⟨u,e'⟩:=K7 r (i:=j) (by omega)
  unfold W.kas_ask;rw[e,e',keyLt'_oneType];exact oneLt_str hC
def v7:Value ->Key | .int i _=> .inl i | .str x _=> .inr x | _=> .inl 0
theorem z2r:∀k v,(jd prog w).is k v=true ->v7 v=k:=fun k v h=>by
 rcases qC h with ⟨i,t,rfl,rfl⟩ | ⟨x,t,rfl,rfl⟩<;>rfl
theorem zo9:∀{vs:List Value} {ys:List Str},(∀v∈vs,(∃k,(jd prog w).is k v=true)/\v.scannable=true) ->vs.map v7=ys.map Sum.inr ->Vals (ys.map V.str) vs
 | [],[],_,_=> .nil
 | [],_::_,_,h=>by cases h
 | _::_,[],_,h=>by cases h
 | v::vs,y::ys,h,e=>by
  obtain⟨⟨k,hk⟩,_⟩:=h v zW;rw[List.map_cons,List.map_cons] at e;injection e with e1 e2;refine .cons ?_ (zo9 (fun u hu=>h u (zV _ hu)) e2);rcases qC hk with ⟨i,t,rfl,rfl⟩ | ⟨x,t,rfl,rfl⟩
  ·cases e1
  ·have:x=y:=by injection e1
   subst this;exact⟨t,rfl⟩
theorem zz5:∀{ks:List Key} {xs:List Str},ks.Perm (xs.map Sum.inr) ->∃ys:List Str,ks=ys.map Sum.inr/\ys.Perm xs:=fun{ks xs} h=>by
 have e:ks=(ks.map fun k=>match k with | .inr x=>x | .inl _=>Str.empty).map Sum.inr:=by
  rw[List.map_map];refine Eq.trans (List.map_id ks).symm (List.map_congr_left fun k hk=> ?_);obtain⟨x,_,rfl⟩:=zE.mp (h.mem_iff.mp hk)
  rfl
 refine⟨_,e,?_⟩;have:=h.map fun k:Key=>match k with | .inr x=>x | .inl _=>Str.empty
 rw[List.map_map] at this;refine this.trans ?_;rw[show(List.map ((fun k:Key=>match k with | .inr x=>x | .inl _=>Str.empty) ∘ Sum.inr) xs)=xs from List.map_id' xs]
def jJ(xs:List Str):List Str:=(fW (fun i=>(Sum.inr (xs.getD i Str.empty):Key)) xs.length).map fun k=>match k with | .inr x=>x | .inl _=>Str.empty
theorem Tg(xs:List Str):fW (fun i=>(Sum.inr (xs.getD i Str.empty):Key)) xs.length=(jJ xs).map Sum.inr:=by
 unfold jJ;rw[List.map_map];refine Eq.trans (List.map_id _).symm (List.map_congr_left fun k hk=> ?_);obtain⟨j,_,rfl⟩:=(R9 _).mp hk
 rfl
theorem oZ{xs:List Str}{x:Str}:x∈jJ xs↔x∈xs:=by
 have e:x∈jJ xs↔ (Sum.inr x:Key)∈fW (fun i=>(Sum.inr (xs.getD i Str.empty):Key)) xs.length:=by
  rw[Tg,List.mem_map];constructor
  ·exact fun h=>⟨x,h,rfl⟩
  ·rintro⟨y,h,e⟩;have:y=x:=by injection e
   rw[<- this];exact h
 rw[e,R9];constructor
 ·rintro⟨j,hj,e⟩;have:xs.getD j Str.empty=x:=by injection e
  rw[<- this,rM hj];exact yX hj
 ·intro h;obtain⟨j,hj,e⟩:=List.mem_iff_getElem.mp h;exact⟨j,hj,by rw[rM hj,e]⟩
theorem zk5(xs:List Str):(jJ xs).Nodup:=by
 have:=Zz (fun i=>(Sum.inr (xs.getD i Str.empty):Key)) xs.length;rw[Tg] at this;exact List.Pairwise.imp (fun{a b} h z=>h (by rw[z])) (List.pairwise_map.mp this)
def ud(P:Program)(w:World)(a:Addr)(xs:List Str):HO:= .ext fun h=>lH (jd P w) v7 (gA w) h a ((jJ xs).map Sum.inr)
def w6(X:Cx):List V ->Hp ->VK ->Prop:=fun vs H Q=>∃(p:Addr) (xs:List Str),vs= [.ref p]/\fZ X.K H p (xs.map .str)/\xs.length+1<scanBound/\∀q,H q=none ->Q (.ref q) (upd H q (ud X.prog X.w q xs))
def Hl(X:Cx):List V ->Hp ->VK ->Prop:=fun vs H Q=>∃(q:Addr) (xs:List Str),vs= [.ref q]/\H q=some (ud X.prog X.w q xs)/\ (jJ xs).length<64/\
 ∀(l:Addr) (ms:List Str),H l=none ->ms.Perm (jJ xs) ->ms.Pairwise (fun a b=>gD a b=true) ->Q (.ref l) (upd H l (.lst (ms.map .str)))
theorem ztx(hc:X.calm=true):cP X (.type "set") (w6 X):=by
 rintro pins s σ H xs us Q I r ⟨p,ns,e0,hq,hb,k⟩;subst e0;obtain⟨u,rfl,rx⟩:=vals1 r;cases rx;obtain⟨its,rv,pl,hz⟩:=I.list hq;have hl:=rv.length;rw[List.length_map] at hl;have hsz:its.toArray.size=ns.length:=by simpa using hl.symm
 refine zq3 (κ:=Key) (knd:=jd X.prog X.w) (kf:=v7) z2r (val:=fun i=> .inr (ns.getD i Str.empty)) (I.ok.hd hc) pl.isList (fun i v hv=> ?_) (by rw[hsz];exact hb) fun h' tk hS hold=> ?_
 ·have hi:i<ns.length:=by rw[hl];exact(zU.mp (by simpa using hv)).1
  obtain⟨t,e⟩:=K7 rv hi;rw[List.getD_eq_getElem?_getD,show its[i]?=some v by simpa using hv] at e
  have e' :v= .str (ns.getD i Str.empty) t:=e;subst e';exact⟨Wq _ _ _ _,rfl⟩
 ·rw[hsz,Tg] at hS;have I2:Inv X pins σ (upd H s.heap.objs.size (ud X.prog X.w s.heap.objs.size ns)) {s with heap:=h',toks:=tk}:=
   I.laid (t' :=tk) hold (zM _) (show aV X.prog X.w _ _ _ (ud X.prog X.w s.heap.objs.size ns) from ⟨hS,by obtain⟨o,_,_,_,e,_⟩:=hS;exact⟨o,e⟩,fun h1 h2 q st=>q.stay st⟩)
  exact⟨.ref s.heap.objs.size,_,I2,rfl,k _ (I.hok.fresh (zM _))⟩
theorem Ti(r:Vals xs vs)(h:∀i∈is,i<xs.length):Vals (pick .non xs is) (is.map fun i=>vs.getD i Value.none):=Zo r h
theorem K8{α β:Type}{f:α ->β}{d:α}{xs:List α}{is:List Nat}{e:β}(h:∀i∈is,i<xs.length):pick e (xs.map f) is=(pick d xs is).map f:=by
 unfold pick;rw[List.map_map];refine List.map_congr_left fun i hi=> ?_;show(xs.map f).getD i e=f (xs.getD i d);rw[rM (by rw[List.length_map];exact h i hi),rM (h i hi),List.getElem_map]
theorem zw1{X:Cx}(hc:X.calm=true):cP X (.builtin "sorted") (Hl X):=by
 rintro pins s σ H xs us Q I r ⟨q,ns,e0,hq,h64,k⟩;subst e0;obtain⟨u,rfl,rx⟩:=vals1 r;cases rx;obtain⟨⟨o,es,ep,t,hg,O⟩,_,_⟩:=I.hok q _ hq;have hlk:es.size=(jJ ns).length:=by simpa using O.key.length_eq
 have line:(64:Nat)<=sizeLine:=by decide
 refine Tc (zqu (by simp [I.ok.hd hc]) hg O (by omega) fun vals h1 d tk hk hm hlt hold=> ?_)
 obtain⟨ys,e1,hp⟩:=zz5 hk;have rv:=zo9 hm e1;have u9:vals.length=ys.length:=by have:=rv.length;simpa using this.symm
 have hly:ys.length=(jJ ns).length:=hp.length_eq;refine⟨Ay ys,_,_,by rw[u9];exact Td (hp.nodup_iff.mpr (zk5 ns)),by omega,zsb rv,fun _ _=>trivial,fun l h' is e hle a1 a2 hl o7=> ?_⟩
 have hlt2:s.heap.objs.size<=l:=zN (Nat.le_of_lt hlt) hle;have hix:∀i∈is,i< (ys.map V.str).length:=fun i hi=>by
  rw[List.length_map,<- u9];exact List.mem_range.mp (a1.mem_iff.mp hi)
 have hrv:=Ti rv hix;rw[K8 (d:=Str.empty) (fun i hi=>by have:=hix i hi;rwa [List.length_map] at this)] at hrv
 have hms:(pick Str.empty ys is).Perm (jJ ns):=(Te (by rw[<- u9];exact a1)).trans hp
 have hlen:((pick Str.empty ys is).map V.str).length<=sizeLine:=by rw[List.length_map,hms.length_eq];omega
 have I2:Inv X pins σ (upd H l (.lst ((pick Str.empty ys is).map .str))) {s with heap:=h',toks:=tk}:=
  I.laid (t' :=tk) (fun b ob eb=>o7 b ob (hold b ob eb)) hlt2 (show aV X.prog X.w _ _ _ (.lst ((pick Str.empty ys is).map .str)) from ⟨hlen,_,e,hrv,hl⟩)
 exact⟨.ref l,_,z5m I2 d,rfl,k l _ (I.hok.fresh hlt2) hms (Tf a2)⟩
def lK:List D ->Option (List Str)
 | []=>some []
 | .str x::r=>(lK r).map (x:: ·)
 | _::_=>none
theorem znv{K:W.Frag}{F:Hp}:∀{ds:List D} {vs:List V} {xs:List Str},ak K F ds vs ->lK ds=some xs ->vs=xs.map .str
 | [],vs,xs,r,h=>by unfold ak at r;cases h;subst r;rfl
 | d::ds,vs,xs,r,h=>by
  unfold ak at r;obtain⟨v,us,rfl,r1,r⟩:=r;cases d with
  | str x=>
   unfold lK at h;unfold Rep at r1;subst r1;cases q:lK ds with
   | none=>rw[q] at h;cases h
   | some ms=>rw[q] at h;cases h;rw[znv r q];rfl
  | _=>cases h
theorem Ho{K:W.Frag}{F:Hp}:∀xs:List Str,ak K F (xs.map .str) (xs.map V.str)
 | []=>by unfold ak;rfl
 | n::ns=>pW (by unfold Rep;rfl) (Ho ns)
def xq:List D ->(List D ->Prop) ->Prop:=fun ds P=>match ds with
 | [.lst xs]=>∃ns,lK xs=some ns/\ns.length<4095/\ (jJ ns).length<64/\∀ms:List Str,ms.Pairwise (fun a b=>gD a b=true) ->(∀i,i∈ms↔i∈ns) ->P (ms.map .str)
 | _=>False
section
variable{X:Cx}{F0 H0:Hp}{a e:Expr}{pos p pos2 p2:Pos}{t:bA}
theorem Tj(hc:X.calm=true)(hg:Gl X "sorted")(hm:X.mg "sorted" =none)(hg2:Gl X "set")(hm2:X.mg "set" =none)(ha:QA X F0 H0 [a] t)(hb:bootBuiltins "sorted" =some (.builtin "sorted"):=by decide+kernel)
  (he:starEach [a] X.env=(false,eval a X.env)::starEach [] X.env:=by rfl) (he2:starEach [.Call (.Name "set" p2) [a] [] pos2] X.env=(false,eval (.Call (.Name "set" p2) [a] [] pos2) X.env)::starEach [] X.env:=by rfl):
  QF X F0 H0 (.Call (.Name "sorted" p) [.Call (.Name "set" p2) [a] [] pos2] [] pos) (pO xq t):=fun z E cx=>by
 have inner:PE (X.wsh z) (.Call (.Name "set" p2) [a] [] pos2) (Fe (w6 (X.wsh z)) (Gd X.K F0 H0 t E)):=Ou (X:=X.wsh z) (ztx hc) hg2 hm2 zzp (ha z E cx) (by decide) (by decide) he rfl
 refine jh (Fg (X:=X.wsh z) (zw1 hc) hg hm hb (J1 inner Oh he2) (by decide) (by decide) he2 rfl) fun σ H Q hq1=> ?_
 obtain⟨F,Γ,P,R,h,k⟩:=hq1;refine⟨F,Γ,_,R,h,fun ds Γ1 F1 H1 vs R1 s1 r1 h1=> ?_⟩;unfold xq at h1;split at h1
 ·unfold ak ak Rep at r1;obtain⟨v,_,rfl,⟨l,us,rfl,hq,rs⟩,rfl⟩:=r1;obtain⟨ns,hns,hlt,hme,h1⟩:=h1;obtain rfl:=znv rs hns;refine⟨l,ns,rfl,R1.g.seq hq,by unfold scanBound;omega,fun q hq0=> ?_⟩
  refine⟨q,ns,rfl,mQ,hme,fun l2 ms hl2 hp hs=> ?_⟩;have R2:SR X.K F0 H0 F1 (upd H1 q (ud X.prog X.w q ns)) σ Γ1:=R1.grow ⟨.refl _,fun b u e=>by rw[dH (mC (R1.g b u e) hq0)];exact R1.g b u e,fun b u e=>by rw[dH (mC e hq0)];exact e,fun b o e n=>by rw[e] at n;cases n⟩
  obtain⟨R3,q1,q2,q3,ap⟩:=vO R2 hl2 (Ho (K:=X.K) (F:=F1) ms);exact k _ Γ1 F1 _ l2 _ R3 s1 q1 q2 q3 (Ho ms) ap (h1 ms hs fun i=>hp.mem_iff.trans oZ)
 ·exact h1.elim
end
open PySem.AutoSeq1 (wpAny_loadPart')
open PySem.MeetsSeq PySem.MeetsSeq3 in
theorem zyz(l b:Addr)(items items2:Array Value)(n n2:Nat)(dd dd2:Option Addr)(sl sl2:Array (Option Value))(x y:Str)(t u:Tok)(h1:items[0]?=some (.str x t))(h2:items2[0]?=some (.str y u))(hxy:x≠y):
  Meets (Builtin.«list.__eq__.loop» ⟨[.ref l,.ref b,rawInt 0,rawInt 0],[]⟩)
   (fun A R s=>s.heap.get? l=some {cls:= .type "list",dict:=dd,data:= .seq items n,slots:=sl}/\s.heap.get? b=some {cls:= .type "list",dict:=dd2,data:= .seq items2 n2,slots:=sl2}/\
    R (.ok (.ret (.bool (gD x y)))) s):=by
 intro prog w A R s h;obtain⟨hp,g,d,tk,os⟩:=s;obtain⟨hl,hb,h⟩:=h
 wp_walk using wpAny_loadPart' hl,wpAny_loadPart' hb
 have hi1:items[(0:Int).toNat]?=some (.str x t):=h1;have hi2:items2[(0:Int).toNat]?=some (.str y u):=h2;rw[hi1,hi2];have hne:(x.cps.toList==y.cps.toList)=false:=by
  cases q:(x.cps.toList==y.cps.toList) with
  | false=>rfl
  | true=>
   have e:=eq_of_beq q;exact absurd (by cases x;cases y;simp at e;rw[e]) hxy
 refine z8 (SeqRoads2.EqGives.str x y t u prog w _ _ _ _ ?_);rw[hne]
 wp_walk using wpAny_loadPart' hl,wpAny_loadPart' hb
 rw[hi1,hi2];refine z8 (m:=richCompare .Lt _ _) (wpAny_richCompare_same (typeIs_str _ x t) (typeIs_str _ y u) slot_str_lt (call_str_lt ⟨by simp,?_⟩) rfl)
 wp_walk
 exact h
open PySem.MeetsSeq PySem.MeetsSeq3 in
theorem zyl(l b:Addr)(items items2:Array Value)(n n2:Nat)(dd dd2:Option Addr)(sl sl2:Array (Option Value))(x y:Str)(t u:Tok)(h1:items[0]?=some (.str x t))(h2:items2[0]?=some (.str y u))(hxy:x≠y):
  Meets (Builtin.«list.__lt__» ⟨[.ref l,.ref b],[]⟩)
   (fun A R s=>s.heap.get? l=some {cls:= .type "list",dict:=dd,data:= .seq items n,slots:=sl}/\s.heap.get? b=some {cls:= .type "list",dict:=dd2,data:= .seq items2 n2,slots:=sl2}/\
    R (.ok (.ret (.bool (gD x y)))) s):=by
 intro prog w A R s h;obtain⟨hp,g,d,tk,os⟩:=s;obtain⟨hl,hb,h⟩:=h;have f3:=AutoSeq1.sub_list_list
 wp_walk using wpAny_loadPart' hl,wpAny_loadPart' hb
 exact⟨plainId_quiet plain_eq_loop _,codeAny_builtin entry_eq_loop (by
  rw[Around.under_plainId plain_eq_loop _];exact zyz l b items items2 n n2 dd dd2 sl sl2 x y t u h1 h2 hxy prog w A R _ ⟨hl,hb,h⟩)⟩
def vd(h:Heap)(v:Value)(x:Str):Prop:=∃a its t,v= .ref a/\PlainL h a its/\its[0]?=some (.str x t)
theorem zy6(h1:vd s.heap v x)(h2:vd s.heap v' y)(hxy:x≠y)(hu:A.units<cLine)(h:Q (gD x y) s):wpAny (model prog w) A (oneLt' true v v') Q E s:=by
 obtain⟨a,its,t,rfl,⟨o,n,e1,c1,d1,s1⟩,z1⟩:=h1;obtain⟨b,its2,u,rfl,⟨o2,n2,e2,c2,d2,s2⟩,z2⟩:=h2;obtain⟨cls,dict,data,slots⟩:=o;obtain⟨cls2,aac,data2,Az⟩:=o2;cases c1;cases d1;cases s1;cases c2;cases d2;cases s2;rw[oneLt'_eq];simp only [if_true];refine z8 (wpAny_cRoomFor_or (.inr hu) ?_);refine z8 (wpAny_callSpecialIfBound?_slot (T:= "list") ⟨_,e1,rfl⟩ F.slot_list_lt (call_meets F.slot_list_lt ⟨_,e1,rfl⟩ F.entry_list_lt (F.args_list_lt_2 _ _) (zyl a b its its2 n n2 none none slots Az x y t u z1 z2 hxy) ⟨e1,e2,?_⟩));exact wpAny_truthy_bool h
theorem vd.up(q:vd h v x)(k:∀b o,h.get? b=some o ->h'.get? b=some o):vd h' v x:=by
 obtain⟨a,its,t,e,p,z⟩:=q;exact⟨a,its,t,e,p.keeps k,z⟩
theorem vd.looks(q:vd h v x):W.Looks M h (typeOf v) (.type "list"):=by
 obtain⟨a,its,t,rfl,⟨o,n,e,c,_,_⟩,_⟩:=q;intro A Q E s k hQ;exact wpAny_typeOf_ref (k _ _ e) (by rw[c];exact hQ)
theorem z3y(hl:vs.length=xs.length)(nd:xs.Nodup)(hu:A.units<cLine):
  vY prog w A E vs (Ay xs) (fun h=>∀i,i<xs.length ->vd h (vs.getD i Value.none) (xs.getD i Str.empty)) oneType' :=by
 refine⟨fun s Q hT h2 hQ=>W.kas_kind (T:= .type "list") h2 (fun v hv=> ?_) (by decide) (by decide) hQ,fun s i j C hT hi hj hij hC=> ?_⟩
 ·obtain⟨k,hk,rfl⟩:=List.mem_iff_getElem.mp hv;have:=hT k (by omega)
  rw[rM hk] at this;exact this.looks
 ·unfold W.kas_ask;rw[keyLt'_oneType];refine zy6 (hT i (by omega)) (hT j (by omega)) ?_ hu hC
  have key:=List.pairwise_iff_getElem.mp nd;rw[rM (by omega),rM (by omega)]
  rcases Nat.lt_or_gt_of_ne hij with q | q
  ·exact key i j (by omega) (by omega) q
  ·exact fun z=>key j i (by omega) (by omega) q z.symm
def gl(g:List Str):D:= .lst (g.map .str)
def hdS(g:List Str):Str:=g.headD Str.empty
theorem z60(I:Inv X pins σ H s)(sF:Same F H)(r:Rep X.K F (gl g) v)(ru:RelV v u)(hg:g≠ []):vd s.heap u (hdS g):=by
 unfold gl Rep at r;obtain⟨a,vs,rfl,hq,rs⟩:=r;cases ru;obtain⟨its,rv,pl,hz⟩:=I.list (sF.seq hq);cases g with
 | nil=>exact absurd rfl hg
 | cons x g=>
  unfold List.map ak Rep at rs;obtain⟨w,us,rfl,rfl,rs⟩:=rs;cases rv with
  | cons r0 rr=>
   obtain⟨t,rfl⟩:=r0;exact⟨a,_,t,rfl,pl,by simp [hdS]⟩
def K9:List D ->(List D ->Prop) ->Prop:=fun ds P=>match ds with
 | [.lst xs]=>∃gs:List (List Str),xs=gs.map gl/\ (∀g∈gs,g≠ [])/\ (gs.map hdS).Nodup/\gs.length<64/\
   ∀ms:List (List Str),ms.Perm gs ->ms.Pairwise (fun a b=>gD (hdS a) (hdS b)=true) ->P (ms.map gl)
 | _=>False
theorem z0n(hu:X.A.units+21<cLine):cP X (.builtin "sorted") (rH X.K K9):=by
 rintro pins s σ H xs us Q I r ⟨F,ds,P,sF,rs,h,k⟩;unfold K9 at h;split at h
 ·unfold ak ak Rep at rs;obtain⟨v,_,rfl,⟨p,vs,rfl,hq,rs⟩,rfl⟩:=rs;obtain⟨gs,rfl,hne,nd,h64,h⟩:=h;obtain⟨u,rfl,rx⟩:=vals1 r;cases rx;obtain⟨its,rv,pl,hz⟩:=I.list (sF.seq hq);have hl:=rv.length;have hl2:=iu rs;rw[List.length_map] at hl2;have line:(64:Nat)<=sizeLine:=by decide
  have hT:∀i,i< (gs.map hdS).length ->vd s.heap (its.getD i Value.none) ((gs.map hdS).getD i Str.empty):=fun i hi=>by
   rw[List.length_map] at hi;obtain⟨v,e1,r1⟩:=oH rs (i:=i) (d:=gl gs[i]) (by rw[List.getElem?_map,List.getElem?_eq_getElem hi];rfl)
   obtain⟨u,e2,r2⟩:=rv.get e1;rw[List.getD_eq_getElem?_getD,e2,rM (by rw[List.length_map];exact hi),List.getElem_map]
   exact z60 I sF r1 r2 (hne _ (yX hi))
  have hup:∀x o,s.heap.get? x=some o ->((s.heap.push (seqObj "list" #[] 0)).update s.heap.objs.size (Obj.mapSeq (· ++its.toArray))).get? x=some o:=fun x o e=>by
   have hlt:=zG e;exact Eq.trans (Heap.get?_update_ne _ _ _ _ (zJ hlt)) (zZ _ e)
  refine Tc (collect_list (vs:=its) pl.isList ?_ (by omega))
  refine⟨Ay (gs.map hdS),_,_,by rw[show its.length=(gs.map hdS).length by rw[List.length_map];omega];exact Td nd,by omega,z3y (by rw[List.length_map];omega) nd (by show X.A.units+1+1<cLine;omega),fun h2 k2 i hi=>(hT i hi).up fun b o e=>k2 b o (hup b o e),fun l h' is e hle a1 a2 hl' o7=> ?_⟩
  have hsz:s.heap.objs.size<=l:=zN (Nat.le_succ _) (zN (Nat.le_of_eq (((Heap.size_update ..).trans (size_push' ..)).symm)) hle);have hix:∀i∈is,i<its.length:=fun i hi=>List.mem_range.mp (a1.mem_iff.mp hi);have hrv:=Ti rv (is:=is) fun i hi=>by have:=hix i hi;omega
  have hrs:ak X.K F (pick .non (gs.map gl) is) (pick .non vs is):=Zq rs fun i hi=>by rw[List.length_map];have:=hix i hi;omega
  rw[K8 (d:= []) (fun i hi=>by have:=hix i hi;omega)] at hrs
  have hpm:(pick [] gs is).Perm gs:=Te (by rw[show gs.length=its.length by omega];exact a1)
  have hlen:(pick V.non vs is).length<=sizeLine:=by
   unfold pick;rw[List.length_map,a1.length_eq,List.length_range];omega
  have I2:Inv X pins σ (upd H l (.lst (pick .non vs is))) {s with heap:=h',toks:=s.toks}:=
   I.laid (t' :=s.toks) (fun b ob eb=>o7 b ob (hup b ob eb)) hsz (show aV X.prog X.w _ _ _ (.lst (pick .non vs is)) from ⟨hlen,_,e,hrv,hl'⟩)
  refine⟨.ref l,_,I2,rfl,k _ _ l hrs (I.hok.fresh hsz) (h _ hpm ?_)⟩;have hp:=Tf a2;rw[K8 (d:= []) (fun i hi=>by have:=hix i hi;omega)] at hp
  exact List.pairwise_map.mp hp
 ·exact h.elim
end L3
namespace L3
open PySem PySem.Spec PyProof.Rows L2
open PySem.AutoSeq1 (wpAny_loadPart')
theorem zjx(l:Addr)(items:Array Value)(n:Nat)(b:Addr)(items2:Array Value)(n2:Nat)(sl:Array (Option Value))(hc0:¬(!items.isEmpty&&Builtin.List.listTooLong (items.size+items2.size))=true)(hc1:items.size<=sizeLine)(hs2:items.size+items2.size<=sizeLine+1):
  Meets (Builtin.«list.extend» ⟨[.ref l,.ref b],[]⟩) (fun _ R s=>s.heap.get? l=some {cls:= .type "list",dict:=none,data:= .seq items n,slots:= #[]}/\s.heap.get? b=some {cls:= .type "list",dict:=none,data:= .seq items2 n2,slots:=sl}/\R (.ok (.ret Value.none)) {s with heap:=s.heap.update l (Obj.mapSeq fun x=>x++items2),toks:=s.toks}):=
 .of_wp fun prog w A R s h=>by
  obtain⟨hp,g,d,tk,os⟩:=s;obtain⟨hl,hb,h⟩:=h;have f1:=AutoSeq1.idx_int;have f2:=AutoSeq1.sub_tuple_tuple;have f3:=AutoSeq1.sub_list_list;have f4:=AutoSeq1.sub_tuple_list;have f5:=AutoSeq1.sub_list_tuple;have hz' :(items++items2).size<=sizeLine+1:=by rw[Array.size_append];exact hs2
  wp_walk using (wpAny_updateSeq hl rfl (hz:=hc1) (_hz' :=hz')),wpAny_loadPart' hl,wpAny_loadPart' hb;exact⟨_,rfl,h⟩
theorem zvu:Rq X "list.extend" Rt:=by
 intro pins s σ F H l vs args xs ds us P Q I hl sF rs ra rv h k;unfold Rt at h;split at h
 ·unfold ak ak Rep at ra;obtain⟨v,_,rfl,⟨b,zs,rfl,hq,rz⟩,rfl⟩:=ra;obtain⟨u,rfl,ru⟩:=vals1 rv;cases ru;obtain⟨z,its,n,r,hle,e⟩:=I.lstM hl;obtain⟨its2,r2,⟨o,n2,e2,c2,d2,s2⟩,hz2⟩:=I.list (sF.seq hq);obtain⟨cls,dict,data,slots⟩:=o;cases c2;cases d2;cases s2;have abj:=r2.length;have l1:=iu rs;have l2:=iu rz;have hsz:its.toArray.size+its2.toArray.size<=sizeLine:=by rw[List.size_toArray,List.size_toArray];omega
  have Hq:¬(!its.toArray.isEmpty&&Builtin.List.listTooLong (its.toArray.size+its2.toArray.size))=true:=by
   rw[zyb hsz,Bool.and_false];exact zH
  refine call_meets PySem.F.slot_list_extend ⟨_,e,rfl⟩ PySem.F.entry_list_extend (PySem.F.args_list_extend_2 _ _)
   (zjx l its.toArray n b its2.toArray n2 slots Hq (by rw[List.size_toArray];omega) (by omega)) ⟨e,e2,?_⟩
  refine⟨.non,_,I.lset (its' :=its++its2) hl e (by simp) (r.append r2) ?_,rfl,k _ _ (yO rs rz) h.2⟩
  rw[List.length_append];omega
 ·exact h.elim
def Tn:List D ->(List D ->Prop) ->Prop:=fun ds P=>match ds with | [.dic ks _]=>P (ks.map cG) | _=>False
theorem La:∀{xs:List V} {us:List Value},xs.length=us.length ->(∀(i:Nat) (x:V) (u:Value),xs[i]?=some x ->us[i]?=some u ->RelV x u) ->Vals xs us
 | [],[],_,_=> .nil
 | [],_::_,h,_=>by cases h
 | _::_,[],h,_=>by cases h
 | x::xs,u::us,h,k=> .cons (k 0 x u rfl rfl) (La (by simpa using h) fun i y w e1 e2=>k (i+1) y w (by simpa using e1) (by simpa using e2))
theorem Ba:∀{kvs:List (κ×V)} {ws:List (κ×Value)} {i:Nat} {p:κ×Value},KV kvs ws ->ws[i]?=some p ->∃v,kvs[i]?=some (p.1,v)/\RelV v p.2
 | _,_,_,_,.nil,e=>by simp at e
 | _,_,0,p,.cons (a:=q) h _,e=>by
  simp at e;subst e;obtain⟨h1,h2⟩:=h;exact⟨q.2,by rw[<- h1];rfl,h2⟩
 | _,_,i+1,p,.cons _ r,e=>by
  obtain⟨v,e1,e2⟩:=Ba (i:=i) r (by simpa using e)
  exact⟨v,by simpa using e1,e2⟩
theorem Hr:∀{ks:List κ} {vs:List V} {i:Nat} {k:κ} {v:V},(ks.zip vs)[i]?=some (k,v) ->ks[i]?=some k/\vs[i]?=some v:=fun{ks vs i k v} e=>by
 rw[List.getElem?_zip_eq_some] at e;exact e
theorem z1m(hc:X.calm=true):cP X (.type "list") (rH X.K Tn):=by
 rintro pins s σ H xs us Q I r ⟨F,ds,P,sF,rs,h,k⟩;unfold Tn at h;split at h
 ·rename_i ks ds';unfold ak ak Rep at rs;obtain⟨v,_,rfl,⟨a,vs,rfl,hq,hkl,rs⟩,rfl⟩:=rs;obtain⟨u,rfl,rx⟩:=vals1 r;cases rx;obtain⟨hz,hsm,ws,kv,hd⟩:=Fq I.hok (sF _ _ hq);obtain⟨ob,es,ep,hd⟩:=id hd;have hm:s.heap.DictAt (jd X.prog X.w) a ws ep:=⟨ob,es,hd⟩;have Dh:(ks.zip vs).length=ws.length:=kv.length;have hlk:ks.length=ws.length:=by rw[<- Dh,List.length_zip,<- hkl,Nat.min_self]
  rw[Dh] at hz;refine W.kdl_call (W.kdl_dict (knd:=jd X.prog X.w) (kvs:=ws) (ep:=ep) hsm) (I.ok.hd hc) hm hz fun h' tk acc c hold hg hac=> ?_;have hv:Vals (ks.map kV) acc.toList:=by
   refine La (by rw[List.length_map,Array.length_toList];exact hlk.trans hac.1.symm) fun i x u e1 e2=> ?_
   obtain⟨k,w,e3,e4⟩:=hac.2 i u (by rw[<- Array.getElem?_toList];exact e2)
   obtain⟨v5,e5,_⟩:=Ba kv e3;have e5:=(Hr e5).1;rw[List.getElem?_map,e5] at e1;cases e1;rcases qC e4 with ⟨j,t,rfl,rfl⟩ | ⟨x,t,rfl,rfl⟩
   ·exact⟨t,rfl⟩
   ·exact⟨t,rfl⟩
  have I2:Inv X pins σ (upd H s.heap.objs.size (.lst (ks.map kV))) {s with heap:=h',toks:=tk}:=
   I.laid (t' :=tk) hold (zM _) (show aV X.prog X.w _ _ _ (.lst (ks.map kV)) from ⟨by rw[List.length_map];omega,_,c,hv,by rw[Array.toArray_toList];exact hg⟩)
  exact⟨.ref s.heap.objs.size,_,I2,rfl,k _ _ _ (J5 ks) (I.hok.fresh (zM _)) h⟩
 ·exact h.elim
end L3
namespace L3
open PySem PySem.Spec PyProof.Rows L2
theorem Tq(I:Inv X pins σ H s)(e:H a=some (.dK kvs))(ho:s.heap.get? a=some o):Inv X pins σ (upd H a (.frz o (.dK kvs))) s:=by
 have ne:∀b u,H b=some u ->(∀kvs,u≠ .dK kvs) ->b≠a:=fun b u q n z=>by rw[z,e] at q;cases q;exact n _ rfl
 refine I.un (h' :=s.heap) (t' :=s.toks) ⟨fun _ _ q _ _ _=>q,fun _ ob q _ _ _=>⟨ob.slots,q⟩,fun b ob q n _=> ?_,fun b ob q _=>⟨ob,q⟩,fun b xs q=> ?_,fun b ob u q=> ?_,fun b ps q=>⟨#[],?_⟩⟩ fun b u q=> ?_
 ·rw[dH (fun z=>by rw[z,e] at n;cases n)];exact n
 ·rw[dH (ne b _ q fun _ z=>by cases z)];exact q
 ·rw[dH (ne b _ q fun _ z=>by cases z)];exact q
 ·rw[dH (ne b _ q fun _ z=>by cases z)];simpa using q
 ·by_cases hb:b=a
  ·subst hb;rw[mQ] at q;cases q;refine⟨ho,?_⟩;exact(show aV X.prog X.w H s.heap b (.dK kvs) from I.hok b _ e)
  ·rw[dH hb] at q;exact(I.hok b u q).stay (fun _ _ _ z=>z) (fun c z=>by rw[dH (ne c _ z fun _ w=>by cases w)];exact z) fun c xs z=>by rw[dH (ne c _ z fun _ w=>by cases w)];exact z
def Tr(a:Addr)(o:Obj)(kvs:List (Key×V)):It:=⟨fun i H=>H a=some (.frz o (.dK kvs))/\i<kvs.length,fun i H x H' =>H' =H/\∃k,kvs[i]?=some (k,x),fun i H=>H a=some (.frz o (.dK kvs))/\kvs.length<=i⟩
theorem Lb(I:Inv X pins σ H s)(e:H a=some (.frz o (.dK kvs)))(Bb:∃es,o.data= .dict es ep):∃ws,KV kvs ws/\s.heap.DictAt (jd X.prog X.w) a ws ep:=by
 obtain⟨ho,_,_,ws,kv,o',es,ep',h1,h2,h3,h4⟩:=(show aV X.prog X.w H s.heap a (.frz o (.dK kvs)) from I.hok a _ e);rw[ho] at h1;cases h1;obtain⟨es',h5⟩:=Bb;rw[h3] at h5;cases h5;exact⟨ws,kv,o,es,ho,h2,h3,h4⟩
theorem zt3{P:Program}{w:World}{K:W.Frag}{tg:Expr}(a it:Addr)(o:Obj)(kvs:List (Key×V))(ep:Nat)(Bb:∃es,o.data= .dict es ep):Turn P w K tg (Tr a o kvs) [it] it (fun i h=>h.IsValIter it a i kvs.length ep) where
 mem:=by simp
 obj:=fun i h st b hb=>by
  obtain rfl:b=it:=by simpa using hb
  obtain⟨o,e,c,d⟩:=st;exact⟨o,e,fun v z=>by rw[d] at z;cases z⟩
 keep:=fun i h h' st k=>st.at fun o e=>k it (by simp) o e
 item:=by
  intro X hP hw hK hc i pins s σ H E I hf st hg;subst hP hw hK;obtain⟨hq,hx⟩:=hg;obtain⟨f0,f1,f2,f3,f4,f5⟩:=hf it (by simp)
  obtain⟨ws,kv,hd⟩:=Lb I hq Bb;have hl:=kv.length;rw[hl] at st hx;obtain⟨⟨k,u⟩,hw⟩:∃p,ws[i]?=some p:=⟨ws[i],by simp [hx]⟩
  obtain⟨v,hv,rv⟩:=Ba kv hw;refine wpAny_pyNext_values_item st hd hw fun h' hit' sb=> ?_;have I1:Inv X pins σ H {s with heap:=h'}:=I.turned (t' :=s.toks) (fun b o hb e=>(sb.2 b hb).trans e) f0 f1 f3 f4 f5;obtain⟨o',e,c,d⟩:=id hit';exact⟨u,rfl,Er (s:={s with heap:=h'}) e c d (by decide) ⟨v,H,I1,rv,⟨rfl,k,hv⟩,by rw[hl];exact hit',fun b hb=>(hf b hb).1⟩⟩
 done:=by
  intro X hP hw hK hc i pins s σ H E I hf st hg;subst hP hw hK;obtain⟨hq,hx⟩:=hg;obtain⟨f0,f1,f2,f3,f4,f5⟩:=hf it (by simp)
  obtain⟨ws,kv,hd⟩:=Lb I hq Bb;have hl:=kv.length;rw[hl] at st hx;exact wpAny_pyNext_values_end (I.ok.hd hc) st hd (List.getElem?_eq_none hx) fun h' eb=>⟨rfl,I.turned (t' :=s.toks) (fun b o hb e=>eb b o hb e) f0 f1 f3 f4 f5⟩
 self:=fun _ _ _ _ _ st h=>wpAny_pyIter_valiter st h
def Hs(te:TE):TI:=fun σ H R=>te σ H fun v H1=>∃a kvs,v= .ref a/\H1 a=some (.dK kvs)/\ (kvs.length<=sizeLine ->∀o,R (Tr a o kvs) (upd H1 a (.frz o (.dK kvs))))
theorem zvo(he:PE X e te)(hbase:attributeBase e "values" X.env (eval e X.env)=eval e X.env:=by rfl)(hline:(apos.endLine==cpos.line)=true:=by rfl):
  PI X tg (.Call (.Attribute e "values" apos) [] [] cpos) (Hs te):=by
 intro pins s σ H R I h;refine wpAny_Call_method0_late hbase hline (bG (he pins s σ H _ I h) fun v s1 hq1=> ?_);obtain⟨x,H1,I1,r1,a,kvs,ex,ea,q⟩:=hq1;subst ex;obtain rfl:v=Value.ref a:=r1;obtain⟨hT,hN,hsm⟩:=Pj I1 (.inl ⟨kvs,.inl ea⟩);refine⟨"dict","dict.values",PySem.F.plainAttrs_dict,PySem.F.slot_dict_values,PySem.F.type_dict_values,hT,hN,Calls.callWith_builtin rfl (PySem.evalArgs_none ?_)⟩;obtain⟨hz,_,ws,kv,dd⟩:=Fq I1.hok ea;refine call_meetsIn PySem.F.slot_dict_values hT PySem.F.entry_dict_values (PySem.F.args_dict_values_1 _) (meets_dict_values (jd X.prog X.w) a hsm) ⟨⟨ws,dd⟩,?_⟩;obtain⟨o,es,ep,h1,h2,h3,h4⟩:=id dd;have hm:s1.heap.DictAt (jd X.prog X.w) a ws ep:=⟨o,es,h1,h2,h3,h4⟩;have I2:=Tq I1 ea h1;have vw:(s1.heap.push {cls:= .type "dict_values",data:= .fields #[.ref a]}).IsValuesView s1.heap.objs.size a:=⟨_,zY _ rfl,rfl,rfl⟩;have I3:Inv X pins σ (upd H1 a (.frz o (.dK kvs))) {s1 with heap:=s1.heap.push {cls:= .type "dict_values",data:= .fields #[.ref a]},toks:=s1.toks}:=I2.kept fun b o e=>zZ _ e;refine wpAny_pyIter_values vw (hm.push _) ?_;refine⟨_,[(s1.heap.push {cls:= .type "dict_values",data:= .fields #[.ref a]}).objs.size],_,_,_,rfl,I3.kept (t' :=s1.toks) fun b o e=>zZ _ e,zt3 a _ o kvs ep ⟨es,h3⟩,?_,fun b hb=> ?_,q hz o⟩
 ·rw[kv.length];exact⟨_,zY _ rfl,rfl,rfl⟩
 ·obtain rfl:b=(s1.heap.push {cls:= .type "dict_values",data:= .fields #[.ref a]}).objs.size:=by simpa using hb
  exact I3.fpOk (zM _) (I3.hok.fresh (zM _))
section
variable{K:W.Frag}{F0 H0 F H:Hp}{σ:St}{Γ:List Slot}
theorem SR.chg(R:SR K F0 H0 F H σ Γ)(h2:F a=none)(h3:H0 a=none)(ap:Apart σ Γ a):SR K F0 H0 F (L2.upd H a u) σ Γ:=by
 refine⟨⟨R.gr.f,fun b u q=> ?_,fun b u q=> ?_,fun b o q n=>R.gr.n b o q n⟩,R.len,fun j s' q=> ?_,R.ap⟩
 ·rw[dH (mC q h2)];exact R.g b u q
 ·rw[dH (mC q h3)];exact R.gr.h b u q
 ·obtain⟨o,p1,p2⟩:=R.sl j s' q;refine⟨o,p1,FP p2 (.refl _) fun b hb=>⟨(uV p2 hb).1,fun u q' => ?_⟩⟩;have:b≠a:=fun z=>by subst z;exact ap j ⟨s',o,q,p1,hb⟩
  rw[dH this];exact q'
end
theorem zzu{K:W.Frag}{F:Hp}{a:Addr}{o:Obj}{ks:List Key}{vs:List V}{xs:List D}(e:F a=some (.frz o (.dK (ks.zip vs))))(hkl:ks.length=vs.length)(rs:ak K F xs vs)(hz:(ks.zip vs).length<=sizeLine):wO K F Ad (Tr a o (ks.zip vs)) xs:=by
 have hl:=iu rs;have hlz:(ks.zip vs).length=vs.length:=by rw[List.length_zip,hkl,Nat.min_self]
 refine⟨by omega,fun i H2 F2 s2 s3 _=>⟨fun q=>⟨s3 _ _ (s2 _ _ e),by omega⟩,fun d hd=> ?_⟩⟩
 obtain⟨v,hv,rv⟩:=oH rs hd;have hi:i<vs.length:=(zU.mp hv).1;refine⟨⟨s3 _ _ (s2 _ _ e),by omega⟩,fun y H' z=> ?_⟩
 obtain⟨rfl,k,z⟩:=z;have:=(Hr z).2;rw[hv] at this;cases this;exact⟨F2,Gr.refl s3,rv.up s2⟩
def zsw(tn:jA):bA:=fun Γ P E=>tn Γ (fun t Γ1=>match t with | .dic _ ts=>P (fC ts) Γ1 | _=>False) E
section
variable{X:Cx}{F0 H0:Hp}{e tg:Expr}{apos cpos:Pos}{tn:jA}
open Classical in
theorem zui(he:QN X F0 H0 e tn)(hbase:attributeBase e "values" X.env (eval e X.env)=eval e X.env:=by rfl)(hline:(apos.endLine==cpos.line)=true:=by rfl):
  QI X F0 H0 tg (.Call (.Attribute e "values" apos) [] [] cpos) (zsw tn):=fun z E cx=>Cu (zvo (X:=X.wsh z) (he z E cx) hbase hline) fun σ H R hq2=>by obtain⟨F,Γ,P,S,q,k⟩:=hq2;exact⟨F,Γ,_,S,q,fun t Γ1 F1 H1 v as R1 s1 nd hn r h1=>by
  split at h1
  ·rename_i ks ts;unfold TR at r;obtain⟨a,vs,bs,rfl,rfl,ea,hkl,r⟩:=r;refine⟨a,_,rfl,ea,fun hz o=> ?_⟩;have nab:a∉bs:=(List.nodup_cons.mp nd).1;have sF:Same F1 (fun b=>if b=a then some (.frz o (.dK (ks.zip vs))) else if b∈bs then H1 b else F1 b):=fun b u e=>by
    show(if b=a then some (.frz o (.dK (ks.zip vs))) else if b∈bs then H1 b else F1 b)=some u;rw[if_neg (fun z=>by rw[z,(hn a List.mem_cons_self).1] at e;cases e),if_neg (fun hb=>by rw[(hn b (List.mem_cons_of_mem _ hb)).1] at e;cases e)]
    exact e
   have R2:=(R1.chg (u:= .frz o (.dK (ks.zip vs))) (hn a zW).1 (hn a zW).2.1 (hn a zW).2.2).frzM sF (fun b u e=> ?_) (fun b u e n=> ?_)
   ·refine k _ Γ1 _ _ _ R2 (s1.trans sF) (zzu ?_ hkl (c7.rep sF ts vs bs (fun c hc u hu=> ?_) r) hz) h1
    ·show(if a=a then some (HO.frz o (.dK (ks.zip vs))) else if a∈bs then H1 a else F1 a)=some (HO.frz o (.dK (ks.zip vs)));rw[if_pos rfl]
    ·show(if c=a then some (.frz o (.dK (ks.zip vs))) else if c∈bs then H1 c else F1 c)=some u;rw[if_neg (show¬c=a from fun z=>nab (z ▸ hc)),if_pos hc];exact hu
   ·have e' :(if b=a then some (.frz o (.dK (ks.zip vs))) else if b∈bs then H1 b else F1 b)=some u:=e;by_cases hb:b=a
    ·subst hb;rw[if_pos rfl] at e';rw[mQ];exact e'
    ·rw[if_neg hb] at e';rw[dH hb];split at e'
     ·exact e'
     ·exact R1.g b u e'
   ·have e' :(if b=a then some (.frz o (.dK (ks.zip vs))) else if b∈bs then H1 b else F1 b)=some u:=e;by_cases hb:b=a
    ·subst hb;exact(hn b zW).2
    ·rw[if_neg hb] at e';split at e'
     ·rename_i hm;exact(hn b (zV _ hm)).2
     ·rw[n] at e';cases e'
  ·exact h1.elim⟩
end
theorem xr{K:W.Frag}{F:Hp}{k:Key}{v:V}(h:Rep K F (cG k) v):v=kV k:=by
 cases k with
 | inl i=>unfold cG Rep at h;exact h
 | inr x=>unfold cG Rep at h;exact h
theorem zuu(h:ks.length=vs.length)(k:Key):(dR (ks.zip vs) k).isSome=jk ks k:=by
 unfold dR jk;rw[Option.isSome_map];induction ks generalizing vs with
 | nil=>rfl
 | cons k' ks ih=>
  cases vs with
  | nil=>cases h
  | cons v vs=>
   rw[List.zip_cons_cons,List.find?_cons,List.any_cons];by_cases q:k' =k
   ·simp [q]
   ·simp only [q,decide_false,Bool.false_or];exact ih (by simpa using h)
theorem z4v{ks:List Key}{vs:List V}{k:Key}{v:V}{q:Nat}(nd:ks.Nodup)(h1:ks[q]?=some k)(h2:vs[q]?=some v):dR (ks.zip vs) k=some v:=by
 unfold dR;induction ks generalizing vs q with
 | nil=>simp at h1
 | cons k' ks ih=>
  cases vs with
  | nil=>simp at h2
  | cons u vs=>
   rw[List.zip_cons_cons,List.find?_cons];cases q with
   | zero=>
    have e1:k' =k:=by simpa using h1
    have e2:u=v:=by simpa using h2
    simp [e1,e2]
   | succ q=>
    have hm:k∈ks:=yZ (by simpa using h1)
    have ne:k' ≠k:=fun z=>(List.nodup_cons.mp nd).1 (z ▸ hm);simp only [ne,decide_false];exact ih (List.nodup_cons.mp nd).2 (by simpa using h1) (by simpa using h2)
def Ht(i:Nat)(tk:aK):TT2:=fun Γ P E=>tk Γ (fun kd Γ1=>∃k as ks ts,kd=cG k/\Γ1[i]?=some (.tr as (.dic ks ts))/\P (!jk ks k) Γ1) E
def Hu(i j:Nat)(tn:jA):au:=fun D Γ E=>tn Γ (fun t Γ1=>∃k as ks ts,Γ1[j]?=some (.pu (cG k))/\Γ1[i]?=some (.tr as (.dic ks ts))/\jk ks k=false/\ks.length<sizeLine/\∀cs,D.nx (Γ1.set i (.tr (as++cs) (.dic (ks++ [k]) (ts++ [t]))))) E
def Hv(i j l:Nat)(tv:aK):au:=fun D Γ E=>tv Γ (fun d Γ1=>∃k k2 as ks ts q Bc xs,Γ1[j]?=some (.pu (cG k))/\Γ1[l]?=some (.pu (cG k2))/\Γ1[i]?=some (.tr as (.dic ks ts))/\ks.Nodup/\ks[q]?=some k/\
 ts[q]?=some (.dic Bc (xs.map .leaf))/\Bc.length<sizeLine/\D.nx (Γ1.set i (.tr as (.dic ks (ts.set q (.dic (eE Bc k2) ((cA Bc xs k2 d).map .leaf))))))) E
section
variable{X:Cx}{F0 H0:Hp}{ke value:Expr}{pos npos o8 xu pos' pos2:Pos}{x y w:Str}{i j l:Nat}{tk tv:aK}{tn:jA}
theorem z51(hu:X.A.units+1<cLine)(hk:QE X F0 H0 ke tk)(hN:X.N[i]?=some x)(hv:pN X.env.scope x)(hd:(x==("__debug__" :Str))=false:=by decide)(hcd:(x==("__classdict__" :Str))=false:=by decide)
  (hb:behindInMarks .NotIn (.Name x npos)=false:=by with_unfolding_all rfl):
  QT X F0 H0 (.Compare ke [.NotIn] [.Name x npos] pos) (Ht i tk):=fun z E cx=>
 Ge (Wy (X:=X.wsh z) (zvg (X:=X.wsh z) hu (hk z E cx) (sH (X:=X.wsh z) (i:=i) hN hv hd hcd)) hb) fun σ H Q hq1=>by obtain⟨F,Γ,P,R,h,k⟩:=hq1;exact⟨F,Γ,_,R,h,fun kd Γ1 F1 H1 v R1 s1 rk hq2=>by
  obtain⟨kk,as,ks,ts,e1,e2,h1⟩:=hq2;subst e1;have ev:=xr rk;subst ev;obtain⟨o,e3,w,rfl,nd,hn,r⟩:=R1.sl i _ e2;unfold TR at r;obtain⟨a,vs,bs,rfl,rfl,ea,hkl,r⟩:=r;refine⟨.ref a,e3,a,_,rfl,iB.k (k:=kk) ea,_,rfl,?_⟩;rw[zuu hkl];exact k _ _ _ _ R1 s1 h1⟩
theorem z55(hu:X.A.units+1<cLine)(hN:X.N[i]?=some x)(hv:pN X.env.scope x)(Tt:X.N[j]?=some y)(hv2:pN X.env.scope y)(hval:QN X F0 H0 value tn)(hs:swapsWith value (some (.Subscript (.Name x npos) (.Name y o8) pos')) pos.line X.env=pure false:=by rfl)
  (hd:(x==("__debug__" :Str))=false:=by decide) (hcd:(x==("__classdict__" :Str))=false:=by decide) (hd2:(y==("__debug__" :Str))=false:=by decide) (Bd:(y==("__classdict__" :Str))=false:=by decide):
  QS X F0 H0 (.Assign [.Subscript (.Name x npos) (.Name y o8) pos'] value pos) (Hu i j tn):=fun z E cx=>
 n6 (Pb (X:=X.wsh z) hu (sH (X:=X.wsh z) (i:=i) hN hv hd hcd) (sH (X:=X.wsh z) (i:=j) Tt hv2 hd2 Bd) (hval z E cx) hs) fun Dn σ H rD=>by obtain⟨F,Γ,D2,R,h,k⟩:=rD;exact⟨F,Γ,_,R,h,fun t Γ1 F1 H1 v cs R1 s1 ndc hnc rt oK=>by
  obtain⟨kk,as,ks,ts,e1,e2,hh,hl,q⟩:=oK;obtain⟨o,e3,w,rfl,nd,hn,r⟩:=R1.sl i _ e2;obtain⟨o2,e4,w2,rfl,rk⟩:=R1.sl j _ e1;have ev:=xr rk;subst ev;unfold TR at r;obtain⟨a,vs,bs,rfl,rfl,ea,hkl,r⟩:=r;refine⟨.ref a,e3,kV kk,e4,a,_,rfl,oF.k (k:=kk) ea (by rw[List.length_zip,<- hkl,Nat.min_self];exact hl),?_⟩
  have own:∀b∈a::bs,jg Γ1 σ i b:=fun b hb=>⟨_,_,e2,e3,hb⟩;have dis:∀b∈a::bs,b∉cs:=fun b hb hc=>(hnc b hc).2.2 i (own b hb);have nab:a∉bs:=(List.nodup_cons.mp nd).1;rw[SX hkl];unfold eE cA;rw[if_neg (by rw[hh];decide),if_neg (by rw[hh];decide)]
  refine k.nx _ _ _ _ (R1.wrT e2 e3 (show eZ (Slot.tr (a::bs) (.dic ks ts)) (some (.ref a)) a from zW) (t:= .tr (a::bs++cs) (.dic (ks++ [kk]) (ts++ [t]))) ⟨_,rfl,?_,fun b hb=> ?_,?_⟩ fun b hb=> ?_) s1 (q cs)
  ·exact List.nodup_append.mpr ⟨nd,ndc,fun x hx y hy e=>dis x hx (e ▸ hy)⟩
  ·rcases zR.mp hb with hb | hb
   ·exact hn b hb
   ·exact⟨(hnc b hb).1,(hnc b hb).2.1⟩
  ·unfold TR;refine⟨a,vs++ [v],bs++cs,rfl,rfl,mQ,by simp [hkl],?_⟩
   have m:=c7.move (H' :=upd H1 a (.dK ((ks++ [kk]).zip (vs++ [v])))) (.refl _) ts vs bs (fun b hb u q=>by rw[dH (show b≠a from fun z=>nab (z ▸ hb))];exact q) r
   have l:=TR.move (H' :=upd H1 a (.dK ((ks++ [kk]).zip (vs++ [v])))) (.refl _) t v cs (fun b hb u q=>by rw[dH (show b≠a from fun z=>dis a List.mem_cons_self (z ▸ hb))];exact q) rt
   exact ZS m (z3x l)
  ·rcases zR.mp hb with hb | hb
   ·exact .inl hb
   ·exact .inr (hnc b hb).2.2⟩
theorem z4x(hu:X.A.units+1<cLine)(hN:X.N[i]?=some x)(hv:pN X.env.scope x)(Tt:X.N[j]?=some y)(hv2:pN X.env.scope y)(hN3:X.N[l]?=some w)(hv3:pN X.env.scope w)(hval:QE X F0 H0 value tv)
  (hs:swapsWith value (some (.Subscript (.Subscript (.Name x npos) (.Name y o8) pos2) (.Name w xu) pos')) pos.line X.env=pure false:=by rfl)
  (hd:(x==("__debug__" :Str))=false:=by decide) (hcd:(x==("__classdict__" :Str))=false:=by decide) (hd2:(y==("__debug__" :Str))=false:=by decide) (Bd:(y==("__classdict__" :Str))=false:=by decide)
  (hd3:(w==("__debug__" :Str))=false:=by decide) (Tv:(w==("__classdict__" :Str))=false:=by decide) (hns:vL (.Name y o8):=by exact fun _ _=>rfl):
  QS X F0 H0 (.Assign [.Subscript (.Subscript (.Name x npos) (.Name y o8) pos2) (.Name w xu) pos'] value pos) (Hv i j l tv):=fun z E cx=>
 n6 (Pb (X:=X.wsh z) hu (XC (X:=X.wsh z) hu (sH (X:=X.wsh z) (i:=i) hN hv hd hcd) (sH (X:=X.wsh z) (i:=j) Tt hv2 hd2 Bd) hns) (sH (X:=X.wsh z) (i:=l) hN3 hv3 hd3 Tv) (hval z E cx) hs) fun Dn σ H uX=>by obtain⟨F,Γ,D2,R,h,k⟩:=uX;exact⟨F,Γ,_,R,h,fun d Γ1 F1 H1 v R1 s1 rd zc=>by
  obtain⟨kk,k2,as,ks,ts,q,Bc,xs,e1,e1',e2,ndk,hq,ht,hl,hnx⟩:=zc;obtain⟨o,e3,w,rfl,nd,hn,r⟩:=R1.sl i _ e2;obtain⟨o2,e4,w2,rfl,rk⟩:=R1.sl j _ e1;obtain⟨o3,e5,w3,rfl,rk2⟩:=R1.sl l _ e1';have ev:=xr rk;subst ev;have ev:=xr rk2;subst ev;unfold TR at r;obtain⟨a,vs,bs,rfl,rfl,ea,hkl,r⟩:=r;obtain⟨u,b1,bs',b2,hu',hbs,rc,back⟩:=ZV r ht;subst hbs;unfold TR at rc;obtain⟨c,us,ds,rfl,rfl,ec,Bf,rc⟩:=rc;obtain⟨rfl,rs⟩:=S5 rc;have nab:a∉b1++ ([c]++b2):=(List.nodup_cons.mp nd).1;have nd2:=(List.nodup_cons.mp nd).2;have hac:a≠c:=fun z=>nab (by simp [z])
  have hc1:∀b∈b1++b2,b≠c:=fun b hb z=>by
   subst z;have p:=List.nodup_append.mp nd2;rcases zR.mp hb with hb | hb
   ·exact p.2.2 b hb b (by simp) rfl
   ·have:=(List.nodup_cons.mp p.2.1).1;exact this hb
  have gd:iB H1 a (kV kk) (some (.ref c)):=by
   have:=iB.k (k:=kk) ea
   rwa [z4v ndk hq hu'] at this
  refine⟨.ref a,e3,kV kk,e4,a,.ref c,rfl,gd,kV k2,e5,c,_,rfl,oF.k (k:=k2) ec (by rw[List.length_zip,<- Bf,Nat.min_self];exact hl),?_⟩
  rw[SX Bf];refine k.nx _ _ _ _ (R1.wrT e2 e3 (show eZ (Slot.tr (a::(b1++ ([c]++b2))) (.dic ks ts)) (some (.ref a)) c from by show c∈_;simp) (t:= .tr (a::(b1++ ([c]++b2))) (.dic ks (ts.set q (.dic (eE Bc k2) ((cA Bc xs k2 d).map .leaf))))) ⟨_,rfl,nd,hn,?_⟩ fun b hb=> .inl hb) s1 hnx
  unfold TR;refine⟨a,vs,b1++ ([c]++b2),rfl,rfl,by rw[dH hac];exact ea,hkl,?_⟩
  refine back (.refl _) (fun b hb u q=>by rw[dH (hc1 b hb)];exact q) ?_
  unfold TR;exact⟨c,_,[],rfl,rfl,mQ,Z6 Bf,K5 (Z8 rs rd)⟩⟩
end
def aad(i:Nat):au:=fun D Γ _=>∃as ts,Γ[i]?=some (.tr as (.lst ts))/\D.nx (Γ.set i .no)
section
variable{X:Cx}{F0 H0:Hp}{pos npos apos cpos:Pos}{x:Str}{i:Nat}
end
abbrev vf:=T ->List D ->(T ->D ->Prop) ->(T ->Value ->Prop) ->Prop
def qQ(as:List Addr)(H:Hp):Hp:=fun b=>if b∈as then none else H b
def uf(K:W.Frag)(sp:vf):Sp:=fun vs H Q E=>∃F a bs t ds rest P Ex,vs=V.ref a::rest/\Same F H/\ (a::bs).Nodup/\ (∀b∈a::bs,F b=none)/\TR K F H t (.ref a) (a::bs)/\ak K F ds rest/\sp t ds P Ex/\
 (∀t' d v cs F' H',Gr F (qQ (a::bs) H) F' H' ->(a::cs).Nodup ->(∀b∈a::cs,F' b=none/\qQ (a::bs) H b=none) ->TR K F' H' t' (.ref a) (a::cs) ->Rep K F' d v ->P t' d ->Q v H')/\
 ∀C t' cs F' H',Gr F (qQ (a::bs) H) F' H' ->(a::cs).Nodup ->(∀b∈a::cs,F' b=none/\qQ (a::bs) H b=none) ->TR K F' H' t' (.ref a) (a::cs) ->Ex t' C ->E C none H'
def startM(n:Nat)(s:Slot)(ds:List D):G2:=s::(ds.map .pu++List.replicate (n - 1 - ds.length) .no)
section
variable{K:W.Frag}{F0 H0 F H F' H' :Hp}{σ:St}{Γ:List Slot}
end
structure abk (P:Program) (w:World) (K:W.Frag) (mg:Str ->Option Value) (base:Heap) (x:Str) (k:Nat) (ps:List Str) (sp:vf):Prop where
 ex:∃f fd,eY P w K mg base (iw P w) k f fd ps (uf K sp)/\mg x=some (.ref f)/\W.keepIn K (.ref f)=true/\Binds K fd ps []
structure abl (P:Program) (w:World) (K:W.Frag) (mg:Str ->Option Value) (base:Heap) (C:Addr) (m:Str) (k:Nat) (ps:List Str) (sp:vf):Prop where
 ex:∃f fd,eY P w K mg base (iw P w) k f fd ps (uf K sp)/\Meth K C m f/\Binds K fd ps []
abbrev abm(a:Addr)(Q:T ->D ->Prop):lB:={nx:=fun Γ=>∃cs t',Γ[0]?=some (.tr (a::cs) t')/\Q t' .non,rt:=fun _=>False,rm:=fun d Γ=>∃cs t',Γ[0]?=some (.tr (a::cs) t')/\Q t' d}
abbrev abn(a:Addr)(Ex:T ->Value ->Prop):XW:=fun Γ C=>∃cs t',Γ[0]?=some (.tr (a::cs) t')/\Ex t' C
section
variable{P:Program}{w:World}{K:W.Frag}{mg:Str ->Option Value}{base:Heap}
end
def aae(te:aK):au:=fun D Γ E=>te Γ (fun d Γ1=>D.rm d Γ1) E
def Tw(C:Addr)(m:Str)(i:Nat)(sp:vf)(t:bA):aK:=fun Γ P E=>(∃as fs ts,Γ[i]?=some (.tr as (.ob C fs ts))/\m∉fs)/\t Γ (fun ds Γ1=>∃a bs tt,Γ1[i]?=some (.tr (a::bs) tt)/\sp tt ds (fun t' d=>∀cs,P d (Γ1.set i (.tr (a::cs) t'))) fun t' Cx=>∀cs,E (Γ1.set i (.tr (a::cs) t')) Cx) E
def Tz(i:Nat)(sp:vf)(t:bA):aK:=fun Γ P E=>(∃a bs tt,Γ[i]?=some (.tr (a::bs) tt))/\t Γ (fun ds Γ1=>∃a bs tt,Γ1[i]?=some (.tr (a::bs) tt)/\sp tt ds (fun t' d=>∀cs,P d (Γ1.set i (.tr (a::cs) t'))) fun t' Cx=>∀cs,E (Γ1.set i (.tr (a::cs) t')) Cx) E
section
variable{X:Cx}{F0 H0:Hp}{e:Expr}{es:List Expr}{pos p apos:Pos}{x m:Str}{C f:Addr}{fd:FuncData}{ps:List Str}{k i:Nat}{sp:vf}{te:aK}{t:bA}
end
def jl(h:Heap)(d:Addr)(es:Array DictEntry)(ep:Nat):Prop:=∃o,h.get? d=some o/\o.ExactDict/\o.data= .dict es ep
theorem jl.at(x:jl h d es ep)(k:∀o,h.get? d=some o ->h'.get? d=some o):jl h' d es ep:=let ⟨o,e,r⟩:=x;⟨o,k o e,r⟩
theorem jl.lt(x:jl h d es ep):d<h.objs.size:=let ⟨_,e,_⟩:=x;zG e
theorem jl.typeIs{s:Shared}{d:Addr}{es:Array DictEntry}{ep:Nat}(x:jl s.heap d es ep):s.TypeIs (.ref d) "dict" :=let ⟨o,e,c,_⟩:=x;⟨o,e,c.1⟩
section
variable{prog:Program}{w:World}{A:Around}{E:bL}{s:Shared}{d it:Addr}{es:Array DictEntry}{ep i:Nat}
theorem zzw{Q:bL}(hd:(d==sysModules)=false)(hm:jl s.heap d es ep)
  (hQ:Q (.ref s.heap.objs.size) {s with heap:=s.heap.push {cls:= .type "dict_keyiterator",data:= .fields #[.ref d,.int 0 0,.int es.size 0,.int ep 0]}}):wpAny (model prog w) A (pyIter (.ref d)) Q E s:=by
 obtain⟨o,ho,hc,hdat⟩:=id hm;have hT:=hm.typeIs;refine wpAny_pyIter_slot hT PySem.F.slot_dict_iter (wpAny_call_entry PySem.F.slot_dict_iter hT PySem.F.entry_dict_iter ?_ (PySem.F.args_dict_iter_1 _));unfold Builtin.«dict.__iter__»;refine z8 ?_;unfold Builtin.Dict.dictSlotNone;refine z8 (wpAny_notOrdered_dict hT ?_);show wpAny _ _ (pure (Value.ref d)) _ _ s;refine z9 ?_;show wpAny _ _ (Builtin.Dict.showsAll d>>=_) _ _ s;unfold Builtin.Dict.showsAll;rw[if_neg (by rw[hd];exact Bool.false_ne_true)]
 refine z8 (z9 ?_);refine z8 (wpAny_dictEntries ho hdat ?_);refine z8 (wpAny_dictEpoch ho hdat ?_);refine z8 (wpAny_newObj_type (z9 ⟨_,rfl,"dict_keyiterator",_,⟨_,zY _ rfl,rfl⟩,PySem.F.slot_dict_keyiterator_next.lookup,?_⟩))
 simpa [rawInt] using hQ
theorem z0c(hit:s.heap.IsKeyIter it d i es.size ep)(hm:jl s.heap d es ep)(hlt:i<es.size)
  (hQ:∀h',h'.IsKeyIter it d (i+1) es.size ep ->Heap.SameBut it s.heap h' ->Q (some es[i].key) {s with heap:=h'}):wpAny (model prog w) A (pyNext (.ref it)) Q E s:=by
 obtain⟨o,ho,hc,hd⟩:=id hit;obtain⟨od,hod,hcd,hdd⟩:=id hm;unfold pyNext;refine z8 (wpAny_attempt (wpAny_callSpecial?_slot (name:=Str.ofString "__next__") hit.typeIs PySem.F.slot_dict_keyiterator_next
  (wpAny_call_entry PySem.F.slot_dict_keyiterator_next hit.typeIs PySem.F.entry_dict_keyiterator_next ?_ (PySem.F.args_dict_keyiterator_next_1 _))))
 refine z8 (z9 ?_);refine z8 ?_;refine z8 ?_;refine z8 (wpAny_typeNameOfWhole_keyiter hit.typeIs (z9 ?_));refine z8 (wpAny_fieldsOf ho hd ?_);have hown:Builtin.Dict_items.ownsTuple "dict_keyiterator" =false:=by decide
 simp only [hown,Bool.false_eq_true,if_false];show wpAny _ _ (if (Value.ref d==Value.none)=true then _ else _) _ _ s;rw[if_neg (show¬((Value.ref d==Value.none)=true) from Bool.false_ne_true)];refine z8 (z9 ?_);refine z8 (wpAny_dictEntries hod hdd ?_);rw[if_neg (by simp)]
 refine z8 (z9 ?_);refine z8 (wpAny_dictEpoch hod hdd ?_);rw[if_neg (by simp)]
 refine z9 ?_;simp only [show¬((i:Int)<0) from by omega,if_false,Int.toNat_natCast,Array.getElem?_eq_getElem hlt]
 refine z8 ?_;refine z8 (wpAny_typeNameOfWhole_keyiter hit.typeIs (z9 ?_));refine z8 (wpAny_isOneOf_keyiter hit.typeIs ?_);show wpAny _ _ (setField (.ref it) 1 (rawInt ((i:Int)+1))>>=_) _ _ s;refine z8 (wpAny_setField ho hd (by simp) ?_)
 have hit' :(s.heap.update it (Obj.mapFields (·.setIfInBounds 1 (rawInt ((i:Int)+1))))).IsKeyIter it d (i+1) es.size ep:=
  ⟨_,Heap.get?_update_self _ ho (Obj.isFreed_of_fields (Obj.data_mapFields hd _)),(Obj.cls_mapFields ..).trans hc,by rw[Obj.data_mapFields hd];simp [rawInt]⟩
 refine z8 (wpAny_holding ?_);refine z8 (wpAny_isOneOf_keyiter (s:={s with heap:=s.heap.update it (Obj.mapFields (·.setIfInBounds 1 (rawInt ((i:Int)+1))))}) hit'.typeIs ?_);show wpAny _ _ (pure es[i].key) _ _ _;exact z9 (z9 ⟨_,rfl,z9 (hQ _ hit' (Heap.SameBut.update ..))⟩)
theorem z1t(hh:A.handled=none)(hit:s.heap.IsKeyIter it d i es.size ep)(hm:jl s.heap d es ep)(hge:es.size<=i)
  (hQ:∀h',Heap.ExtBut it s.heap h' ->Q none {s with heap:=h'}):wpAny (model prog w) A (pyNext (.ref it)) Q E s:=by
 obtain⟨o,ho,hc,hd⟩:=id hit;obtain⟨od,hod,hcd,hdd⟩:=id hm;unfold pyNext;refine z8 (wpAny_attempt (wpAny_callSpecial?_slot (name:=Str.ofString "__next__") hit.typeIs PySem.F.slot_dict_keyiterator_next
  (wpAny_call_entry PySem.F.slot_dict_keyiterator_next hit.typeIs PySem.F.entry_dict_keyiterator_next ?_ (PySem.F.args_dict_keyiterator_next_1 _))))
 refine z8 (z9 ?_);refine z8 ?_;refine z8 ?_;refine z8 (wpAny_typeNameOfWhole_keyiter hit.typeIs (z9 ?_));refine z8 (wpAny_fieldsOf ho hd ?_);have hown:Builtin.Dict_items.ownsTuple "dict_keyiterator" =false:=by decide
 simp only [hown,Bool.false_eq_true,if_false];show wpAny _ _ (if (Value.ref d==Value.none)=true then _ else _) _ _ s;rw[if_neg (show¬((Value.ref d==Value.none)=true) from Bool.false_ne_true)];refine z8 (z9 ?_);refine z8 (wpAny_dictEntries hod hdd ?_);rw[if_neg (by simp)]
 refine z8 (z9 ?_);refine z8 (wpAny_dictEpoch hod hdd ?_);rw[if_neg (by simp)]
 refine z9 ?_;simp only [show¬((i:Int)<0) from by omega,if_false,Int.toNat_natCast,Array.getElem?_eq_none hge]
 refine z8 ?_;refine z8 (wpAny_typeNameOfWhole_keyiter hit.typeIs (z9 ?_));show wpAny _ _ (setField (.ref it) 0 .none>>=_) _ _ s;refine z8 (wpAny_setField ho hd (by simp) ?_)
 show wpAny _ _ (newExc (.type "StopIteration") []>>=_) _ _ _;refine z8 ?_;simp only [newExc,newTuple];refine z8 (wpAny_newObj_type ?_ (by size_fits))
 refine z8 (m:=firstArgMember _ _) (wpAny_of_eq (a:=Value.none) (by first | rfl | (simp only [firstArgMember];rfl)) ?_)
 refine wpAny_newObj_type ?_ (by size_fits)
 simp only [raiseNew];refine z8 (wpAny_handled ?_);rw[show A.in1.handled=none from hh];refine z8 (z9 (wpAny_throw ?_));refine z8 (wpAny_isInstance (T:= "StopIteration") (b:=true) ⟨_,zY _ rfl,rfl⟩ isSubtype_stop ?_);exact z9 (hQ _ (((Heap.SameBut.update ..).extBut.push _).push _))
theorem zwc(hh:A.handled=none)(I d:Addr)(hne:d≠I)(es:Array DictEntry)(ep:Nat):
  Walks prog w A I [I,d] [I] es.size (fun i v=>∃h:i<es.size,v=es[i].key) (fun i h=>h.IsKeyIter I d i es.size ep/\jl h d es ep) where
 sub:=fun b hb=>by simp at hb;simp [hb]
 frame:=fun _ _ _ st hk=>⟨st.1.at fun o e=>hk I (by simp) o e,st.2.at fun o e=>hk d (by simp) o e⟩
 item:=fun i s Q E hi st hQ=>z0c st.1 st.2 hi fun h' hit' hs' =>hQ _ h' s.toks ⟨hi,rfl⟩ ⟨hit',st.2.at fun o e=>hs'.extBut d o hne e⟩ fun b o hb e=>hs'.extBut b o (fun h=>hb (by simp [h])) e
 done:=fun s Q E st hQ=>z1t hh st.1 st.2 (zM _) fun h' he' =>hQ h' s.toks fun b o hb e=>he' b o (fun h=>hb (by simp [h])) e
 self:=fun _ _ _ _ st hQ=>wpAny_pyIter_keyiter st.1 hQ
theorem zp9{Q:List Value ->Shared ->Prop}(hh:A.handled=none)(hsm:(d==sysModules)=false)(hm:jl s.heap d es ep)(hb:es.size<=sizeLine)
  (h:∀(vals:List Value) (h' :Heap) tk,vals=es.toList.map (·.key) ->s.heap.objs.size<h'.objs.size ->(∀b ob,s.heap.get? b=some ob ->h'.get? b=some ob) ->Q vals {s with heap:=h',toks:=tk}):
  wpAny (model prog w) A (collect (.ref d)) Q E s:=by
 have K:W.KdlSrc prog w "dict" d d es.size (fun i v=>∃h:i<es.size,v=es[i].key) (fun h=>jl h d es ep):={
  type:=fun _ hm=>hm.typeIs
  there:=fun _ hm=>⟨hm.lt,hm.lt⟩
  keep:=fun _ _ hm hk=>hm.at fun o e=>hk d (.inl rfl) o e
  notList:=by decide
  notTuple:=by decide
  hint:=fun _ _ _ _ hm hq=>W.kdl_hint_dict hm.typeIs hq
  iter:=fun _ _ hh hm=>⟨_,_,(fun _ _ hq=>zzw hsm hm hq),zwc hh _ d (zJ hm.lt) es ep,⟨⟨_,zY _ rfl,rfl,rfl⟩,hm.at fun o e=>zZ _ e⟩⟩}
 unfold collect;have key:codeAny (model prog w) A (.builtin "proto.collect" ⟨[.ref d],[]⟩) (fun r s' =>∃h' tk acc c',r= .ok (.ret (.ref s.heap.objs.size))/\s' ={s with heap:=h',toks:=tk}/\ (∀b o,b≠s.heap.objs.size ->(s.heap.push fj).get? b=some o ->h'.get? b=some o)/\h'.get? s.heap.objs.size=some {cls:= .type "list",dict:=none,data:= .seq acc c',slots:= #[]}/\ItemsOf (fun i v=>∃h:i<es.size,v=es[i].key) acc es.size) s:=by
  refine codeAny_builtin PySem.F.entry_proto_collect ?_;rw[Around.under_plainId PySem.F.plain_proto_collect _];show wpAny _ _ (newList []>>=fun l=>again (.builtin "list.__iadd__" ⟨[l,.ref d],[]⟩)) _ _ _;refine z8 (m:=newList []) (wpAny_newObj_type ?_);refine z9 (α:=_) ⟨plainId_quiet PySem.F.plain_list_iadd _,codeAny_builtin PySem.F.entry_list_iadd ?_⟩;rw[Around.under_plainId PySem.F.plain_list_iadd _];have hm1:jl (s.heap.push fj) d es ep:=hm.at fun o e=>zZ _ e;have hSl:=hm.lt;have hS:(s.heap.push fj).get? s.heap.objs.size=some fj:=zY _ rfl;show wpAny _ _ (Builtin.List.listExtendWith (.ref s.heap.objs.size) (.ref d) (.ref s.heap.objs.size)) _ _ _;exact W.kdl_extend (s:={s with heap:=s.heap.push fj}) (R:=fun r s' =>∃h' tk acc c',r= .ok (.ret (.ref s.heap.objs.size))/\s' ={s with heap:=h',toks:=tk}/\ (∀b o,b≠s.heap.objs.size ->(s.heap.push fj).get? b=some o ->h'.get? b=some o)/\h'.get? s.heap.objs.size=some {cls:= .type "list",dict:=none,data:= .seq acc c',slots:= #[]}/\ItemsOf (fun i v=>∃h:i<es.size,v=es[i].key) acc es.size) K hh hm1 s.heap.objs.size (Nat.ne_of_gt hSl) (Nat.ne_of_gt hSl) (.ref s.heap.objs.size) 0 hS (fun h' tk acc c' hold hS' hacc=>⟨h',tk,acc,c',rfl,rfl,hold,hS',hacc⟩) hb
 refine z8 (m:=runValue _) (wpAny_runValue (codeAny_mono key fun r s' hq1=> ?_));obtain⟨h',tk,acc,c',er,es',hold,hS',hacc⟩:=hq1;subst er es';show wpAny _ _ (load s.heap.objs.size>>=_) _ _ _;refine z8 (m:=load _) (wpAny_load hS' ?_);refine z9 (α:=_) ?_;refine h acc.toList h' tk ?_ (zG hS') fun b ob e=>hold b ob (zJ (zG e)) (zZ _ e);apply List.ext_getElem
 ·rw[Array.length_toList,List.length_map,Array.length_toList];exact hacc.1
 ·intro j q1 q2;have hj:j<acc.size:=by simpa using q1
  obtain⟨hlt,e⟩:=hacc.2 j acc[j] (by simp [hj])
  simp [e]
end
section
variable{κ:Type}[DecidableEq κ]
variable{prog:Program}{w:World}{knd:HeapKind prog w κ}{A:Around}{E:bL}{s:Shared}{d a:Addr}{xs:List (κ×Addr×Value)}{k:κ}{p:Addr×Value}
end
def ug(K:W.Frag)(H:Hp)(y:V)(k:List Key):Prop:=∃b,y= .ref b/\je K H b (k.map kV)
section
variable{X:Cx}{pins:bD}{σ:St}{H:Hp}{s:Shared}{a:Addr}{y v:V}{u r:Value}{A:Around}{E:bL}{kvs:List (List Key×V)}{k:List Key}
end
def TF(K:W.Frag)(td ty:TE):TE:=fun σ H Q=>td σ H fun x H1=>ty σ H1 fun y H2=>∃a kvs k v,x= .ref a/\Rd H2 a (.dT kvs)/\ug K H2 y k/\dR kvs k=some v/\Q v H2
def aaf(K:W.Frag)(neg:Bool)(ty td:TE):TE:=fun σ H Q=>ty σ H fun y H1=>td σ H1 fun x H2=>∃a kvs k,x= .ref a/\Rd H2 a (.dT kvs)/\ug K H2 y k/\Q (.bl (if neg then !(dR kvs k).isSome else(dR kvs k).isSome)) H2
def TJ(K:W.Frag)(td ty:TE):TE:=fun σ H Q=>td σ H fun x H1=>∃a,x= .ref a/\Ce H1 a/\ty σ H1 fun y H2=>∃kvs k v,H2 a=some (.dT kvs)/\ug K H2 y k/\dR kvs k=some v/\Q v (upd H2 a (.dT (qG kvs k)))
section
variable{X:Cx}{o i e:Expr}{pos apos cpos:Pos}{td ty:TE}
end
def rN(ks:List (List Key))(k:List Key):Bool:=ks.any fun k' =>decide (k' =k)
def o9{α:Type}:List (List Key) ->List α ->List Key ->Option α
 | k' ::ks,x::xs,k=>if k' =k then some x else o9 ks xs k
 | _,_,_=>none
def putL(ks:List (List Key))(k:List Key):List (List Key):=if rN ks k=true then ks else ks++ [k]
def xG{α:Type}(ks:List (List Key))(xs:List α)(k:List Key)(x:α):List α:=if rN ks k=true then List.zipWith (fun k' y=>if k' =k then x else y) ks xs else xs++ [x]
def nH{α:Type}:List (List Key) ->List α ->List Key ->List α
 | k' ::ks,x::xs,k=>if k' =k then nH ks xs k else x::nH ks xs k
 | _,_,_=> []
def xH(ks:List (List Key))(k:List Key):List (List Key):=ks.filter fun k' =>decide (k' ≠k)
def abo:D ->D ->(D ->Prop) ->Prop:=fun x y P=>match x,y with | .iC ks xs,.tup ds=>∃k d,ds=k.map cG/\o9 ks xs k=some d/\P d | _,_=>False
section
variable{X:Cx}{F0 H0:Hp}{a b:Expr}{pos:Pos}{ta tb:aK}
end
def pq:List Str ->List T ->Str ->Option T
 | f::fs,t::ts,g=>if g=f then some t else pq fs ts g
 | _,_,_=>none
def uh :List Str ->List T ->Str ->T ->List T
 | f::fs,t::ts,g,t' =>if g=f then t' ::ts else t::uh fs ts g t'
 | _,ts,_,_=>ts
def aag(C:Addr)(i:Nat)(f:Str):aK:=fun Γ P _=>∃as fs ts d,Γ[i]?=some (.tr as (.ob C fs ts))/\pq fs ts f=some (.leaf d)/\P d Γ
def abp(C:Addr)(neg:Bool)(i:Nat)(f:Str)(tk:aK):TT2:=fun Γ P E=>tk Γ (fun kd Γ1=>∃k as fs ts ks us,kd= .tup (k.map cG)/\Γ1[i]?=some (.tr as (.ob C fs ts))/\pq fs ts f=some (.iC ks us)/\P (if neg then !rN ks k else rN ks k) Γ1) E
def aah(C:Addr)(i:Nat)(f:Str)(j l:Nat)(tv:aK):au:=fun D Γ E=>tv Γ (fun d Γ1=>∃k1 k2 as fs ts ks xs,Γ1[j]?=some (.pu (cG k1))/\Γ1[l]?=some (.pu (cG k2))/\Γ1[i]?=some (.tr as (.ob C fs ts))/\pq fs ts f=some (.iC ks (xs.map .leaf))/\ks.length<sizeLine/\
 D.nx (Γ1.set i (.tr as (.ob C fs (uh fs ts f (.iC (putL ks [k1,k2]) ((xG ks xs [k1,k2] d).map .leaf))))))) E
def aai(C:Addr)(i:Nat)(f:Str)(j l:Nat):au:=fun D Γ _=>∃k1 k2 as fs ts ks xs d,Γ[j]?=some (.pu (cG k1))/\Γ[l]?=some (.pu (cG k2))/\Γ[i]?=some (.tr as (.ob C fs ts))/\pq fs ts f=some (.iC ks (xs.map .leaf))/\o9 ks xs [k1,k2]=some d/\
 D.nx (Γ.set i (.tr as (.ob C fs (uh fs ts f (.iC (xH ks [k1,k2]) ((nH ks xs [k1,k2]).map .leaf))))))
section
variable{X:Cx}{F0 H0:Hp}{ke value e:Expr}{es:List Expr}{pos npos abq apos cpos pos' x1:Pos}{x f:Str}{C:Addr}{i:Nat}{tk tv:aK}{tf:bA}
end
def nDT:jA:=fun Γ P _=>P (.iC [] []) Γ
def aaj(C:Addr)(i:Nat)(f:Str)(te:aK):au:=fun D Γ E=>te Γ (fun d Γ1=>∃as fs ts,Γ1[i]?=some (.tr as (.ob C fs ts))/\f∉fs/\fs.length<1000/\sZ (fs++ [f])=true/\D.nx (Γ1.set i (.tr as (.ob C (fs++ [f]) (ts++ [.leaf d]))))) E
def TQ(C:Addr)(i:Nat)(f:Str)(tn:jA):au:=fun D Γ E=>tn Γ (fun t Γ1=>∃as fs ts,Γ1[i]?=some (.tr as (.ob C fs ts))/\f∉fs/\fs.length<1000/\sZ (fs++ [f])=true/\∀cs,D.nx (Γ1.set i (.tr (as++cs) (.ob C (fs++ [f]) (ts++ [t]))))) E
section
variable{X:Cx}{F0 H0:Hp}{value e:Expr}{es:List Expr}{pos npos pos' p:Pos}{x f:Str}{C fa:Addr}{fd:FuncData}{ps:List Str}{i k:Nat}{te:aK}{tn:jA}{sp:vf}{t:bA}
def TV(C:Addr)(sp:vf)(t:bA):jA:=fun Γ P E=>t Γ (fun ds Γ1=>sp (.ob C [] []) ds (fun t' _=>P t' Γ1) fun _ Cx=>E Γ1 Cx) E
structure abr (P:Program) (w:World) (K:W.Frag) (mg:Str ->Option Value) (base:Heap) (x:Str) (C:Addr) (k:Nat) (ps:List Str) (sp:vf):Prop where
 ex:∃f fd,eY P w K mg base (iw P w) k f fd ps (uf K sp)/\Mk K C f/\mg x=some (.ref C)/\Binds K fd ps []
 non:∀ds Q Ex,sp (.ob C [] []) ds Q Ex ->sp (.ob C [] []) ds (fun t d=>d= .non/\Q t d) Ex
end
def TX(C:Addr)(m:Str)(sp:cO)(te:aK):aK:=fun Γ P E=>te Γ (fun d Γ1=>match d with
 | .obj C' fs ds=>C' =C/\m∉fs/\sp [.obj C' fs ds] (fun r=>P r Γ1) fun Cx=>E Γ1 Cx
 | _=>False) E
section
variable{X:Cx}{F0 H0:Hp}{o:Expr}{pos apos:Pos}{m:Str}{C:Addr}{ps:List Str}{k:Nat}{sp:cO}{te:aK}
end
abbrev P2:=Str×Str
def TY(a b:P2):Bool:=gD a.1 b.1 || (decide (a.1=b.1)&&gD a.2 b.2)
def pNo:P2:=(Str.empty,Str.empty)
def abt(xs:List P2)(i j:Nat):Bool:=TY (xs.getD i pNo) (xs.getD j pNo)
def abu(h:Heap)(v:Value)(p:P2):Prop:=∃(a:Addr) (o:Obj) (m:Nat) (t u:Tok),v= .ref a/\h.get? a=some o/\o.cls= .type "tuple" /\o.data= .seq #[.str p.1 t,.str p.2 u] m
def pkK(p:P2):List Key:= [.inr p.1,.inr p.2]
def pairD(p:P2):D:= .tup [.str p.1,.str p.2]
def Bg(H:Hp)(w:V)(p:P2):Prop:=∃b,w= .ref b/\H b=some (.tup [.str p.1,.str p.2])
def T3(X:Cx):List V ->Hp ->VK ->Prop:=fun vs H Q=>∃(q:Addr) (kvs:List (List Key×V)) (ps:List P2),vs= [.ref q]/\Rd H q (.dT kvs)/\kvs.map (·.1)=ps.map pkK/\ps.length<64/\
 ∀(l:Addr) (ms:List P2) (ws:List V),H l=none ->ms.Perm ps ->ms.Pairwise (fun a b=>TY a b=true) ->ws.length=ms.length ->(∀(i:Nat) w p,ws[i]?=some w ->ms[i]?=some p ->Bg H w p) ->Q (.ref l) (upd H l (.lst ws))
def z6u:List D ->(List D ->Prop) ->Prop:=fun ds P=>match ds with
 | [.iC ks _]=>∃ps:List P2,ks=ps.map pkK/\ps.length<64/\∀ms:List P2,ms.Perm ps ->ms.Pairwise (fun a b=>TY a b=true) ->P (ms.map pairD)
 | _=>False
section
variable{X:Cx}{F0 H0:Hp}{a:Expr}{pos p:Pos}{t:bA}
end
def signs(x:Str):List Str:=x.cps.toList.map fun c=>⟨#[c]⟩
def Itx(x:Str):It:=⟨fun i _=>i<x.cps.size,fun i H v H' =>H' =H/\∃c,x.cps[i]?=some c/\v= .str ⟨#[c]⟩,fun i _=>x.cps.size<=i⟩
def abv(te:TE):TI:=fun σ H R=>te σ H fun v H1=>∃x,v= .str x/\R (Itx x) H1
def z7s(te:aK):bA:=fun Γ P E=>te Γ (fun d Γ1=>match d with | .str x=>x.length<=sizeLine/\P ((signs x).map .str) Γ1 | _=>False) E
section
variable{X:Cx}{F0 H0:Hp}{e tg:Expr}{te:aK}
end
def abw:D ->D ->(D ->Prop) ->Prop:=fun x y P=>match x,y with | .str a,.str b=>P (.bl (!gD b a)) | _,_=>False
def Hw(x:Str)(b:Nat):Str:=⟨(x.cps.toList.take b).toArray⟩
def Hy(x:Str)(a:Nat):Str:=⟨(x.cps.toList.drop a).toArray⟩
def abx:V ->Option Int ->Option Int ->Hp ->VK ->Prop:=fun x lo hi H Q=>∃z:Str,x= .str z/\z.length<=sizeLine/\ ((∃b:Nat,lo=none/\hi=some (b:Int)/\Q (.str (Hw z b)) H)\/∃a:Nat,lo=some (a:Int)/\hi=none/\Q (.str (Hy z a)) H)
def aby(te:aK)(tl th:uZ):aK:=fun Γ P E=>te Γ (fun d Γ1=>tl Γ1 (fun l Γ2=>th Γ2 (fun u Γ3=>match d with
 | .str z=>z.length<=sizeLine/\ ((∃b:Nat,l=none/\u=some (b:Int)/\P (.str (Hw z b)) Γ3)\/∃a:Nat,l=some (a:Int)/\u=none/\P (.str (Hy z a)) Γ3)
 | _=>False) E) E) E
section
variable{X:Cx}{F0 H0:Hp}{e:Expr}{lo hi:Option Expr}{pos p2:Pos}{te:aK}{tl th:uZ}
end
def cUp(te:aK):aK:=fun Γ P E=>te Γ (fun d Γ1=>match d with | .str z=>∃c:Nat,z=⟨#[c]⟩/\97<=c/\c<=122/\P (.str ⟨#[c - 32]⟩) Γ1 | _=>False) E
section
variable{X:Cx}{F0 H0:Hp}{o:Expr}{apos cpos:Pos}{te:aK}
end
def z10:List D ->D ->(D ->Prop) ->Prop:=fun xs y P=>match y with
 | .bl true=>∃(bs:List Bool) (j:Nat),xs=bs.map .bl/\bs[j]?=some true/\ (∀m,m<j ->bs[m]?=some false)/\bs.length<1000/\P (.int j)
 | _=>False
def abz(ta tb:aK):aK:=fun Γ P E=>ta Γ (fun d Γ1=>match d with | .lst xs=>tb Γ1 (fun y Γ2=>z10 xs y fun r=>P r Γ2) E | _=>False) E
section
variable{X:Cx}{F0 H0:Hp}{o e:Expr}{apos cpos:Pos}{ta tb:aK}
end
section
variable{X:Cx}{F0 H0:Hp}{e:Expr}{es:List Expr}{pos p np:Pos}{x y:Str}{ps:List Str}{k i:Nat}{sp:vf}{t:bA}
end
section
variable{prog:Program}{w:World}{A:Around}{E:bL}{s:Shared}
end
def aak(K:W.Frag)(n:Nat)(t:vD):TG:=fun v σ H Q=>∃a xs,v= .ref a/\fZ K H a xs/\xs.length=n/\t xs σ H Q
def abA(n:Nat)(gs:mG):jT:=fun d Γ Q E=>match d with | .lst ds=>ds.length=n/\gs ds Γ Q E | _=>False
section
variable{X:Cx}{F0 H0:Hp}{es:List Expr}{gs:mG}{pos:Pos}
end
def HB:List Str ->Str
 | []=>Str.empty
 | x::xs=>x++HB xs
def HD:List Str ->Nat
 | []=>0
 | x::xs=>x.length+HD xs
def aal(te:aK):aK:=fun Γ P E=>te Γ (fun d Γ1=>match d with | .lst ds=>∃xs:List Str,ds=xs.map .str/\HD xs<1000/\P (.str (HB xs)) Γ1 | _=>False) E
section
variable{X:Cx}{F0 H0:Hp}{e:Expr}{apos cpos spos:Pos}{j}{te:aK}
end
section
variable{prog:Program}{w:World}{A:Around}{E:bL}{s:Shared}
end
def cmH(X:Cx):Prop:=∃a o u vs,X.A.handled=some (.ref a)/\X.H₀ a=some (.frz o u)/\o.data= .fields vs/\vs[2]?=some Value.none
def iLh(te:aK):bA:=fun Γ P E=>te Γ (fun d Γ1=>match d with | .lst ds=>P ds Γ1 | _=>False) E
section
variable{X:Cx}{F0 H0:Hp}{e tg:Expr}{te:aK}{a:Addr}
end
def aam(i:Nat)(t:jA):au:=fun D Γ E=>t Γ (fun tr Γ1=>((∀d,tr≠ .leaf d)/\∀k,tr≠ .kt k)/\∀a bs,D.nx (Γ1.set i (.tr (a::bs) tr))) E
def aan(j:Nat)(t:bA):au:=fun D Γ E=>t Γ (fun ds Γ1=>ds.length<=sizeLine/\∃k:List Key,ds=k.map cG/\D.nx (Γ1.set j (.tr [] (.kt k)))) E
def abB(neg:Bool)(i j:Nat):TT2:=fun Γ P _=>∃k as ks us,Γ[j]?=some (.tr [] (.kt k))/\Γ[i]?=some (.tr as (.iC ks us))/\P (if neg then !rN ks k else rN ks k) Γ
def abC(i j:Nat):aK:=fun Γ P _=>∃k as ks xs d,Γ[j]?=some (.tr [] (.kt k))/\Γ[i]?=some (.tr as (.iC ks (xs.map .leaf)))/\o9 ks xs k=some d/\P d Γ
def aao(i j:Nat)(tv:aK):au:=fun D Γ E=>tv Γ (fun d Γ1=>∃k as ks xs,Γ1[j]?=some (.tr [] (.kt k))/\Γ1[i]?=some (.tr as (.iC ks (xs.map .leaf)))/\ks.length<sizeLine/\D.nx (Γ1.set i (.tr as (.iC (putL ks k) ((xG ks xs k d).map .leaf))))) E
def aap(i j:Nat):au:=fun D Γ _=>∃k as ks xs d,Γ[j]?=some (.tr [] (.kt k))/\Γ[i]?=some (.tr as (.iC ks (xs.map .leaf)))/\o9 ks xs k=some d/\D.nx (Γ.set i (.tr as (.iC (xH ks k) ((nH ks xs k).map .leaf))))
section
variable{X:Cx}{F0 H0:Hp}{value:Expr}{es:List Expr}{pos npos kpos apos cpos pos' x1:Pos}{x y:Str}{i j:Nat}{tv:aK}{t:bA}
end
section
variable{K:W.Frag}{F0 H0 F H:Hp}{σ:St}{Γ:List Slot}
open Classical in
end
def cVF(i:Nat):aK:=fun Γ P _=>∃as t,Γ[i]?=some (.tr as t)/\P (toD t) (Γ.set i (.pu (toD t)))
structure abD (P:Program) (w:World) (K:W.Frag) (mg:Str ->Option Value) (base:Heap) (C:Addr) (m:Str) (k:Nat) (ps:List Str) (sp:qP):Prop where
 ex:∃f fd,eY P w K mg base (iw P w) k f fd ps (oY K sp)/\Meth K C m f/\Binds K fd ps []
def T4(C:Addr)(m:Str)(sp:qP)(te:aK):jA:=fun Γ P E=>te Γ (fun d Γ1=>match d with
 | .obj C' fs ds=>C' =C/\m∉fs/\sp [.obj C' fs ds] (fun t=>P t Γ1) fun Cx=>E Γ1 Cx
 | _=>False) E
section
variable{X:Cx}{F0 H0:Hp}{o:Expr}{pos apos:Pos}{m:Str}{C:Addr}{ps:List Str}{k:Nat}{sp:qP}{te:aK}
end
def Itk(a:Addr)(o:Obj)(kvs:List (List Key×V))(bs:List Addr):It:=⟨fun i H=>H a=some (.frz o (.dT kvs))/\i<bs.length,fun i H x H' =>H' =H/\∃b,bs[i]?=some b/\x= .ref b,fun i H=>H a=some (.frz o (.dT kvs))/\bs.length<=i⟩
def aaq(Hz:Hp)(te:TE):TI:=fun σ H R=>te σ H fun v H1=>∃a kvs,v= .ref a/\H1 a=some (.dT kvs)/\ (kvs.length<=sizeLine ->(∀o u,Hz a≠some (.frz o u)) ->∀o (bs:List Addr),bs.length=kvs.length ->(∀(i:Nat) b kv,bs[i]?=some b ->kvs[i]?=some kv ->H1 b=some (.tup (kv.1.map kV))) ->R (Itk a o kvs bs) (upd H1 a (.frz o (.dT kvs))))
def aar(n:Nat)(g:jT)(te:aK)(ti:aK):bA:=fun Γ P E=>ti Γ (fun d Γ1=>match d with
 | .iC ks _=>aX (p8 g gM te (List.replicate n .no)) (ks.map fun k=> .tup (k.map cG)) fun ys=>∃zs:List Str,ys=zs.map .str/\P ys Γ1
 | _=>False) E
section
variable{X:Cx}{F0 H0:Hp}{sc:Scope}{own:List Str}{N' :List Str}{elt tg iter:Expr}{pos:Pos}{ti te:aK}{g:jT}
end
def v8:D ->Option (List Key×List D)
 | .dic ks xs=>some (ks,xs)
 | .nq ks xs=>some (ks,xs)
 | _=>none
def eF:List Key ->List D ->Key ->Option D
 | k' ::ks,x::xs,k=>if k' =k then some x else eF ks xs k
 | _,_,_=>none
theorem Bh{K:W.Frag}{F:Hp}{d:D}{v:V}{ks:List Key}{xs:List D}(h:v8 d=some (ks,xs))(r:Rep K F d v):∃a vs,v= .ref a/\Rd F a (.dK (ks.zip vs))/\ks.length=vs.length/\ak K F xs vs:=by
 cases d with
 | dic ks' xs' =>
  cases h;unfold Rep at r;obtain⟨a,vs,rfl,e,l,rs⟩:=r;exact⟨a,vs,rfl,.inl e,l,rs⟩
 | nq ks' xs' =>
  cases h;unfold Rep at r;obtain⟨a,o,vs,rfl,e,l,rs⟩:=r;exact⟨a,vs,rfl,.inr ⟨o,e⟩,l,rs⟩
 | _=>cases h
theorem xJ(s:Same F H)(r:Rd F a u):Rd H a u:=by
 rcases r with r | ⟨o,r⟩
 ·exact .inl (s _ _ r)
 ·exact .inr ⟨o,s _ _ r⟩
theorem T5{K:W.Frag}{F:Hp}{k:Key}:∀{ks:List Key} {xs:List D} {vs:List V},ak K F xs vs ->(∀d,eF ks xs k=some d ->∃v,dR (ks.zip vs) k=some v/\Rep K F d v)/\ (eF ks xs k=none ->dR (ks.zip vs) k=none)
 | [],xs,vs,_=>by
  refine⟨fun d h=> ?_,fun _=>rfl⟩;unfold eF at h;cases h
 | _::_,[],vs,r=>by
  unfold ak at r;subst r;refine⟨fun d h=> ?_,fun _=>rfl⟩;unfold eF at h;cases h
 | k' ::ks,x::xs,vs,r=>by
  unfold ak at r;obtain⟨v,us,rfl,r1,r2⟩:=r;have ih:=T5 (k:=k) (ks:=ks) r2;unfold dR at ih⊢;rw[List.zip_cons_cons,List.find?_cons];unfold eF;by_cases q:k' =k
  ·refine⟨fun d h=> ?_,fun h=> ?_⟩
   ·rw[if_pos q] at h;cases h;exact⟨v,by simp [q],r1⟩
   ·rw[if_pos q] at h;cases h
  ·rw[if_neg q];simp only [q,decide_false];exact ih
def eG:D ->D ->(D ->Prop) ->Prop:=fun x y P=>∃ks xs k d,v8 x=some (ks,xs)/\y=cG k/\eF ks xs k=some d/\P d
def HF(neg:Bool):D ->D ->(D ->Prop) ->Prop:=fun x y P=>∃ks xs k,v8 y=some (ks,xs)/\x=cG k/\P (.bl (if neg then !jk ks k else jk ks k))
def qR(td ty tx:aK):aK:=fun Γ P E=>td Γ (fun d Γ1=>∃ks xs,v8 d=some (ks,xs)/\ty Γ1 (fun kd Γ2=>tx Γ2 (fun df Γ3=>∃k,kd=cG k/\P ((eF ks xs k).getD df) Γ3) E) E) E
def Ld:List D ->(D ->Prop) ->Prop:=fun ds P=>match ds with | [d]=>∃ks xs,v8 d=some (ks,xs)/\P (.int ks.length) | _=>False
section
variable{X:Cx}{F0 H0:Hp}{a b o e f:Expr}{pos apos cpos:Pos}{ta tb td ty tx:aK}
theorem zdt(hu:X.A.units+1<cLine)(ha:QE X F0 H0 a ta)(hb:QE X F0 H0 b tb)(hs:vL b:=by exact fun _ _=>rfl):QE X F0 H0 (.Subscript a b pos) (cB eG ta tb):=fun z E cx=>
 jh (XC (X:=X.wsh z) hu (ha z E cx) (hb z E cx) hs) fun σ H Q sU=>by obtain⟨F,Γ,P,R,h,k⟩:=sU;exact⟨F,Γ,_,R,h,fun d1 Γ1 F1 H1 v1 R1 s1 r1 h1=>⟨F1,Γ1,_,R1,h1,fun d2 Γ2 F2 H2 v2 R2 s2 r2 h2=>by
  obtain⟨ks,xs,kk,d,e1,rfl,hl,hp⟩:=h2;obtain⟨c,vs,rfl,ec,hkl,rs⟩:=Bh e1 (r1.up s2);have ev:=xr r2;subst ev;obtain⟨v,hv,rv⟩:=(T5 rs).1 d hl;exact⟨c,v,rfl,.inl ⟨_,kk,xJ R2.g ec,rfl,hv.symm⟩,k d Γ2 F2 H2 v R2 (s1.trans s2) rv hp⟩⟩⟩
theorem z5v(hu:X.A.units+1<cLine)(ha:QE X F0 H0 a ta)(hb:QE X F0 H0 b tb)(hm:behindInMarks .In b=false):QT X F0 H0 (.Compare a [.In] [b] pos) (cT (cB (HF false) ta tb)):=fun z E cx=>
 Ge (Wy (X:=X.wsh z) (z4k (X:=X.wsh z) hu (ha z E cx) (hb z E cx)) hm) fun σ H Q sU=>by obtain⟨F,Γ,P,R,h,k⟩:=sU;exact⟨F,Γ,_,R,h,fun d1 Γ1 F1 H1 v1 R1 s1 r1 h1=>⟨F1,Γ1,_,R1,h1,fun d2 Γ2 F2 H2 v2 R2 s2 r2 h2=>by
  obtain⟨ks,xs,kk,e1,rfl,hp⟩:=h2;obtain⟨c,vs,rfl,ec,hkl,rs⟩:=Bh e1 r2;have ev:=xr r1;subst ev;refine⟨c,_,rfl,.inl ⟨_,kk,xJ R2.g ec,rfl,rfl⟩,_,rfl,?_⟩;rw[zuu hkl];exact k _ Γ2 F2 H2 R2 (s1.trans s2) hp⟩⟩
theorem T6(hu:X.A.units+1<cLine)(ho:QE X F0 H0 o td)(he:QE X F0 H0 e ty)(hf:QE X F0 H0 f tx)(m:M2 X o "get" apos e f cpos):QE X F0 H0 (.Call (.Attribute o "get" apos) [e,f] [] cpos) (qR td ty tx):=fun z E cx=>
 jh (zzb (X:=X.wsh z) hu (ho z E cx) (he z E cx) (hf z E cx) ⟨m.base,m.few,m.line,m.trees⟩) fun σ H Q sU=>by obtain⟨F,Γ,P,R,h,k⟩:=sU;exact⟨F,Γ,_,R,h,fun d1 Γ1 F1 H1 v1 R1 s1 r1 h1=>by
  obtain⟨ks,xs,e1,h1⟩:=h1;obtain⟨c,vs,rfl,ec,hkl,rs⟩:=Bh e1 r1;exact⟨c,rfl,.inl ⟨_,xJ R1.g ec⟩,F1,Γ1,_,R1,h1,fun d2 Γ2 F2 H2 v2 R2 s2 r2 h2=>⟨F2,Γ2,_,R2,h2,fun d3 Γ3 F3 H3 v3 R3 s3 r3 h3=>by
   obtain⟨kk,rfl,hp⟩:=h3;have ev:=xr r2;subst ev;have q:=T5 (k:=kk) (ks:=ks) (rs.up (s2.trans s3));refine⟨_,.inl ⟨_,kk,xJ (s2.trans (s3.trans R3.g)) ec,rfl,rfl⟩,?_⟩;cases el:eF ks xs kk with
   | none=>
    rw[q.2 el];rw[el] at hp;exact k d3 Γ3 F3 H3 v3 R3 (s1.trans (s2.trans s3)) r3 hp
   | some d=>
    obtain⟨v,hv,rv⟩:=q.1 d el;rw[hv];rw[el] at hp;exact k d Γ3 F3 H3 v R3 (s1.trans (s2.trans s3)) rv hp⟩⟩⟩
theorem z07:cP X (.builtin "len") (oN X.K Ld):=by
 rintro pins s σ H xs us Q I r ⟨F,ds,P,sF,rs,h,k⟩;unfold Ld at h;split at h
 ·unfold ak ak at rs;obtain⟨v,_,rfl,rd,rfl⟩:=rs;obtain⟨ks,xs,e1,h⟩:=h;obtain⟨c,vs,rfl,ec,hkl,rs⟩:=Bh e1 rd;obtain⟨u,rfl,rx⟩:=vals1 r;cases rx;refine z7f I (xJ sF ec) fun t s' I' =>⟨.int ks.length,H,I',⟨t,?_⟩,k _ _ F H (Gr.refl sF) (by unfold Rep;rfl) h⟩
  rw[List.length_zip,<- hkl,Nat.min_self]
 ·exact h.elim
end
section
variable{X:Cx}
theorem zow(he:PE X e te)(I:Inv X pins σ H s)
  (h0:te σ H Q0) (h:∀v H1,Q0 v H1 ->∃a kvs,v= .ref a/\Rd H1 a (.dK kvs)/\∀(s1:Shared) (ws:List (Key×Value)) (ep:Nat) (r:Addr),Inv X pins σ H1 s1 ->(a==sysModules)=false ->kvs.length<=sizeLine ->KV kvs ws ->s1.heap.DictAt (jd X.prog X.w) a ws ep ->s1.heap.IsValuesView r a ->Q (.ref r) s1)
  (hbase:attributeBase e "values" X.env (eval e X.env)=eval e X.env) (hline:(apos.endLine==cpos.line)=true):
  wpAny (model X.prog X.w) X.A (eval (.Call (.Attribute e "values" apos) [] [] cpos) X.env) Q X.xe s:=by
 refine wpAny_Call_method0_late hbase hline (bG (he pins s σ H _ I h0) fun v s1 hq1=> ?_);obtain⟨x,H1,I1,r1,q0⟩:=hq1;obtain⟨a,kvs,ex,ea,q⟩:=h x H1 q0;subst ex;obtain rfl:v=Value.ref a:=r1;obtain⟨hT,hN,hsm⟩:=Pj I1 (.inl ⟨kvs,ea⟩);refine⟨"dict","dict.values",PySem.F.plainAttrs_dict,PySem.F.slot_dict_values,PySem.F.type_dict_values,hT,hN,Calls.callWith_builtin rfl (PySem.evalArgs_none ?_)⟩;obtain⟨hz,_,ws,kv,dd⟩:=uU I1.hok ea;refine call_meetsIn PySem.F.slot_dict_values hT PySem.F.entry_dict_values (PySem.F.args_dict_values_1 _) (meets_dict_values (jd X.prog X.w) a hsm) ⟨⟨ws,dd⟩,?_⟩;obtain⟨o,es,ep,h1,h2,h3,h4⟩:=id dd;have hm:s1.heap.DictAt (jd X.prog X.w) a ws ep:=⟨o,es,h1,h2,h3,h4⟩;have vw:(s1.heap.push {cls:= .type "dict_values",data:= .fields #[.ref a]}).IsValuesView s1.heap.objs.size a:=⟨_,zY _ rfl,rfl,rfl⟩;exact q _ ws ep _ (I1.kept fun b o e=>zZ _ e) hsm hz kv (hm.push _) vw
theorem ztp{ks:List Key}{vs:List V}{ws:List (Key×Value)}{acc:Array Value}(hkl:ks.length=vs.length)(kv:KV (ks.zip vs) ws)(h1:acc.size=ws.length)(h2:∀(i:Nat) (u:Value),acc[i]?=some u ->∃k,ws[i]?=some (k,u)):Vals vs acc.toList:=by
 have hl:=kv.length;rw[List.length_zip,<- hkl,Nat.min_self] at hl;refine La (by rw[show acc.toList.length=acc.size from Array.length_toList];omega) fun i x u e1 e2=> ?_
 obtain⟨k,e3⟩:=h2 i u (by rw[<- Array.getElem?_toList];exact e2)
 obtain⟨v,e4,r⟩:=Ba kv e3;have:=(Hr e4).2;rw[e1] at this;cases this;exact r
theorem zx3{e:Expr}{te:TE}{apos cpos pos p:Pos}(hc:X.calm=true)(hg:Gl X "list")(hm:X.mg "list" =none)(he:PE X e te)(hb:bootBuiltins "list" =some (.type "list"):=by decide+kernel)
  (hbase:attributeBase e "values" X.env (eval e X.env)=eval e X.env:=by rfl) (hline:(apos.endLine==cpos.line)=true:=by rfl)
  (he2:starEach [.Call (.Attribute e "values" apos) [] [] cpos] X.env=(false,eval (.Call (.Attribute e "values" apos) [] [] cpos) X.env)::starEach [] X.env:=by rfl):
  PE X (.Call (.Name "list" p) [.Call (.Attribute e "values" apos) [] [] cpos] [] pos) (fun σ H Q=>te σ H fun v H1=>∃(a:Addr) (ks:List Key) (vs:List V),v= .ref a/\Rd H1 a (.dK (ks.zip vs))/\ks.length=vs.length/\∀q,H1 q=none ->Q (.ref q) (upd H1 q (.lst vs))):=by
 intro pins s σ H Q I h;refine wpAny_Call_Name_kw (vB I hg hm hb ?_ (by decide) (by decide))
 refine PyProof.Rows.callWith_type1 ?_ he2 rfl;rw[he2];show wpAny _ _ (spliced ((false,eval (.Call (.Attribute e "values" apos) [] [] cpos) X.env)::backTo pos (starEach [] X.env))) _ _ _;refine Calls.spliced_cons ?_;refine zow he I h (fun v H1 hq=> ?_) hbase hline;obtain⟨a,ks,vs,ev,ea,hkl,q⟩:=hq;refine⟨a,ks.zip vs,ev,ea,fun s1 ws ep r I1 hsm hz kv hd vw=> ?_⟩;refine Calls.spliced_nil ?_;have Dh:=kv.length;refine W.kdl_call (W.kdl_values (knd:=jd X.prog X.w) (kvs:=ws) (ep:=ep)) (I1.ok.hd hc) ⟨vw,hd⟩ (by omega) fun h' tk acc c hold hg hac=> ?_
 have hv:=ztp hkl kv hac.1 hac.2;have u9:=hv.length;rw[List.length_zip,<- hkl,Nat.min_self] at hz;have I2:Inv X pins σ (upd H1 s1.heap.objs.size (.lst vs)) {s1 with heap:=h',toks:=tk}:=
  I1.laid (t' :=tk) hold (zM _) (show aV X.prog X.w _ _ _ (.lst vs) from ⟨by omega,_,c,hv,by rw[Array.toArray_toList];exact hg⟩)
 exact⟨.ref s1.heap.objs.size,_,I2,rfl,q _ (I1.hok.fresh (zM _))⟩
theorem z1l(hc:X.calm=true)(hg:Gl X "sum")(hm:X.mg "sum" =none)(he:PE X e te)(hb:bootBuiltins "sum" =some (.builtin "sum"):=by decide+kernel)
  (hbase:attributeBase e "values" X.env (eval e X.env)=eval e X.env:=by rfl) (hline:(apos.endLine==cpos.line)=true:=by rfl)
  (he2:starEach [.Call (.Attribute e "values" apos) [] [] cpos] X.env=(false,eval (.Call (.Attribute e "values" apos) [] [] cpos) X.env)::starEach [] X.env:=by rfl):
  PE X (.Call (.Name "sum" p) [.Call (.Attribute e "values" apos) [] [] cpos] [] pos) (fun σ H Q=>te σ H fun v H1=>∃(a:Addr) (ks:List Key) (ns:List Int),v= .ref a/\Rd H1 a (.dK (ks.zip (ns.map .int)))/\ks.length=ns.length/\Q (.int ns.sum) H1):=by
 intro pins s σ H Q I h;refine wpAny_Call_Name_kw (vB I hg hm hb ?_ (by decide) (by decide))
 refine PyProof.Rows.callWith_builtin1 ?_ he2 rfl;rw[he2];show wpAny _ _ (spliced ((false,eval (.Call (.Attribute e "values" apos) [] [] cpos) X.env)::backTo pos (starEach [] X.env))) _ _ _;refine Calls.spliced_cons ?_;refine zow he I h (fun v H1 hq=> ?_) hbase hline;obtain⟨a,ks,ns,ev,ea,hkl,q⟩:=hq;refine⟨a,ks.zip (ns.map .int),ev,ea,fun s1 ws ep r I1 hsm hz kv hd vw=> ?_⟩;refine Calls.spliced_nil ?_;have Dh:=kv.length;have hlk:ws.length=ns.length:=by rw[<- Dh,List.length_zip,List.length_map,<- hkl,Nat.min_self]
 have K:=W.kdl_values (prog:=X.prog) (w:=X.w) (r:=r) (d:=a) (knd:=jd X.prog X.w) (kvs:=ws) (ep:=ep);refine call_sum_walkAnyS ?_;obtain⟨oI,St,hit,W,st⟩:=K.iter X.A.in1 s1 (I1.ok.hd hc) ⟨vw,hd⟩;refine hit _ _ ⟨s1.heap.objs.size,_,_,_,_,_,_,fun i=>ns.getD i 0,rfl,W.toS,st,fun b hb=> ?_,fun i u hu=> ?_,fun s' t' hm' => ?_⟩
 ·show b< (s1.heap.push oI).objs.size;rw[Heap.size_push];rcases zT.mp hb with e | hb
  ·rw[e];exact Nat.lt_succ_self _
  ·rw[List.mem_singleton.mp hb];exact Nat.lt_succ_of_lt (K.there _ ⟨vw,hd⟩).2
 ·obtain⟨k,e3⟩:=hu;obtain⟨v,e4,rv⟩:=Ba kv e3;have e5:=(Hr e4).2;rw[List.getElem?_map] at e5;cases en:ns[i]? with
  | none=>rw[en] at e5;cases e5
  | some n=>
   rw[en] at e5;cases e5;show∃t,u=Value.int (ns.getD i 0) t;rw[List.getD_eq_getElem?_getD,en];exact rv
 ·have hk:∀b o,s1.heap.get? b=some o ->s'.heap.get? b=some o:=fun b o e=>
   hm'.heap b o (fun hI=>absurd (zG e) (by rw[List.mem_singleton.mp hI];exact yV _)) (zZ _ e)
  rw[hlk,zw5 ns _ (fun i _=>rfl),Moved.eq_with hm'];exact YW (s:=s1) (v:= .int ns.sum) I1 hk ⟨_,rfl⟩ q
end
def um(te:aK):bA:=fun Γ P E=>te Γ (fun d Γ1=>∃ks xs,v8 d=some (ks,xs)/\P xs Γ1) E
def xK(te:aK):aK:=fun Γ P E=>te Γ (fun d Γ1=>∃ks xs ns,v8 d=some (ks,xs)/\gq xs=some ns/\P (.int ns.sum) Γ1) E
section
variable{X:Cx}{F0 H0:Hp}{e:Expr}{apos cpos pos p:Pos}{te:aK}
theorem zz6(hc:X.calm=true)(hg:Gl X "list")(hm:X.mg "list" =none)(he:QE X F0 H0 e te)
  (hbase:attributeBase e "values" X.env (eval e X.env)=eval e X.env:=by rfl) (hline:(apos.endLine==cpos.line)=true:=by rfl)
  (he2:starEach [.Call (.Attribute e "values" apos) [] [] cpos] X.env=(false,eval (.Call (.Attribute e "values" apos) [] [] cpos) X.env)::starEach [] X.env:=by rfl):
  QF X F0 H0 (.Call (.Name "list" p) [.Call (.Attribute e "values" apos) [] [] cpos] [] pos) (um te):=fun z E cx=>
 jh (zx3 (X:=X.wsh z) hc hg hm (he z E cx) (by decide+kernel) hbase hline he2) fun σ H Q oK=>by
 obtain⟨F,Γ,P,R,h,k⟩:=oK;refine⟨F,Γ,_,R,h,fun d Γ1 F1 H1 v R1 s1 r1 h1=> ?_⟩;obtain⟨ks,xs,e1,h1⟩:=h1;obtain⟨c,vs,rfl,ec,hkl,rs⟩:=Bh e1 r1;refine⟨c,ks,vs,rfl,xJ R1.g ec,hkl,fun q hq0=> ?_⟩;obtain⟨R2,q1,q2,q3,ap⟩:=vO R1 hq0 rs;exact k _ Γ1 F1 _ q _ R2 s1 q1 q2 q3 rs ap h1
theorem z2v(hc:X.calm=true)(hg:Gl X "sum")(hm:X.mg "sum" =none)(he:QE X F0 H0 e te)
  (hbase:attributeBase e "values" X.env (eval e X.env)=eval e X.env:=by rfl) (hline:(apos.endLine==cpos.line)=true:=by rfl)
  (he2:starEach [.Call (.Attribute e "values" apos) [] [] cpos] X.env=(false,eval (.Call (.Attribute e "values" apos) [] [] cpos) X.env)::starEach [] X.env:=by rfl):
  QE X F0 H0 (.Call (.Name "sum" p) [.Call (.Attribute e "values" apos) [] [] cpos] [] pos) (xK te):=fun z E cx=>
 jh (z1l (X:=X.wsh z) hc hg hm (he z E cx) (by decide+kernel) hbase hline he2) fun σ H Q oK=>by
 obtain⟨F,Γ,P,R,h,k⟩:=oK;refine⟨F,Γ,_,R,h,fun d Γ1 F1 H1 v R1 s1 r1 h1=> ?_⟩;obtain⟨ks,xs,ns,e1,hns,h1⟩:=h1;obtain⟨c,vs,rfl,ec,hkl,rs⟩:=Bh e1 r1;obtain rfl:=YX rs hns;exact⟨c,ks,ns,rfl,xJ R1.g ec,by rw[hkl,List.length_map],k _ Γ1 F1 H1 _ R1 s1 (by unfold Rep;rfl) h1⟩
end
def T7(a:Addr)(o:Obj)(kvs:List (Key×V)):It:=⟨fun i H=>H a=some (.frz o (.dK kvs))/\i<kvs.length,fun i H x H' =>H' =H/\∃k v,kvs[i]?=some (k,v)/\x=kV k,fun i H=>H a=some (.frz o (.dK kvs))/\kvs.length<=i⟩
theorem ztu{P:Program}{w:World}{K:W.Frag}{tg:Expr}(a it:Addr)(o:Obj)(kvs:List (Key×V))(ep:Nat)(Bb:∃es,o.data= .dict es ep):Turn P w K tg (T7 a o kvs) [it] it (fun i h=>h.IsKeyIter it a i kvs.length ep) where
 mem:=by simp
 obj:=fun i h st b hb=>by
  obtain rfl:b=it:=by simpa using hb
  obtain⟨o,e,c,d⟩:=st;exact⟨o,e,fun v z=>by rw[d] at z;cases z⟩
 keep:=fun i h h' st k=>st.at fun o e=>k it (by simp) o e
 item:=by
  intro X hP hw hK hc i pins s σ H E I hf st hg;subst hP hw hK;obtain⟨hq,hx⟩:=hg;obtain⟨f0,f1,f2,f3,f4,f5⟩:=hf it (by simp)
  obtain⟨ws,kv,hd⟩:=Lb I hq Bb;have hl:=kv.length;rw[hl] at st hx;obtain⟨⟨k,u⟩,hw⟩:∃p,ws[i]?=some p:=⟨ws[i],by simp [hx]⟩
  obtain⟨v,hv,rv⟩:=Ba kv hw;refine wpAny_pyNext_dict_item st hd hw fun key h' hkey hit' sb=> ?_;have I1:Inv X pins σ H {s with heap:=h'}:=I.turned (t' :=s.toks) (fun b o hb e=>(sb.2 b hb).trans e) f0 f1 f3 f4 f5;obtain⟨o',e,c,d⟩:=id hit';have rk:RelV (kV k) key:=by
   rcases qC hkey with ⟨j,t,rfl,rfl⟩ | ⟨x,t,rfl,rfl⟩
   ·exact⟨t,rfl⟩
   ·exact⟨t,rfl⟩
  exact⟨key,rfl,Er (s:={s with heap:=h'}) e c d (by decide) ⟨kV k,H,I1,rk,⟨rfl,k,v,hv,rfl⟩,by rw[hl];exact hit',fun b hb=>(hf b hb).1⟩⟩
 done:=by
  intro X hP hw hK hc i pins s σ H E I hf st hg;subst hP hw hK;obtain⟨hq,hx⟩:=hg;obtain⟨f0,f1,f2,f3,f4,f5⟩:=hf it (by simp)
  obtain⟨ws,kv,hd⟩:=Lb I hq Bb;have hl:=kv.length;rw[hl] at st hx;exact wpAny_pyNext_dict_end (I.ok.hd hc) st hd (by simpa using hx) fun h' eb=>⟨rfl,I.turned (t' :=s.toks) (fun b o hb e=>eb b o hb e) f0 f1 f3 f4 f5⟩
 self:=fun _ _ _ _ _ st h=>wpAny_pyIter_keyiter st h
def Bj(te:TE):TI:=fun σ H R=>te σ H fun v H1=>∃a o kvs,v= .ref a/\H1 a=some (.frz o (.dK kvs))/\ (kvs.length<=sizeLine ->R (T7 a o kvs) H1)
theorem zy9(he:PE X e te):PI X tg e (Bj te):=by
 intro pins s σ H R I h;refine bG (he pins s σ H _ I h) fun v s1 hq1=> ?_;obtain⟨x,H1,I1,r1,a,o,kvs,ex,ea,q⟩:=hq1;subst ex;obtain rfl:v=Value.ref a:=r1;obtain⟨ho,hz,hsm,ws,kv,o',es,ep,h1,h2,h3,h4⟩:=(show aV X.prog X.w H1 s1.heap a (.frz o (.dK kvs)) from I1.hok a _ ea);rw[ho] at h1;cases h1;have hm:s1.heap.DictAt (jd X.prog X.w) a ws ep:=⟨o,es,ho,h2,h3,h4⟩;refine wpAny_pyIter_dict hsm hm ?_;refine⟨_,[s1.heap.objs.size],_,_,_,rfl,I1.kept (t' :=s1.toks) fun b o e=>zZ _ e,ztu a _ o kvs ep ⟨es,h3⟩,?_,fun b hb=> ?_,q hz⟩
 ·rw[kv.length];exact⟨_,zY _ rfl,rfl,rfl⟩
 ·obtain rfl:b=s1.heap.objs.size:=by simpa using hb
  exact I1.fpOk (zM _) (I1.hok.fresh (zM _))
theorem z4m{K:W.Frag}{F:Hp}(k:Key):Rep K F (cG k) (kV k):=by
 cases k with
 | inl i=>unfold cG Rep;rfl
 | inr x=>unfold cG Rep;rfl
theorem zvr{K:W.Frag}{F:Hp}{a:Addr}{o:Obj}{ks:List Key}{vs:List V}(e:F a=some (.frz o (.dK (ks.zip vs))))(hkl:ks.length=vs.length)(hz:(ks.zip vs).length<=sizeLine):wO K F Ad (T7 a o (ks.zip vs)) (ks.map cG):=by
 have hlz:(ks.zip vs).length=ks.length:=by rw[List.length_zip,hkl,Nat.min_self]
 refine⟨by rw[List.length_map];omega,fun i H2 F2 s2 s3 _=>⟨fun q=>⟨s3 _ _ (s2 _ _ e),by rw[q,List.length_map];omega⟩,fun d hd=> ?_⟩⟩
 rw[List.getElem?_map] at hd;cases qk:ks[i]? with
 | none=>rw[qk] at hd;cases hd
 | some kk=>
  rw[qk] at hd;cases hd;have hik:i<ks.length:=(zU.mp qk).1;refine⟨⟨s3 _ _ (s2 _ _ e),by omega⟩,fun y H' z=> ?_⟩
  obtain⟨rfl,k,v,z,rfl⟩:=z;have:=(Hr z).1;rw[qk] at this;cases this;exact⟨F2,Gr.refl s3,z4m kk⟩
def T8(te:aK):bA:=fun Γ P E=>te Γ (fun d Γ1=>match d with | .nq ks _=>P (ks.map cG) Γ1 | _=>False) E
section
variable{X:Cx}{F0 H0:Hp}{e tg:Expr}{te:aK}
theorem zty(he:QE X F0 H0 e te):QI X F0 H0 tg e (T8 te):=fun z E cx=>Cu (zy9 (X:=X.wsh z) (he z E cx)) fun σ H R hq2=>by
 obtain⟨F,Γ,P,S,q,k⟩:=hq2;refine⟨F,Γ,_,S,q,fun d Γ1 F1 H1 v R1 s1 r h1=> ?_⟩;split at h1
 ·unfold Rep at r;obtain⟨a,o,vs,rfl,ea,hkl,rs⟩:=r;exact⟨a,o,_,rfl,R1.g _ _ ea,fun hz=>k _ Γ1 F1 H1 _ R1 s1 (zvr ea hkl hz) h1⟩
 ·exact h1.elim
end
def xM(tn:jA):aK:=fun Γ P E=>tn Γ (fun t Γ1=>match t with | .dic ks ts=>P (.nq ks (fC ts)) Γ1 | _=>False) E
def uo(i:Nat)(t:au):au:=fun D Γ E=>∃as ks ts,Γ[i]?=some (.tr as (.dic ks ts))/\t D (Γ.set i (.pu (.nq ks (fC ts)))) E
section
variable{K:W.Frag}{F0 H0 F H:Hp}{σ:St}{Γ:List Slot}
open Classical in
theorem SR.nail(R:SR K F0 H0 F H σ Γ)(nd:(a::bs).Nodup)(hn:∀b∈a::bs,F b=none/\H0 b=none/\Apart σ Γ b)(ea:H a=some (.dK (ks.zip vs)))(hkl:ks.length=vs.length)(r:c7 K F H ts vs bs):
  ∃F',Same F F' /\SR K F0 H0 F' (L2.upd H a (.frz o (.dK (ks.zip vs)))) σ Γ/\Rep K F' (.nq ks (fC ts)) (.ref a):=by
 have nab:a∉bs:=(List.nodup_cons.mp nd).1;have sF:Same F (fun b=>if b=a then some (.frz o (.dK (ks.zip vs))) else if b∈bs then H b else F b):=fun b u e=>by
  show(if b=a then some (.frz o (.dK (ks.zip vs))) else if b∈bs then H b else F b)=some u;rw[if_neg (fun z=>by rw[z,(hn a List.mem_cons_self).1] at e;cases e),if_neg (fun hb=>by rw[(hn b (List.mem_cons_of_mem _ hb)).1] at e;cases e)]
  exact e
 refine⟨_,sF,(R.chg (u:= .frz o (.dK (ks.zip vs))) (hn a zW).1 (hn a zW).2.1 (hn a zW).2.2).frzM sF (fun b u e=> ?_) (fun b u e n=> ?_),?_⟩
 ·have e' :(if b=a then some (.frz o (.dK (ks.zip vs))) else if b∈bs then H b else F b)=some u:=e;by_cases hb:b=a
  ·subst hb;rw[if_pos rfl] at e';rw[mQ];exact e'
  ·rw[if_neg hb] at e';rw[dH hb];split at e'
   ·exact e'
   ·exact R.g b u e'
 ·have e' :(if b=a then some (.frz o (.dK (ks.zip vs))) else if b∈bs then H b else F b)=some u:=e;by_cases hb:b=a
  ·subst hb;exact(hn b zW).2
  ·rw[if_neg hb] at e';split at e'
   ·rename_i hm;exact(hn b (zV _ hm)).2
   ·rw[n] at e';cases e'
 ·unfold Rep;refine⟨a,o,vs,rfl,if_pos rfl,hkl,c7.rep sF ts vs bs (fun c hc u hu=> ?_) r⟩;show(if c=a then some (.frz o (.dK (ks.zip vs))) else if c∈bs then H c else F c)=some u;rw[if_neg (show¬c=a from fun z=>nab (z ▸ hc)),if_pos hc];exact hu
end
section
variable{X:Cx}{F0 H0:Hp}{e:Expr}{st:Stmt}{tn:jA}{ts:au}
theorem z1o(he:QN X F0 H0 e tn):QE X F0 H0 e (xM tn):=fun z E cx pins s σ H Q I hq=>by
 obtain⟨F,Γ,P,R,h,k⟩:=hq;refine bG (he z E cx pins s σ H (fun v H1=>∃a kvs,v= .ref a/\H1 a=some (.dK kvs)/\∀o,Q (.ref a) (upd H1 a (.frz o (.dK kvs)))) I ⟨F,Γ,_,R,h,fun t Γ1 F1 H1 v as R1 s1 nd hn r h1=> ?_⟩) fun u s1 hq1=> ?_
 ·split at h1
  ·rename_i ks ts;unfold TR at r;obtain⟨a,vs,bs,rfl,rfl,ea,hkl,r⟩:=r;refine⟨a,_,rfl,ea,fun o=> ?_⟩;obtain⟨F',sF,R2,rp⟩:=R1.nail (o:=o) nd hn ea hkl r;exact k _ Γ1 F' _ _ R2 (s1.trans sF) rp h1
  ·exact h1.elim
 ·obtain⟨x,H1,I1,r1,a,kvs,ex,ea,q⟩:=hq1;subst ex;obtain rfl:u=Value.ref a:=r1;obtain⟨_,_,ws,kv,o,es,ep,h1,_⟩:=Fq I1.hok ea;exact⟨.ref a,_,Tq I1 ea h1,rfl,q o⟩
theorem z2z(i:Nat)(h:QS X F0 H0 st ts):QS X F0 H0 st (uo i ts):=fun z E cx pins s σ H D I hq=>by
 obtain⟨F,Γ,D2,R,⟨as,ks,tr,e0,hp⟩,k⟩:=hq;obtain⟨o',e1,v,rfl,nd,hn,r⟩:=R.sl i _ e0;unfold TR at r;obtain⟨a,vs,bs,rfl,rfl,ea,hkl,r⟩:=r;obtain⟨_,_,ws,kv,o,es,ep,h1,_⟩:=Fq I.hok ea;obtain⟨F',sF,R2,rp⟩:=(R.dropAt e1).nail (o:=o) nd (fun b hb=>⟨(hn b hb).1,(hn b hb).2,R.less e0 e1 (show eZ (Slot.tr (a::bs) (.dic ks tr)) (some (.ref a)) b from hb)⟩) ea hkl r;have R3:=R2.set i rp;rw[yP e1,List.set_set] at R3;exact h z E cx pins s σ _ D (Tq I ea h1) ⟨F',_,D2,R3,hp,k.mono sF⟩
end
def ur(i:Nat)(tk tv:aK):au:=fun D Γ E=>tv Γ (fun d Γ1=>(∃as t,Γ1[i]?=some (.tr as t))/\tk Γ1 (fun kd Γ2=>∃k as ks xs,kd=cG k/\Γ2[i]?=some (.tr as (.dic ks (xs.map .leaf)))/\ks.length<sizeLine/\D.nx (Γ2.set i (.tr as (.dic (eE ks k) ((cA ks xs k d).map .leaf))))) E) E
section
variable{X:Cx}{F0 H0:Hp}{ke value:Expr}{pos npos pos' :Pos}{x:Str}{i:Nat}{tk tv:aK}
theorem Le(hu:X.A.units+1<cLine)(hN:X.N[i]?=some x)(hv:pN X.env.scope x)(hk:QE X F0 H0 ke tk)(hval:QE X F0 H0 value tv)(hs:swapsWith value (some (.Subscript (.Name x npos) ke pos')) pos.line X.env=pure false:=by rfl)
  (hd:(x==("__debug__" :Str))=false:=by decide) (hcd:(x==("__classdict__" :Str))=false:=by decide):QS X F0 H0 (.Assign [.Subscript (.Name x npos) ke pos'] value pos) (ur i tk tv):=fun z E cx=>
 n6 (Pb (X:=X.wsh z) hu (sH (X:=X.wsh z) (i:=i) hN hv hd hcd) (hk z E cx) (hval z E cx) hs) fun Dn σ H hq1=>by obtain⟨F,Γ,D2,R,h,k⟩:=hq1;exact⟨F,Γ,_,R,h,fun d Γ1 F1 H1 v R1 s1 rd hq2=>by
  obtain⟨⟨as,t,e0⟩,q⟩:=hq2;obtain⟨o,e1,w,rfl,_⟩:=R1.sl i _ e0;refine⟨w,e1,F1,Γ1,_,R1,q,fun kd Γ2 F2 H2 y R2 s2 rk q2=> ?_⟩;obtain⟨kk,as',ks,xs,rfl,e2,hl,q2⟩:=q2;obtain⟨o,e3,w',rfl,nd,hn,r⟩:=R2.sl i _ e2;rw[e1] at e3;cases e3;unfold TR at r;obtain⟨a,vs,bs,rfl,rfl,ea,hkl,r⟩:=r;obtain⟨rfl,rs⟩:=S5 r;have ev:=xr rk;subst ev;refine⟨a,_,rfl,oF.k (k:=kk) ea (by rw[List.length_zip,<- hkl,Nat.min_self];exact hl),?_⟩
  rw[SX hkl];refine k.nx _ _ _ _ (R2.wrT e2 e1 (show eZ (Slot.tr [a] (.dic ks (xs.map .leaf))) (some (.ref a)) a from zW) (t:= .tr [a] (.dic (eE ks kk) ((cA ks xs kk d).map .leaf))) ⟨_,rfl,nd,hn,?_⟩ fun b hb=> .inl hb) (s1.trans s2) q2;unfold TR;exact⟨a,_,[],rfl,rfl,mQ,Z6 hkl,K5 (Z8 rs (rd.up s2))⟩⟩
end
def T9:List D ->(List D ->Prop) ->Prop:=fun ds P=>match ds with
 | [d]=>∃xs:List Str,∃ys,v8 d=some (xs.map .inr,ys)/\xs.Nodup/\xs.length<64/\∀ms:List Str,ms.Perm xs ->ms.Pairwise (fun a b=>gD a b=true) ->P (ms.map .str)
 | _=>False
def Bk(X:Cx):List V ->Hp ->VK ->Prop:=fun vs H Q=>∃(q:Addr) (kvs:List (Key×V)) (xs:List Str),vs= [.ref q]/\Rd H q (.dK kvs)/\kvs.map (·.1)=xs.map .inr/\xs.Nodup/\xs.length<64/\
 ∀(l:Addr) (ms:List Str),H l=none ->ms.Perm xs ->ms.Pairwise (fun a b=>gD a b=true) ->Q (.ref l) (upd H l (.lst (ms.map .str)))
theorem zs0(hc:X.calm=true):cP X (.builtin "sorted") (Bk X):=by
 rintro pins s σ H xs us Q I r ⟨q,kvs,ys,e0,hq,hk,nd,h64,k⟩;subst e0;obtain⟨u,rfl,rx⟩:=vals1 r;cases rx;obtain⟨hz,hsm,ws,kv,ob,es,ep,hd⟩:=uU I.hok hq;obtain⟨ho,hec,hdt,hko,hpr,_⟩:=hd;have Dh:=kv.length;have hlk:kvs.length=ys.length:=by simpa using congrArg List.length hk
 have hls:es.size=ws.length:=by rw[<- hpr.length,Array.length_toList]
 have line:(64:Nat)<=sizeLine:=by decide
 refine Tc (zp9 (by simp [I.ok.hd hc]) hsm ⟨ob,ho,hec,hdt⟩ (by omega) fun vals h1 tk hv hlt hold=> ?_)
 have rv:Vals (ys.map V.str) vals:=by
  have l1:(ys.map V.str).length=ys.length:=List.length_map ..;have l2:vals.length=es.size:=by rw[hv,List.length_map,Array.length_toList]
  refine La (by omega) fun i x u e1 e2=> ?_
  rw[hv,List.getElem?_map] at e2;cases ee:es.toList[i]? with
  | none=>rw[ee] at e2;cases e2
  | some e=>
   rw[ee] at e2;cases e2;have hi:i<ws.length:=by
    have:=(zU.mp ee).1;rw[Array.length_toList] at this;omega
   have e3:ws[i]?=some ws[i]:=zX hi;have e4:=(hpr.get? ee e3).1;obtain⟨v5,e5,_⟩:=Ba kv e3;have e6:(kvs.map (·.1))[i]?=some ws[i].1:=by rw[List.getElem?_map,e5];rfl
   rw[hk,List.getElem?_map] at e6;rw[List.getElem?_map] at e1;cases ey:ys[i]? with
   | none=>rw[ey] at e1;cases e1
   | some y=>
    rw[ey] at e1 e6;cases e1;have e7:ws[i].1= .inr y:=by simpa using e6.symm
    have e8:kY ws[i].1 e.key=true:=e4;rcases qC e8 with ⟨j,t,z,_⟩ | ⟨x,t,z,zz⟩
    ·rw[e7] at z;cases z
    ·rw[e7] at z;cases z;show RelV (V.str y) e.key;rw[zz];exact⟨t,rfl⟩
 have u9:vals.length=ys.length:=by have:=rv.length;simpa using this.symm
 refine⟨Ay ys,_,_,by rw[u9];exact Td nd,by omega,zsb rv,fun _ _=>trivial,fun l h' is e hle a1 a2 hl o7=> ?_⟩
 have hlt2:s.heap.objs.size<=l:=zN (Nat.le_of_lt hlt) hle;have hix:∀i∈is,i< (ys.map V.str).length:=fun i hi=>by
  rw[List.length_map,<- u9];exact List.mem_range.mp (a1.mem_iff.mp hi)
 have hrv:=Ti rv hix;rw[K8 (d:=Str.empty) (fun i hi=>by have:=hix i hi;rwa [List.length_map] at this)] at hrv
 have hms:(pick Str.empty ys is).Perm ys:=Te (by rw[<- u9];exact a1)
 have hlen:((pick Str.empty ys is).map V.str).length<=sizeLine:=by rw[List.length_map,hms.length_eq];omega
 have I2:Inv X pins σ (upd H l (.lst ((pick Str.empty ys is).map .str))) {s with heap:=h',toks:=tk}:=
  I.laid (t' :=tk) (fun b ob eb=>o7 b ob (hold b ob eb)) hlt2 (show aV X.prog X.w _ _ _ (.lst ((pick Str.empty ys is).map .str)) from ⟨hlen,_,e,hrv,hl⟩)
 exact⟨.ref l,_,I2,rfl,k l _ (I.hok.fresh hlt2) hms (Tf a2)⟩
section
variable{X:Cx}{F0 H0:Hp}{a:Expr}{pos p:Pos}{t:bA}
theorem zy8(hc:X.calm=true)(hg:Gl X "sorted")(hm:X.mg "sorted" =none)(ha:QA X F0 H0 [a] t)(hb:bootBuiltins "sorted" =some (.builtin "sorted"):=by decide+kernel)
  (he:starEach [a] X.env=(false,eval a X.env)::starEach [] X.env:=by rfl):QF X F0 H0 (.Call (.Name "sorted" p) [a] [] pos) (pO T9 t):=fun z E cx=>by
 refine jh (Fg (X:=X.wsh z) (zs0 hc) hg hm hb (ha z E cx) (by decide) (by decide) he rfl) fun σ H Q hq1=> ?_
 obtain⟨F,Γ,P,R,h,k⟩:=hq1;refine⟨F,Γ,_,R,h,fun ds Γ1 F1 H1 vs R1 s1 r1 h1=> ?_⟩;unfold T9 at h1;split at h1
 ·unfold ak ak at r1;obtain⟨v,_,rfl,r1,rfl⟩:=r1;obtain⟨xs,ys,e1,nd,h64,h1⟩:=h1;obtain⟨c,vs,rfl,ec,hkl,rs⟩:=Bh e1 r1;refine⟨c,_,xs,rfl,xJ R1.g ec,?_,nd,h64,fun l2 ms hl2 pm pw=> ?_⟩
  ·rw[List.map_fst_zip (by omega)]
  ·obtain⟨R3,q1,q2,q3,ap⟩:=vO R1 hl2 (Ho (K:=X.K) (F:=F1) ms);exact k _ Γ1 F1 _ l2 _ R3 s1 q1 q2 q3 (Ho ms) ap (h1 ms pm pw)
 ·exact h1.elim
end
theorem hu1(h:n+21<cLine):n+1<cLine:=zK (Nat.add_le_add_left (show 1<=21 by decide) _) h
theorem qv(i:Nat)(hN:X.N[i]?=some x:=by exact rfl)(hv:pN X.env.scope x:=by first | exact Or.inl rfl | exact Or.inr (Or.inl rfl) | exact Or.inr (Or.inr rfl))(hd:(x==("__debug__" :Str))=false:=by decide)(hcd:(x==("__classdict__" :Str))=false:=by decide):QE X F0 H0 (.Name x pos) (cV i):=z4o hN hv hd hcd
end L3
namespace Hd
open PySem PySem.W PySem.Calls PyProof.Rows
def cut(h:Heap)(n:Nat):Frag:=(List.range n).filterMap fun a=>(h.get? a).map fun o=>(a,o)
theorem zza{h:Heap}:∀{l:List Nat} {a:Addr} {o:Obj},(l.filterMap fun a=>(h.get? a).map fun o=>(a,o)).lookup a=some o ->h.get? a=some o:=by
 intro l;induction l with
 | nil=>intro a o e;cases e
 | cons b r ih=>
  intro a o e;rw[List.filterMap_cons] at e;cases hb:h.get? b with
  | none=>rw[hb] at e;exact ih e
  | some x=>
   rw[hb] at e;simp only [Option.map_some,List.lookup_cons] at e;split at e
   ·rename_i q;cases e;rw[beq_iff_eq.mp q];exact hb
   ·exact ih e
theorem z5r(h:Heap)(n:Nat):(cut h n).In h:=fun _ _ e=>zza e
def treeOf:List Obj ->Nat ->BT ->BT
 | [],_,t=>t
 | o::r,i,t=>treeOf r (i+1) (t.ins i o)
abbrev ann:Option Value:=some (.ref 6)
abbrev z:Pos:=⟨0,0,0,0⟩
def env(p:Program):Env:={scope:=p.main.scope,locals:=mainNs,globals:=mainNs,cells:= [],code:= .ref 13,frame:=some 14}
def cB(p:Program):Code:= .body (behindTheImports p) (env p)
noncomputable section
def S0(w:World)(os:OsState):Shared:=⟨boot_heap w.params,Array.mk [],boot_drawn,boot_toks,os⟩
def Sa(x:Option (Shared×Thread))(w:World)(os:OsState):Shared:=match x with | some y=>y.1 | none=>S0 w os
def Ta(s:Shared):SharedT:=⟨treeOf s.heap.objs.toList 0 .nil,15,s.heap.life,s.gens,s.drawn,s.toks,s.os⟩
abbrev TB:=String ->Option Builtin
abbrev GoT:=TB ->Program ->World ->Nat ->Option Value ->Nat ->Shared ->Thread ->Option (Shared×Thread)
abbrev Ua:=TB ->Program ->World ->Nat ->Option Value ->Nat ->Nat ->SharedT ->Thread ->Option (Flow×SharedT×Code×Pos)
abbrev Ub:=TB ->Program ->World ->Nat ->Option Value ->Nat ->Shared ->Thread ->Option Shared
def fore(tb:TB)(GO:GoT)(p:Program)(w:World)(os:OsState):Shared:=Sa (GO tb p w 11 ann 12 (S0 w os) (topStub p)) w os
def shot{α:Type}(tb:TB)(GO:GoT)(RUN:Ua)(TOP:Ub)(EXS:List Stmt ->Env ->Sem Flow)(p:Program)(obs:Shared ->α)(w:World)(os:OsState):Option ((Flow×Code)×α):=
 (RUN tb p w 11 ann 1 30000 (Ta (fore tb GO p w os)) ⟨(EXS (behindTheImports p) (env p)).wrap doneF deadEnd id id,cB p,z,[topFrame z]⟩).bind fun x=>
  (TOP tb p w 11 ann 2 x.2.1.abs ⟨doneF .next,x.2.2.1,x.2.2.2,[topFrame z]⟩).map fun s=>((x.1,x.2.2.1),obs s)
def rest{α:Type}(SEEN:Program ->List Str ->List Str ->(Shared ->Bool) ->Bool ->Shared ->α)(p q:Program)(loose:List Str)(Xt:Shared ->Bool){β:Type}(obs:Frag ->β)(n:Nat)(w:World)(s:Shared):Bool×α×β:=
 (staticsOk (importedModules p.main.body) (boot_heap w.params) s.heap&&namesBound p s.heap&&gensDone s&&laidKept (boot_heap w.params) s.heap,SEEN q loose (importedModules p.main.body) Xt true s,obs (cut s.heap n))
theorem size(w:World):((boot_heap w.params).isNs mainGlobals&&(Array.mk []:Array GenState).size==0,(boot_heap w.params).objs.size,(boot_heap w.params).nsMap mainGlobals "__annotations__")=(true,11,ann):=by kernel_rfl
theorem left
  (e:opening p=plainProg p.main.scope.names) (f:∀s,fenceModules? p s=some s)
  (hA:∀w os,topGo treeTable p w 11 ann 12 (S0 w os) (topStub p)=some (fore treeTable topGo p w os,⟨denote treeTable (cB p),cB p,z,[topFrame z]⟩))
  (hB:∀w os,segRun treeTable p w 11 ann 1 1 (fore treeTable topGo p w os) (blockOf (behindTheImports p) (env p) (cB p) z [topFrame z])=some (.next,fore treeTable topGo p w os,cB p,z))
  (hC:∀w os,(Ta (fore treeTable topGo p w os)).abs=fore treeTable topGo p w os)
  (hD:∀w os,shot treeTable topGo segRunT topRun execs p (rest openSeen p q loose Xt obs n w) w os=some ((.next,cB p),(true,openGood q loose,good))):
  LeftO p q loose Xt (fun s=>obs (cut s.heap n)) (fun _=>good) 40000:=fun w=>by
 obtain⟨⟨h,gs,d,k,os⟩,e1,e2⟩:=Option.map_eq_some_iff.mp (boot_open (N:=40000) e (by decide) f w)
 obtain⟨rfl,rfl,rfl,rfl⟩:h=boot_heap w.params/\gs=Array.mk []/\d=boot_drawn/\k=boot_toks:=by simpa using e2
 obtain⟨z1,z2,z3⟩:_/\_/\_:=by simpa only [Prod.mk.injEq] using size w
 obtain⟨⟨fl,S,c,ps⟩,r1,r2⟩:=Option.bind_eq_some_iff.mp (hD w os);obtain⟨s,t1,t2⟩:=Option.map_eq_some_iff.mp r2;obtain⟨u1,u2⟩:=Prod.mk.inj t2;obtain⟨v1,v2⟩:=Prod.mk.inj u1;obtain⟨y1,y2⟩:=Prod.mk.inj u2;obtain⟨y3,y4⟩:=Prod.mk.inj y2;dsimp only at v1 v2 t1;subst v1 v2;have g1:topRun treeTable p w 11 ann (30000+2) (fore treeTable topGo p w os) (restOf (behindTheImports p++ []) (env p) (cB p) z [topFrame z])=some s:=
  piece_app (by have:=segRun_of r1;rw[hC w os] at this;exact this) (piece_nil t1)
 rw[List.append_nil] at g1;have g2:=go_top (hA w os) (piece_block (hB w os) g1);have g3:=topRun_mono (40000 - (12+ (1+ (30000+2)))) _ _ _ _ g2;unfold openEnds;rw[e1];show(topFrom treeTable p w 40000 (S0 w os)).map _=_;unfold topFrom S0;dsimp only;rw[z1,z2,z3];have g4:topRun treeTable p w 11 ann 40000 ⟨boot_heap w.params,Array.mk [],boot_drawn,boot_toks,os⟩ (topStub p)=some s:=g3;rw[g4];show(match staticsOk (importedModules p.main.body) (boot_heap w.params) s.heap&&namesBound p s.heap&&gensDone s&&laidKept (boot_heap w.params) s.heap with | true=>some s | false=>none).map _=_
 rw[y1];show some (openSeen q loose (importedModules p.main.body) Xt true s,obs (cut s.heap n))=_;rw[y3,y4]
end
open L2 L3
def adr(x:Option (Option Value)):Addr:=match x with | some (some (.ref f))=>f | _=>0
def isRef(x:Option (Option Value)):Bool:=match x with | some (some (.ref _))=>true | _=>false
theorem adr_of(h:isRef x=true):x=some (some (.ref (adr x))):=by
 unfold isRef at h;split at h
 ·rfl
 ·cases h
theorem aT [Decidable p](h:(decide p&&b)=true):p/\b=true:=⟨of_decide_eq_true (Bool.and_eq_true_iff.mp h).1,(Bool.and_eq_true_iff.mp h).2⟩
def bare(fd:FuncData):FuncData:={fd with kwdefaults:= .none,doc:= .none,pyModule:= .none,annotations:=none,code:= .none,closureTuple:= .none}
def Di(K:Frag)(f:Addr)(qual:Str):Option FuncData:=match K.lookup f with
 | some ⟨_,_,.func fd,_⟩=>(match codeIn K fd.code qual&&keepIn K (.ref f) with | true=>some (bare fd) | false=>none)
 | _=>none
def Uc(K:Frag)(v:Value):Bool:=match v with
 | .ref T=>(match K.lookup T with | some ⟨.type t,_,.seq xs _,_⟩=>t== "tuple" &&(match xs.toList with | [.none]=>true | _=>false) | _=>false)
 | _=>false
def fnD(K:Frag)(f:Addr)(qual:Str):Option FuncData:=(Di K f qual).bind fun fd=>match Uc K fd.defaults with | true=>some {fd with defaults:= .none} | false=>none
theorem zv2{K:Frag}{f:Addr}{qual:Str}{g:FuncData}(h:Di K f qual=some g):∃oc od fd sl,K.lookup f=some ⟨oc,od,.func fd,sl⟩/\codeIn K fd.code qual=true/\keepIn K (.ref f)=true/\bare fd=g:=by
 unfold Di at h;split at h
 ·rename_i oc od fd sl e;split at h
  ·rename_i q;obtain⟨q1,q2⟩:=Bool.and_eq_true_iff.mp q;exact⟨oc,od,fd,sl,e,q1,q2,zF h⟩
  ·cases h
 ·cases h
theorem z1h{fd:FuncData}{x qual:Str}{st:Stmt}{dV:Value}(h:bare fd=fnOf x qual (vM st) (sX st) (bV st) dV .none .none .none none .none .none):
  fd=fnOf x qual (vM st) (sX st) (bV st) dV fd.kwdefaults fd.doc fd.pyModule fd.annotations fd.code fd.closureTuple:=by
 obtain⟨⟩:=fd;unfold bare at h;dsimp only at h⊢;injection h with h1 h2 h3 h4 h5 h6 h7 h8 h9 _ _ _ _ _ h10;subst h1 h2 h3 h4 h5 h6 h7 h8 h10
 rfl
theorem z4y{K:Frag}{f:Addr}{x qual:Str}{st:Stmt}(h:Di K f qual=some (fnOf x qual (vM st) (sX st) (bV st) .none .none .none .none none .none .none)):∃fd,fP K x qual st f fd:=by
 obtain⟨oc,od,fd,sl,e,c,k,b⟩:=zv2 h;exact⟨fd,⟨⟨oc,od,_,_,_,_,_,_,sl,z1h b,e,c⟩,k⟩⟩
def HJ(K:Frag)(x:Str):Option FuncData:=match nsIn K mainGlobals x with | some (some (.ref f))=>Di K f x | _=>none
def fnM(K:Frag)(x:Str):Option FuncData:=match nsIn K mainGlobals x with | some (some (.ref f))=>fnD K f x | _=>none
theorem zt4{K:Frag}{x:Str}{g:FuncData}(h:HJ K x=some g):∃f,nsIn K mainGlobals x=some (some (.ref f))/\Di K f x=some g:=by
 unfold HJ at h;split at h
 ·rename_i e;exact⟨_,e,h⟩
 ·cases h
abbrev ex(x qual:Str)(st:Stmt):Option FuncData:=some (fnOf x qual (vM st) (sX st) (bV st) .none .none .none .none none .none .none)
theorem fun_at{K:Frag}{x:Str}{st:Stmt}(h:HJ K x=ex x x st):∃f fd,nsIn K mainGlobals x=some (some (.ref f))/\fP K x x st f fd:=
 let ⟨f,e,h⟩:=zt4 h;let ⟨fd,F⟩:=z4y h;⟨f,fd,e,F⟩
abbrev d(x:Str)(s:Stmt):Str×Stmt:=(x,s)
def seen(K:Frag)(ds:List (Str×Stmt)):List (Option FuncData):=ds.map fun d=>HJ K d.1
def due(ds:List (Str×Stmt)):List (Option FuncData):=ds.map fun d=>ex d.1 d.1 d.2
theorem seen_cons{K:Frag}{d:Str×Stmt}{ds:List (Str×Stmt)}(h:seen K (d::ds)=due (d::ds)):HJ K d.1=ex d.1 d.1 d.2/\seen K ds=due ds:=List.cons.inj h
def recOf(s:Stmt):DefRec:=match s with
 | .FunctionDef n a b _ _ _ sc _ _ ps=>⟨n,a,b,sc,ps⟩
 | _=>⟨Str.empty,vM s,[],bV s,z⟩
def abE(x:Option (Option Value)):Option Int:=match x with | some (some (.int i _))=>some i | _=>none
def qd:List Value ->Option (List (Sum Int Str))
 | []=>some []
 | .int i _::r=>(qd r).map (.inl i:: ·)
 | .str x _::r=>(qd r).map (.inr x:: ·)
 | _=>none
def abF(K:Frag)(a:Addr):Option (List (Sum Int Str)):=match K.lookup a with
 | some ⟨.type t,_,.seq xs _,_⟩=>if t= "tuple" then qd xs.toList else none
 | _=>none
def aas:Sum Int Str ->D
 | .inl i=> .int i
 | .inr x=> .str x
theorem walk_ex{l:OpenLaw}{n k:Nat}{q:Program}{loose:List Str}{XP:(Str ->Option Value) ->Heap ->Prop}{YP:World ->Heap ->Prop}{d:DefRec}{Fx:Frag ->Prop}{CX:World ->rA}{sp:Frag ->Sp}{x:Str}
  (hn:l.most=some n) (hn2:n<=sizeLine) (hdf:d.params.defaults= []) (hr:fB k callerA)
  (hY:∀(w:World) (h:Heap),YP w h ->∃K:Frag,K.In h/\Fx K)
  (F:∀(w:World) (K:Frag) (mg:Str ->Option Value) (fa:Addr) (h:Heap),Fx K ->K.In h ->h.Ns mainGlobals mg ->mg d.name=some (.ref fa) ->
   ∃fd:FuncData,(∀(s:Shared) (u:Value),BindsTo s fd ⟨[u],[]⟩ [(x,u)])/\∀b:Heap,K.In b ->b.Ns mainGlobals mg ->eY l.prog w K mg b (CX w) k fa fd [x] (sp K))
  (hsp:∀(K:Frag) (H:Hp) (a:Addr) (ns:List Int),ns.length<=n ->Only H ->fZ K H a (ns.map V.int) ->sp K [.ref a] H (fun v _=>v= .bl true) fun _ _ _=>False)
  (Py:∀(w:World) (H:Hp) (s:Shared) (e:Value) (s' :Shared),CX w [] H s (fun _ _ _=>False) e s' ->False):
  WalkO q loose XP YP l.row.toRowW d [] (fun f vs=>PySem.call f vs):=by
 refine XF.oG hn hdf fun w s₀ s₁ mg mb fa o pm cd doc a vs ns G Y ho hd hcd hmg hobj hints hlen hg=> ?_;obtain⟨K,KX,fx⟩:=hY w _ Y;obtain⟨fd,hb,hF⟩:=F w K mg fa _ fx KX G.T.g hmg;exact zzv KX G.T.g G.T.b G.T.builtins G.T.nolimit hg hobj hints (zN hlen hn2) hr hF hb (fun H hO hS=>hsp K H a ns hlen hO hS) fun H e s' =>Py w H s₁ e s'
theorem start_binds{K:Frag}{fd:FuncData}{x:Str}{st:Stmt}{f:Addr}(F:fP K "law" "law" st f fd)
  (h:∀(kV doc pm:Value) (an:Option Addr) (cdv ct:Value) (u:Value),bindArgs (fnOf "law" "law" (vM st) (sX st) (bV st) .none kV doc pm an cdv ct) ⟨[u],[]⟩=pure [(x,u)]) (s:Shared) (u:Value):BindsTo s fd ⟨[u],[]⟩ [(x,u)]:=by
 obtain⟨oc,od,kV,doc,pm,an,cdv,ct,osl,rfl,lk,hcd⟩:=F.ex;exact .of_eq (h kV doc pm an cdv ct u)
theorem holds{l:OpenLaw}{q:Program}{loose:List Str}{β:Type}{obs:Frag ->β}{good:β}{n:Nat}{d:DefRec}(said:l.wellSaid=true)
  (L:LeftO l.row.prog q loose (fun _=>true) (fun s=>obs (cut s.heap n)) (fun _=>good) 40000)
  (hd:defOf q l.row.name=some (d,[])) (hp:l.row.prog.theDef l.row.name=some (d.params,d.body,d.scope)) (hk:kwWritten? d.params.kwonlyargs d.params.kw_defaults=some [])
  (ok:(chainsOk q&&opensWell l.row.prog&&(frees l.row.toRowW&&l.row.within.isEmpty))=true) (hb:l.row.prog.bare) (hw:l.row.toRowW.promised) (wr:l.row.writes=false)
  (walk:WalkO q loose (fun _ _=>True) (fun _ h=>∃K:Frag,K.In h/\obs K=good) l.row.toRowW d [] (fun f vs=>PySem.call f vs)):l.Holds:=
 holds_law said fun k1=>holds_open (XP:=fun _ _=>True) (YP:=fun _ h=>∃K:Frag,K.In h/\obs K=good) L (fun _ s e=>⟨_,z5r s.heap n,e⟩) (fun _ _ _ ⟨K,x,e⟩ k=>⟨K,x.keeps k,e⟩)
  (fun _ _=>trivial) (fun _ _ _ _ _=>trivial) hd hp hk (fun s _=>recFacts_of rfl) (by rw[wr];rfl) k1 ok hb hw walk
end Hd
namespace HM
theorem zsg(a b:Int):Int.gcd b (a.fmod b)=Int.gcd a b:=by
 rw[Int.fmod_def,Int.gcd_sub_mul_left_right,Int.gcd_comm]
theorem Ud{a b:Int}(h:b≠0):(a.fmod b).natAbs<b.natAbs:=by
 rw[Int.fmod_eq_emod];have h1:=Int.emod_nonneg a h;have h2:=Int.emod_lt a h;split
 ·omega
 ·rename_i q;have q1:b<0:=by omega
  have q2:a % b≠0:=fun z=>q (.inr (Int.dvd_of_emod_eq_zero z));omega
def dv(t b:Int):Int:=if b<0 then -(Int.gcd t b:Int) else Int.gcd t b
def fr(t b:Int):Int×Int:=(t.fdiv (dv t b),b.fdiv (dv t b))
theorem HN{t b:Int}(h:b≠0):dv t b≠0:=by
 unfold dv;have:Int.gcd t b≠0:=by
  intro e;exact h (Int.gcd_eq_zero_iff.mp e).2
 split<;>omega
theorem z22(t b:Int):dv t b∣t:=by
 unfold dv;split
 ·exact Int.neg_dvd.mpr (Int.gcd_dvd_left ..)
 ·exact Int.gcd_dvd_left ..
theorem zvx(t b:Int):dv t b∣b:=by
 unfold dv;split
 ·exact Int.neg_dvd.mpr (Int.gcd_dvd_right ..)
 ·exact Int.gcd_dvd_right ..
theorem xO{a b:Int}(h:b∣a):b*a.fdiv b=a:=by
 rw[Int.fdiv_eq_ediv_of_dvd h];exact Int.mul_ediv_cancel' h
theorem Lf(t b:Int):dv t b* (fr t b).1=t:=xO (z22 t b)
theorem HS(t b:Int):dv t b* (fr t b).2=b:=xO (zvx t b)
theorem Ue{t b:Int}(h:b≠0):0< (fr t b).2:=by
 have e:=HS t b;have n:=HN (t:=t) h;generalize (fr t b).2=y at*;unfold dv at e n;split at e
 ·rename_i hb;have g0:(0:Int)<Int.gcd t b:=by
   rw[if_pos hb] at n;have:(0:Int)<=Int.gcd t b:=Int.natCast_nonneg _;omega
  rcases Int.lt_or_le 0 y with h | h
  ·exact h
  ·have:0<= -(Int.gcd t b:Int)*y:=by
    rw[Int.neg_mul,<- Int.mul_neg];exact Int.mul_nonneg (by omega) (by omega)
   omega
 ·rename_i hb;have g0:(0:Int)<Int.gcd t b:=by
   rw[if_neg hb] at n;have:(0:Int)<=Int.gcd t b:=Int.natCast_nonneg _;omega
  rcases Int.lt_or_le 0 y with h | h
  ·exact h
  ·have:(Int.gcd t b:Int)*y<=0:=Int.mul_nonpos_of_nonneg_of_nonpos (by omega) h
   omega
theorem Ug{t b:Int}(h:b≠0):Int.gcd (fr t b).1 (fr t b).2=1:=by
 have e1:=Lf t b;have e2:=HS t b;have n:=HN (t:=t) h;have e3:Int.gcd (dv t b* (fr t b).1) (dv t b* (fr t b).2)=(dv t b).natAbs*Int.gcd (fr t b).1 (fr t b).2:=Int.gcd_mul_left ..;rw[e1,e2] at e3;have e4:(dv t b).natAbs=Int.gcd t b:=by
  unfold dv;split<;>simp
 rw[e4] at e3;have g0:Int.gcd t b≠0:=fun z=>h (Int.gcd_eq_zero_iff.mp z).2;exact(Nat.eq_of_mul_eq_mul_left (Nat.pos_of_ne_zero g0) (by rw[Nat.mul_one];exact e3)).symm
theorem Uh{t b:Int}:(fr t b).1*b=t* (fr t b).2:=by
 have e1:=Lf t b;have e2:=HS t b
 calc (fr t b).1*b=(fr t b).1* (dv t b* (fr t b).2):=by rw[e2]
  _=(dv t b* (fr t b).1)* (fr t b).2:=by rw[<- Int.mul_assoc,Int.mul_comm (fr t b).1]
  _=t* (fr t b).2:=by rw[e1]
theorem zkt{a b c d:Int}(hb:0<b)(hd:0<d)(h1:Int.gcd a b=1)(h2:Int.gcd c d=1)(h:a*d=c*b):a=c/\b=d:=by
 have bd:b∣d:=by
  have:b∣a*d:=⟨c,by rw[h,Int.mul_comm]⟩
  have z:=Int.dvd_gcd_mul_iff_dvd_mul.mpr this;rw[Int.gcd_comm,h1] at z
  simpa using z
 have db:d∣b:=by
  have:d∣c*b:=⟨a,by rw[<- h,Int.mul_comm]⟩
  have z:=Int.dvd_gcd_mul_iff_dvd_mul.mpr this;rw[Int.gcd_comm,h2] at z
  simpa using z
 have e:b=d:=Int.dvd_antisymm (Int.le_of_lt hb) (Int.le_of_lt hd) bd db;subst e;exact⟨Int.eq_of_mul_eq_mul_right (Int.ne_of_gt hb) h,rfl⟩
theorem z6o{t b t' b' :Int}(h:b≠0)(h' :b' ≠0)(e:t*b' =t' *b):fr t b=fr t' b' :=by
 have c1:=Uh (t:=t) (b:=b);have c2:=Uh (t:=t') (b:=b');have p1:=Ue (t:=t) h;have p2:=Ue (t:=t') h';have k:(fr t b).1* (fr t' b').2=(fr t' b').1* (fr t b).2:=by
  generalize (fr t b).1=x at*;generalize (fr t b).2=y at*;generalize (fr t' b').1=x' at*;generalize (fr t' b').2=y' at*
  
  have:(x*y')* (b*b')=(x' *y)* (b*b'):=by
   calc (x*y')* (b*b')=(x*b)* (b' *y'):=by ac_rfl
    _=(t*y)* (b' *y'):=by rw[c1]
    _=(t*b')* (y*y'):=by ac_rfl
    _=(t' *b)* (y*y'):=by rw[e]
    _=(t' *y')* (b*y):=by ac_rfl
    _=(x' *b')* (b*y):=by rw[c2]
    _=(x' *y)* (b*b'):=by ac_rfl
  exact Int.eq_of_mul_eq_mul_right (Int.mul_ne_zero h h') this
 obtain⟨e1,e2⟩:=zkt p1 p2 (Ug h) (Ug h') k;exact Prod.ext e1 e2
theorem z5j{a b:Int}(hb:0<b)(h:Int.gcd a b=1):fr a b=(a,b):=by
 have c1:=Uh (t:=a) (b:=b);obtain⟨e1,e2⟩:=zkt (Ue (t:=a) (Int.ne_of_gt hb)) hb (Ug (Int.ne_of_gt hb)) h (by rw[c1])
 exact Prod.ext e1 e2
theorem z00{t b:Int}(h:b≠0):(fr t b).1.natAbs<=t.natAbs:=by
 have e:=congrArg Int.natAbs (Lf t b);rw[Int.natAbs_mul] at e;have n:=HN (t:=t) h;have:1<=(dv t b).natAbs:=by omega
 calc (fr t b).1.natAbs=1* (fr t b).1.natAbs:=by rw[Nat.one_mul]
  _<=(dv t b).natAbs* (fr t b).1.natAbs:=Nat.mul_le_mul_right _ this
  _=t.natAbs:=e
theorem z1f{t b:Int}(h:b≠0):(fr t b).2.natAbs<=b.natAbs:=by
 have e:=congrArg Int.natAbs (HS t b);rw[Int.natAbs_mul] at e;have n:=HN (t:=t) h;have:1<=(dv t b).natAbs:=by omega
 calc (fr t b).2.natAbs=1* (fr t b).2.natAbs:=by rw[Nat.one_mul]
  _<=(dv t b).natAbs* (fr t b).2.natAbs:=Nat.mul_le_mul_right _ this
  _=b.natAbs:=e
end HM
namespace L3
open PySem L2 HM
def qD(q:Rat):D:= .tup [.int q.num,.int q.den]
theorem z3a{t b:Int}(h:b≠0):fr t b=((Rat.divInt t b).num,((Rat.divInt t b).den:Int)):=by
 have hb:(0:Int)< (Rat.divInt t b).den:=by have:=(Rat.divInt t b).den_pos;omega
 have hg:Int.gcd (Rat.divInt t b).num (Rat.divInt t b).den=1:=by
  have:=(Rat.divInt t b).reduced;unfold Nat.Coprime at this
  simpa [Int.gcd] using this
 have e:(Rat.divInt t b).num*b=t* (Rat.divInt t b).den:=by
  have q:=Rat.num_divInt_den (Rat.divInt t b);rw[Rat.divInt_eq_divInt_iff (by omega) h] at q
  exact q
 have:=z6o (t:=t) (b:=b) (t' :=(Rat.divInt t b).num) (b' :=(Rat.divInt t b).den) h (by omega) e.symm
 rw[this,z5j hb hg]
theorem Lg{t b:Int}(h:b≠0):fr t b=(((t:Rat)/ (b:Rat)).num,(((t:Rat)/ (b:Rat)).den:Int)):=by
 rw[z3a h,Rat.divInt_eq_div]
theorem Lh(q:Rat):((q.den:Int):Rat)≠0:=by
 have:=q.den_pos;intro e;have:(q.den:Int)=0:=by exact_mod_cast e
 omega
theorem Li(q:Rat):(q.num:Rat)/ ((q.den:Int):Rat)=q:=by
 have:=Rat.num_divInt_den q;rw[Rat.divInt_eq_div] at this;exact this
def Sz(n:Nat)(q:Rat):Prop:=bN q.num<=n/\bN (q.den:Int)<=n
theorem z39{t b:Int}{n:Nat}(h:b≠0)(h1:bN t<=n)(h2:bN b<=n):Sz n ((t:Rat)/ (b:Rat)):=by
 have e:=Lg (t:=t) h;have e1:(fr t b).1=_:=congrArg Prod.fst e;have e2:(fr t b).2=_:=congrArg Prod.snd e;dsimp only at e1 e2;refine⟨zN (sO ?_) h1,zN (sO ?_) h2⟩
 ·rw[<- e1];exact z00 h
 ·rw[<- e2];exact z1f h
theorem z5e(a b:Rat):a+b=((a.num*b.den+b.num*a.den:Int):Rat)/ ((a.den*b.den:Int):Rat):=by
 have ha:=Lh a;have hb:=Lh b;have h1:=Li a;have h2:=Li b;rw[Rat.intCast_add,Rat.intCast_mul,Rat.intCast_mul,Rat.intCast_mul];generalize (a.num:Rat)=x at*;generalize (b.num:Rat)=y at*;generalize ((a.den:Int):Rat)=u at*;generalize ((b.den:Int):Rat)=v at*;subst h1 h2
 grind
theorem z6b(a b:Rat):a - b=((a.num*b.den - b.num*a.den:Int):Rat)/ ((a.den*b.den:Int):Rat):=by
 have ha:=Lh a;have hb:=Lh b;have h1:=Li a;have h2:=Li b;rw[Rat.intCast_sub,Rat.intCast_mul,Rat.intCast_mul,Rat.intCast_mul];generalize (a.num:Rat)=x at*;generalize (b.num:Rat)=y at*;generalize ((a.den:Int):Rat)=u at*;generalize ((b.den:Int):Rat)=v at*;subst h1 h2
 grind
theorem zk0(a b:Rat):(a.den*b.den:Int)≠0:=Int.mul_ne_zero (by have:=a.den_pos;omega) (by have:=b.den_pos;omega)
theorem z61{t b:Int}(h:b≠0):D.tup [.int (fr t b).1,.int (fr t b).2]=qD ((t:Rat)/ (b:Rat)):=by rw[Lg h];rfl
theorem Lj(i:Int):qD (i:Rat)= .tup [.int i,.int 1]:=rfl
theorem z0p{i:Int}{n:Nat}(h:bN i<=n)(hn:1<=n):Sz n (i:Rat):=⟨h,zN (iD (k:=1) (show(1:Nat)<2^1 by decide)) hn⟩
end L3
namespace HM
section
variable{α:Type}[DecidableEq α]
def aH(g hs:List α):Bool:=hs.any fun h=>decide (h∈g)
theorem cH{g hs:List α}:aH g hs=true↔∃x,x∈g/\x∈hs:=by
 unfold aH;rw[List.any_eq_true];exact⟨fun⟨x,h1,h2⟩=>⟨x,of_decide_eq_true h2,h1⟩,fun⟨x,h1,h2⟩=>⟨x,h2,decide_eq_true h1⟩⟩
theorem zuj{g hs:List α}(h:(!aH g hs)=true){x:α}(h1:x∈g):x∉hs:=fun h2=>by
 rw[cH.mpr ⟨x,h1,h2⟩] at h;cases h
structure eN (Ss fs:List (List α)):Prop where
 ne:∀f∈fs,f≠ []
 dj:fs.Pairwise fun a b=>∀x∈a,x∉b
 co:∀x,(∃f∈fs,x∈f)↔∃S∈Ss,x∈S
 sub:∀S∈Ss,∃f∈fs,∀x∈S,x∈f
 min:∀C:α ->Prop,(∀S∈Ss,(∃x∈S,C x) ->∀x∈S,C x) ->∀f∈fs,(∃x∈f,C x) ->∀x∈f,C x
theorem eN.nil:eN ([]:List (List α)) []:=by
 refine⟨?_,List.Pairwise.nil,?_,?_,?_⟩
 ·intro _ h;cases h
 ·intro x;constructor
  ·rintro⟨_,h,_⟩;cases h
  ·rintro⟨_,h,_⟩;cases h
 ·intro _ h;cases h
 ·intro _ _ _ h;cases h
theorem Dj:∀{fs:List (List α)},fs.Pairwise (fun a b=>∀x∈a,x∉b) ->∀{a b:List α} {x:α},a∈fs ->b∈fs ->x∈a ->x∈b ->a=b
 | [],_,_,_,_,ha,_,_,_=>by cases ha
 | f::fs,h,a,b,x,ha,hb,xa,xb=>by
  rw[List.pairwise_cons] at h;rcases zT.mp ha with e1 | ha1
  ·subst e1;rcases zT.mp hb with e | hb
   ·exact e.symm
   ·exact absurd xb (h.1 b hb x xa)
  ·rcases zT.mp hb with e | hb
   ·subst e;exact absurd xa (h.1 a (by assumption) x xb)
   ·exact Dj h.2 (by assumption) hb xa xb
theorem eN.step{Ss fs:List (List α)}{S g:List α}(h:eN Ss fs)(hS:S≠ [])(hg:∀x,x∈g↔x∈S\/∃f∈fs,aH f S=true/\x∈f):
  eN (Ss++ [S]) (fs.filter (fun f=> !aH f S)++ [g]):=by
 have mf:∀f,f∈fs.filter (fun f=> !aH f S)++ [g] ->(f∈fs/\ (!aH f S)=true)\/f=g:=fun f hf=>by
  rcases zR.mp hf with hf | hf
  ·exact .inl (zB.mp hf)
  ·exact .inr (zQ.mp hf)
 have mg:g∈fs.filter (fun f=> !aH f S)++ [g]:=zP _ (zQ.mpr rfl);have ml:∀f∈fs,(!aH f S)=true ->f∈fs.filter (fun f=> !aH f S)++ [g]:=fun f h1 h2=>zO _ (zB.mpr ⟨h1,h2⟩);refine⟨fun f hf=> ?_,?_,fun x=>⟨?_,?_⟩,fun T hT=> ?_,fun C hC f hf hx=> ?_⟩
 ·rcases mf f hf with hf | rfl
  ·exact h.ne f hf.1
  ·intro z;cases S with
   | nil=>exact hS rfl
   | cons x S=>
    have:=(hg x).mpr (.inl zW);rw[z] at this;cases this
 ·rw[List.pairwise_append];refine⟨h.dj.filter _,List.pairwise_singleton _ _,fun a ha b hb x xa=> ?_⟩;rw[List.mem_singleton.mp hb];obtain⟨ha,hn⟩:=zB.mp ha;intro xg;rcases(hg x).mp xg with xs | ⟨f,hf,hm,xf⟩
  ·exact zuj hn xa xs
  ·have:=Dj h.dj ha hf xa xf;subst this;rw[hm] at hn;cases hn
 ·rintro⟨f,hf,xf⟩;rcases mf f hf with hf | rfl
  ·obtain⟨T,hT,xT⟩:=(h.co x).mp ⟨f,hf.1,xf⟩;exact⟨T,zO _ hT,xT⟩
  ·rcases(hg x).mp xf with xs | ⟨f,hf,_,xf⟩
   ·exact⟨S,zP _ (zQ.mpr rfl),xs⟩
   ·obtain⟨T,hT,xT⟩:=(h.co x).mp ⟨f,hf,xf⟩;exact⟨T,zO _ hT,xT⟩
 ·rintro⟨T,hT,xT⟩;rcases zR.mp hT with hT | hT
  ·obtain⟨f,hf,xf⟩:=(h.co x).mpr ⟨T,hT,xT⟩;cases q:aH f S with
   | true=>exact⟨g,mg,(hg x).mpr (.inr ⟨f,hf,q,xf⟩)⟩
   | false=>exact⟨f,ml f hf (by rw[q];rfl),xf⟩
  ·rw[List.mem_singleton.mp hT] at xT;exact⟨g,mg,(hg x).mpr (.inl xT)⟩
 ·rcases zR.mp hT with hT | hT
  ·obtain⟨f,hf,k⟩:=h.sub T hT;cases q:aH f S with
   | true=>exact⟨g,mg,fun x hx=>(hg x).mpr (.inr ⟨f,hf,q,k x hx⟩)⟩
   | false=>exact⟨f,ml f hf (by rw[q];rfl),k⟩
  ·rw[List.mem_singleton.mp hT];exact⟨g,mg,fun x hx=>(hg x).mpr (.inl hx)⟩
 ·have Ui:∀T∈Ss,(∃x∈T,C x) ->∀x∈T,C x:=fun T hT=>hC T (zO _ hT);have hCS:=hC S (zP _ (zQ.mpr rfl));rcases mf f hf with hf | rfl
  ·exact h.min C Ui f hf.1 hx
  ·have all:∀x∈S,C x:=by
    obtain⟨x,xf,cx⟩:=hx;rcases(hg x).mp xf with xs | ⟨f,hf,hm,xf⟩
    ·exact hCS ⟨x,xs,cx⟩
    ·have:=h.min C Ui f hf ⟨x,xf,cx⟩;obtain⟨y,y1,y2⟩:=cH.mp hm;exact hCS ⟨y,y2,this y y1⟩
   intro y hy;rcases(hg y).mp hy with ys | ⟨f,hf,hm,yf⟩
   ·exact all y ys
   ·obtain⟨z,z1,z2⟩:=cH.mp hm;exact h.min C Ui f hf ⟨z,z1,all z z2⟩ y yf
theorem eN.incl{Ss vg fs fs' :List (List α)}(h:eN Ss fs)(h' :eN vg fs')(e:∀S∈Ss,∃S' ∈vg,∀x,x∈S↔x∈S'){f f' :List α}{x:α}(hf:f∈fs)(hf' :f' ∈fs')(h1:x∈f)(h2:x∈f'):∀y∈f,y∈f' :=by
 refine h.min (· ∈f') (fun S hS ⟨z,z1,z2⟩ y hy=> ?_) f hf ⟨x,h1,h2⟩;obtain⟨S',hS',k⟩:=e S hS;obtain⟨f2,hf2,k2⟩:=h'.sub S' hS';have:=Dj h'.dj hf' hf2 z2 (k2 z ((k z).mp z1));subst this;exact k2 y ((k y).mp hy)
theorem eN.same{Ss vg fs fs' :List (List α)}(h:eN Ss fs)(h' :eN vg fs')(e:∀S∈Ss,∃S' ∈vg,∀x,x∈S↔x∈S')(e' :∀S∈vg,∃S' ∈Ss,∀x,x∈S↔x∈S'){f:List α}(hf:f∈fs):∃f' ∈fs',∀x,x∈f↔x∈f' :=by
 cases q:f with
 | nil=>exact absurd q (h.ne f hf)
 | cons x r=>
  rw[<- q];have hx:x∈f:=by rw[q];exact zW
  obtain⟨S,hS,xS⟩:=(h.co x).mp ⟨f,hf,hx⟩;obtain⟨S',hS',k⟩:=e S hS;obtain⟨f',hf',xf'⟩:=(h'.co x).mpr ⟨S',hS',(k x).mp xS⟩;exact⟨f',hf',fun y=>⟨fun hy=>h.incl h' e hf hf' hx xf' y hy,fun hy=>h'.incl h e' hf' hf xf' hx y hy⟩⟩
theorem eN.perm{Ss fs gs:List (List α)}(h:eN Ss fs)(p:gs.Perm fs):eN Ss gs:=by
 refine⟨fun f hf=>h.ne f (p.mem_iff.mp hf),?_,fun x=> ?_,fun S hS=> ?_,fun C hC f hf=>h.min C hC f (p.mem_iff.mp hf)⟩
 ·exact(p.pairwise_iff (fun{a b} k x xb xa=>k x xa xb)).mpr h.dj
 ·rw[<- h.co x];exact⟨fun⟨f,hf,k⟩=>⟨f,p.mem_iff.mp hf,k⟩,fun⟨f,hf,k⟩=>⟨f,p.mem_iff.mpr hf,k⟩⟩
 ·obtain⟨f,hf,k⟩:=h.sub S hS;exact⟨f,p.mem_iff.mpr hf,k⟩
inductive Alike:List (List α) ->List (List α) ->Prop
 | nil:Alike [] []
 | cons {f g:List α} {fs gs:List (List α)} (h:∀x,x∈f↔x∈g) (r:Alike fs gs):Alike (f::fs) (g::gs)
theorem Alike.sym{fs gs:List (List α)}(h:Alike fs gs):Alike gs fs:=by
 induction h with
 | nil=>exact .nil
 | cons h _ ih=>exact .cons (fun x=>(h x).symm) ih
theorem Alike.mem{fs gs:List (List α)}(h:Alike fs gs){f:List α}(hf:f∈fs):∃g∈gs,∀x,x∈f↔x∈g:=by
 induction h with
 | nil=>cases hf
 | @cons f0 g0 fs gs k _ ih=>
  rcases zT.mp hf with rfl | hf
  ·exact⟨g0,zW,k⟩
  ·obtain⟨g,hg,k⟩:=ih hf;exact⟨g,zV _ hg,k⟩
theorem Alike.dj{fs gs:List (List α)}(h:Alike fs gs)(d:fs.Pairwise fun a b=>∀x∈a,x∉b):gs.Pairwise fun a b=>∀x∈a,x∉b:=by
 induction h with
 | nil=>exact .nil
 | @cons f0 g0 fs gs k r ih=>
  rw[List.pairwise_cons] at d⊢;refine⟨fun b hb x xg xb=> ?_,ih d.2⟩;obtain⟨f,hf,kk⟩:=r.sym.mem hb;exact d.1 f hf x ((k x).mpr xg) ((kk x).mp xb)
theorem eN.alike{Ss fs gs:List (List α)}(h:eN Ss fs)(p:Alike fs gs):eN Ss gs:=by
 refine⟨fun g hg z=> ?_,p.dj h.dj,fun x=> ?_,fun S hS=> ?_,fun C hC g hg hx y hy=> ?_⟩
 ·obtain⟨f,hf,k⟩:=p.sym.mem hg;refine h.ne f hf (List.eq_nil_iff_forall_not_mem.mpr fun x hx=> ?_);have:=(k x).mpr hx;rw[z] at this;cases this
 ·rw[<- h.co x];constructor
  ·rintro⟨g,hg,xg⟩;obtain⟨f,hf,k⟩:=p.sym.mem hg;exact⟨f,hf,(k x).mp xg⟩
  ·rintro⟨f,hf,xf⟩;obtain⟨g,hg,k⟩:=p.mem hf;exact⟨g,hg,(k x).mp xf⟩
 ·obtain⟨f,hf,k⟩:=h.sub S hS;obtain⟨g,hg,kk⟩:=p.mem hf;exact⟨g,hg,fun x hx=>(kk x).mp (k x hx)⟩
 ·obtain⟨f,hf,k⟩:=p.sym.mem hg;obtain⟨x,xg,cx⟩:=hx;exact h.min C hC f hf ⟨x,(k x).mp xg,cx⟩ y ((k y).mp hy)
theorem Lk{β:Type}{R:β ->β ->Prop}(as:∀a b,R a b ->¬R b a):∀{l m:List β},l.Pairwise R ->m.Pairwise R ->(∀x,x∈l↔x∈m) ->l=m
 | [],[],_,_,_=>rfl
 | [],b::m,_,_,h=>by have:=(h b).mpr zW;cases this
 | a::l,[],_,_,h=>by have:=(h a).mp zW;cases this
 | a::l,b::m,h1,h2,h=>by
  rw[List.pairwise_cons] at h1 h2;have e:a=b:=by
   rcases zT.mp ((h a).mp zW) with e | q
   ·exact e
   ·rcases zT.mp ((h b).mpr zW) with e | q'
    ·exact e.symm
    ·exact absurd (h1.1 b q') (as _ _ (h2.1 a q))
  subst e;have S6:¬R a a:=fun z=>as a a z z;rw[Lk as h1.2 h2.2 fun x=>⟨fun hx=> ?_,fun hx=> ?_⟩]
  ·rcases zT.mp ((h x).mp (zV _ hx)) with e | q
   ·subst e;exact absurd (h1.1 _ hx) S6
   ·exact q
  ·rcases zT.mp ((h x).mpr (zV _ hx)) with e | q
   ·subst e;exact absurd (h2.1 _ hx) S6
   ·exact q
theorem xP:∀{l U:List α},l.Nodup ->(∀x∈l,x∈U) ->l.length<=U.length
 | [],U,_,_=>Nat.zero_le _
 | a::l,U,nd,h=>by
  have nd' :=List.nodup_cons.mp nd;have ha:=h a zW;have:=xP (l:=l) (U:=U.erase a) nd'.2 fun x hx=>by
   have ne:x≠a:=fun z=>nd'.1 (z ▸ hx);exact(List.mem_erase_of_ne ne).mpr (h x (zV _ hx))
  rw[List.length_erase_of_mem ha] at this;have:0<U.length:=List.length_pos_of_mem ha;rw[List.length_cons];omega
theorem Ln:∀{fs:List (List α)},fs.Pairwise (fun a b=>∀x∈a,x∉b) ->(∀f∈fs,f.Nodup) ->fs.flatten.Nodup
 | [],_,_=>by simp
 | f::fs,h,k=>by
  rw[List.pairwise_cons] at h;rw[List.flatten_cons,List.nodup_append];refine⟨k f zW,Ln h.2 fun g hg=>k g (zV _ hg),fun a ha b hb e=> ?_⟩;subst e;obtain⟨g,hg,ag⟩:=List.mem_flatten.mp hb;exact h.1 g hg a ha ag
end
def aY(g:Nat ->List Nat ->Rat):List Nat ->Rat
 | []=>0
 | c::cs=>g c cs - aY (fun d ds=>g d (c::ds)) cs
abbrev Row:=Nat ->Rat
def dt:List Row ->List Nat ->Rat
 | [],[]=>1
 | [],_::_=>0
 | r::rs,cs=>aY (fun c ds=>r c*dt rs ds) cs
theorem Uj{g h:Nat ->List Nat ->Rat}:∀{cs:List Nat},(∀c ds,g c ds=h c ds) ->aY g cs=aY h cs
 | [],_=>rfl
 | c::cs,e=>by
  unfold aY;rw[e,Uj (cs:=cs) fun d ds=>e d (c::ds)]
theorem Uk{g h:Nat ->List Nat ->Rat}:∀{cs:List Nat},aY (fun c ds=>g c ds+h c ds) cs=aY g cs+aY h cs
 | []=>by unfold aY;grind
 | c::cs=>by
  unfold aY;rw[Uk (cs:=cs)]
  grind
theorem HW{g:Nat ->List Nat ->Rat}(k:Rat):∀{cs:List Nat},aY (fun c ds=>k*g c ds) cs=k*aY g cs
 | []=>by unfold aY;grind
 | c::cs=>by
  unfold aY;rw[HW k (cs:=cs)]
  grind
theorem Lq{g:Nat ->List Nat ->Rat}:∀{cs:List Nat},(∀c∈cs,∀ds,g c ds=0) ->aY g cs=0
 | [],_=>rfl
 | c::cs,h=>by
  unfold aY;rw[h c List.mem_cons_self,Lq (cs:=cs) fun d hd ds=>h d (List.mem_cons_of_mem _ hd) _]
  grind
def two(r s:Row)(h:List Nat ->Rat)(cs:List Nat):Rat:=aY (fun c ds=>r c*aY (fun d es=>s d*h es) ds) cs
theorem zsp(r s:Row):∀(cs:List Nat) (h:List Nat ->Rat),two r s h cs= - two s r h cs
 | [],h=>by unfold two aY;grind
 | c::cs,h=>by
  have key:∀r s:Row,two r s h (c::cs)=r c*aY (fun d es=>s d*h es) cs - s c*aY (fun d es=>r d*h es) cs+two r s (fun es=>h (c::es)) cs:=by
   intro r s;show r c*aY (fun d es=>s d*h es) cs - aY (fun x ds=>r x*aY (fun d es=>s d*h es) (c::ds)) cs=_;have e:(fun(x:Nat) (ds:List Nat)=>r x*aY (fun d es=>s d*h es) (c::ds))=fun x ds=>(s c* (r x*h ds))+ (-1)* (r x*aY (fun d es=>s d*h (c::es)) ds):=by
    funext x ds
    show r x* (s c*h ds - aY (fun d es=>s d*h (c::es)) ds)=_
    grind
   rw[e,Uk,HW,HW];unfold two
   grind
  rw[key r s,key s r,zsp r s cs]
  grind
theorem zxa(r s:Row)(rs:List Row)(cs:List Nat):dt (r::s::rs) cs= - dt (s::r::rs) cs:=zsp r s cs (dt rs)
theorem half{x:Rat}(h:x= -x):x=0:=by grind
theorem z02{r:Row}:∀{rs:List Row} {cs:List Nat},r∈rs ->dt (r::rs) cs=0
 | [],_,h=>by cases h
 | s::rs,cs,h=>by
  rcases zT.mp h with e | h
  ·subst e;exact half (zxa r r rs cs)
  ·rw[zxa];have:dt (s::r::rs) cs=0:=Lq fun c _ ds=>by
    show s c*dt (r::rs) ds=0;rw[z02 h];grind
   rw[this];grind
def comb:List Rat ->List Row ->Row
 | k::ks,r::rs=>fun j=>k*r j+comb ks rs j
 | _,_=>fun _=>0
theorem z4f(r s:Row)(k:Rat)(rs:List Row)(cs:List Nat):dt ((fun j=>r j+k*s j)::rs) cs=dt (r::rs) cs+k*dt (s::rs) cs:=by
 show aY (fun c ds=>(r c+k*s c)*dt rs ds) cs=aY (fun c ds=>r c*dt rs ds) cs+k*aY (fun c ds=>s c*dt rs ds) cs;rw[<- HW,<- Uk];exact Uj fun c ds=>by grind
theorem HX{rs:List Row}{cs:List Nat}:∀{ks:List Rat} {ss:List Row} {r:Row},(∀s∈ss,s∈rs) ->dt ((fun j=>r j+comb ks ss j)::rs) cs=dt (r::rs) cs
 | [],ss,r,_=>by
  have:(fun j=>r j+comb [] ss j)=r:=by funext j;unfold comb;grind
  rw[this]
 | k::ks,[],r,_=>by
  have:(fun j=>r j+comb (k::ks) [] j)=r:=by funext j;unfold comb;grind
  rw[this]
 | k::ks,s::ss,r,h=>by
  have e:(fun j=>r j+comb (k::ks) (s::ss) j)=fun j=>(fun j=>r j+comb ks ss j) j+k*s j:=by
   funext j
   show r j+ (k*s j+comb ks ss j)=_
   grind
  rw[e,z4f,HX (ks:=ks) fun t ht=>h t (List.mem_cons_of_mem _ ht),z02 (h s List.mem_cons_self)]
  grind
theorem Lr{r:Row}{rs:List Row}{j:Nat}{cs:List Nat}(h:∀c∈cs,r c=0):dt (r::rs) (j::cs)=r j*dt rs cs:=by
 show r j*dt rs cs - aY (fun d ds=>r d*dt rs (j::ds)) cs=_;rw[Lq fun c hc ds=>by rw[h c hc];grind]
 grind
def HY(f:List Nat ->Rat):Prop:=∀pre c d post,f (pre++c::d::post)= - f (pre++d::c::post)
theorem znr:∀(pre:List Nat) (g:Nat ->List Nat ->Rat) (c d:Nat) (post:List Nat),(∀x,HY (g x)) ->aY g (pre++c::d::post)= - aY g (pre++d::c::post)
 | [],g,c,d,post,h=>by
  have key:∀c d,aY g (c::d::post)=g c (d::post) - g d (c::post)+aY (fun x es=>g x (c::d::es)) post:=by
   intro c d;show g c (d::post) - (g d (c::post) - aY (fun x es=>g x (c::d::es)) post)=_
   grind
  have e:aY (fun x es=>g x (d::c::es)) post=(-1)*aY (fun x es=>g x (c::d::es)) post:=by
   rw[<- HW];exact Uj fun x es=>by
    have:=h x [] d c es;simp only [List.nil_append] at this;rw[this];grind
  show aY g (c::d::post)= - aY g (d::c::post);rw[key c d,key d c,e]
  grind
 | a::pre,g,c,d,post,h=>by
  show g a (pre++c::d::post) - aY (fun x ds=>g x (a::ds)) (pre++c::d::post)= - (g a (pre++d::c::post) - aY (fun x ds=>g x (a::ds)) (pre++d::c::post));rw[h a pre c d post,znr pre (fun x ds=>g x (a::ds)) c d post fun x p c d q=>h x (a::p) c d q]
  grind
theorem Ls:∀rs:List Row,HY (dt rs)
 | []=>fun pre c d post=>by cases pre<;>(unfold dt;grind)
 | r::rs=>fun pre c d post=>znr pre _ c d post fun x p a b q=>by
   show r x*dt rs (p++a::b::q)= - (r x*dt rs (p++b::a::q));rw[Ls rs p a b q]
   grind
theorem Ia(rs:List Row):∀{post pre:List Nat} {c:Nat},c∈post ->dt rs (pre++c::post)=0
 | [],_,_,h=>by cases h
 | d::post,pre,c,h=>by
  rcases zT.mp h with e | h
  ·subst e;exact half (Ls rs pre c c post)
  ·rw[Ls rs pre c d post];have:=Ia rs (pre:=pre++ [d]) h;rw[List.append_assoc] at this;rw[show pre++d::c::post=pre++ ([d]++c::post) from rfl,this];grind
def fL(rs:List Row)(f:Row):Prop:=∃ks:List Rat,ks.length=rs.length/\∀j,f j=comb ks rs j
theorem zro:∀{ks ls:List Rat} {rs:List Row},ks.length=rs.length ->ls.length=rs.length ->∃ms:List Rat,ms.length=rs.length/\∀j,comb ms rs j=comb ks rs j+comb ls rs j
 | [],[],[],_,_=>⟨[],rfl,fun j=>by unfold comb;grind⟩
 | k::ks,l::ls,r::rs,h1,h2=>by
  obtain⟨ms,h3,h4⟩:=zro (ks:=ks) (ls:=ls) (rs:=rs) (by simpa using h1) (by simpa using h2)
  refine⟨(k+l)::ms,by simp [h3],fun j=> ?_⟩
  show(k+l)*r j+comb ms rs j=(k*r j+comb ks rs j)+ (l*r j+comb ls rs j);rw[h4];grind
 | [],_,_::_,h,_=>by cases h
 | _::_,_,[],h,_=>by cases h
 | _,[],_::_,_,h=>by cases h
 | _,_::_,[],_,h=>by cases h
theorem zrr(x:Rat):∀{ks:List Rat} {rs:List Row},ks.length=rs.length ->∃ms:List Rat,ms.length=rs.length/\∀j,comb ms rs j=x*comb ks rs j
 | [],[],_=>⟨[],rfl,fun j=>by unfold comb;grind⟩
 | k::ks,r::rs,h1=>by
  obtain⟨ms,h3,h4⟩:=zrr x (ks:=ks) (rs:=rs) (by simpa using h1)
  refine⟨(x*k)::ms,by simp [h3],fun j=> ?_⟩
  show(x*k)*r j+comb ms rs j=x* (k*r j+comb ks rs j);rw[h4];grind
 | [],_::_,h=>by cases h
 | _::_,[],h=>by cases h
theorem fL.add{rs:List Row}{f g:Row}(h1:fL rs f)(h2:fL rs g):fL rs fun j=>f j+g j:=by
 obtain⟨ks,a,b⟩:=h1;obtain⟨ls,c,d⟩:=h2;obtain⟨ms,e,q⟩:=zro a c;exact⟨ms,e,fun j=>by show f j+g j=_;rw[q,b,d]⟩
theorem fL.mul{rs:List Row}{f:Row}(x:Rat)(h:fL rs f):fL rs fun j=>x*f j:=by
 obtain⟨ks,a,b⟩:=h;obtain⟨ms,e,q⟩:=zrr x a;exact⟨ms,e,fun j=>by show x*f j=_;rw[q,b]⟩
theorem Ul:∀(rs:List Row),∀j,comb (rs.map fun _=>0) rs j=0
 | [],j=>by unfold List.map comb;rfl
 | r::rs,j=>by
  show 0*r j+comb (rs.map fun _=>0) rs j=0;rw[Ul rs j];grind
theorem fL.zero(rs:List Row):fL rs fun _=>0:=⟨rs.map fun _=>0,by simp,fun j=>(Ul rs j).symm⟩
theorem fL.cons{rs:List Row}{f:Row}(r:Row)(h:fL rs f):fL (r::rs) f:=by
 obtain⟨ks,a,b⟩:=h;refine⟨0::ks,by simp [a],fun j=> ?_⟩
 show f j=0*r j+comb ks rs j;rw[b];grind
theorem fL.head(r:Row)(rs:List Row):fL (r::rs) r:=by
 refine⟨1::rs.map fun _=>0,by simp,fun j=> ?_⟩
 show r j=1*r j+comb (rs.map fun _=>0) rs j;rw[Ul];grind
theorem fL.mem{r:Row}:∀{rs:List Row},r∈rs ->fL rs r
 | s::rs,h=>by
  rcases zT.mp h with e | h
  ·subst e;exact fL.head r rs
  ·exact(fL.mem h).cons s
theorem fL.congr{rs:List Row}{f g:Row}(h:fL rs f)(e:∀j,g j=f j):fL rs g:=by
 obtain⟨ks,a,b⟩:=h;exact⟨ks,a,fun j=>by rw[e,b]⟩
theorem zw7{rs:List Row}:∀{cs:List Nat} {g:Nat ->Nat ->List Nat ->Rat},(∀x ds,fL rs fun j=>g j x ds) ->fL rs fun j=>aY (g j) cs
 | [],g,_=>fL.zero rs
 | c::cs,g,h=>by
  have h1:=h c cs;have h2:=(zw7 (cs:=cs) (g:=fun j x ds=>g j x (c::ds)) fun x ds=>h x (c::ds)).mul (-1);exact(h1.add h2).congr fun j=>by
   show g j c cs - aY (fun d ds=>g j d (c::ds)) cs=_
   grind
theorem zri:∀(rs:List Row) (cs:List Nat),fL rs fun j=>dt rs (j::cs)
 | [],cs=>⟨[],rfl,fun j=>by unfold dt comb;rfl⟩
 | r::rs,cs=>by
  have h1:=(fL.head r rs).mul (dt rs cs);have h2:fL (r::rs) fun j=>aY (fun x ds=>r x*dt rs (j::ds)) cs:=zw7 fun x ds=>(((zri rs ds).cons r).mul (r x));exact(h1.add (h2.mul (-1))).congr fun j=>by
   show r j*dt rs cs - aY (fun d ds=>r d*dt rs (j::ds)) cs=_
   grind
theorem Um(rs:List Row):∀(n:Nat) (pre post:List Nat),pre.length=n ->fL rs fun j=>dt rs (pre++j::post)
 | 0,pre,post,h=>by
  have:=List.length_eq_zero_iff.mp h;subst this;exact zri rs post
 | n+1,pre,post,h=>by
  have hne:pre≠ []:=fun z=>by subst z;cases h
  have e:=List.dropLast_concat_getLast hne;have ih:=(Um rs n pre.dropLast (pre.getLast hne::post) (by simp [h])).mul (-1)
  refine ih.congr fun j=> ?_;have e2:pre.dropLast++pre.getLast hne::j::post=pre++j::post:=by
   have:=congrArg (· ++j::post) e
   simpa only [List.append_assoc,List.singleton_append] using this
  rw[<- e2,Ls rs pre.dropLast (pre.getLast hne) j post]
  grind
def lM(x:Rat):Prop:=∃z:Int,x=(z:Rat)
theorem lM.sub{x y:Rat}(h1:lM x)(h2:lM y):lM (x - y):=by
 obtain⟨a,rfl⟩:=h1;obtain⟨b,rfl⟩:=h2;exact⟨a - b,by simp [Rat.intCast_sub]⟩
theorem lM.mul{x y:Rat}(h1:lM x)(h2:lM y):lM (x*y):=by
 obtain⟨a,rfl⟩:=h1;obtain⟨b,rfl⟩:=h2;exact⟨a*b,by simp [Rat.intCast_mul]⟩
theorem zwj{g:Nat ->List Nat ->Rat}:∀{cs:List Nat},(∀c ds,lM (g c ds)) ->lM (aY g cs)
 | [],_=>⟨0,by unfold aY;rfl⟩
 | c::cs,h=>(h c cs).sub (zwj (cs:=cs) fun d ds=>h d (c::ds))
theorem Uo:∀{rs:List Row} {cs:List Nat},(∀r∈rs,∀j,lM (r j)) ->lM (dt rs cs)
 | [],[],_=>⟨1,by unfold dt;rfl⟩
 | [],_::_,_=>⟨0,by unfold dt;rfl⟩
 | r::rs,cs,h=>zwj fun c ds=>(h r zW c).mul (Uo fun s hs=>h s (zV _ hs))
theorem Ur{rs:List Row}{cs:List Nat}{f:Row}(h:fL rs f)(z:∀c∈cs,f c=0)(d:dt rs cs≠0)(j:Nat):f j=0:=by
 obtain⟨ks,_,e⟩:=h;have h1:dt (f::rs) (j::cs)=f j*dt rs cs:=Lr z;have h2:dt (f::rs) (j::cs)=dt ((fun _=>0)::rs) (j::cs):=by
  have:=HX (rs:=rs) (cs:=j::cs) (ks:=ks) (ss:=rs) (r:=fun _=>0) fun s hs=>hs;rw[<- this]
  congr 2
  funext i
  rw[e];grind
 have h3:dt ((fun _=>0)::rs) (j::cs)=0:=Lq fun c _ ds=>by show 0*dt rs ds=0;grind
 rw[h3,h1] at h2;rcases Rat.mul_eq_zero.mp h2 with q | q
 ·exact q
 ·exact absurd q d
theorem z2w{rs:List Row}{cs:List Nat}{a f g:Row}(hf:∀j,f j=a j+g j)(hg:fL rs g)(z:∀c∈cs,f c=0)(wa:∀j,lM (a j))(wr:∀r∈rs,∀j,lM (r j))(j:Nat):lM (dt rs cs*f j):=by
 obtain⟨ks,_,e⟩:=hg;have h1:dt (f::rs) (j::cs)=f j*dt rs cs:=Lr z;have h2:dt (f::rs) (j::cs)=dt (a::rs) (j::cs):=by
  have:=HX (rs:=rs) (cs:=j::cs) (ks:=ks) (ss:=rs) (r:=a) fun s hs=>hs;rw[<- this]
  congr 2
  funext i
  rw[hf,e]
 rw[Rat.mul_comm,<- h1,h2];exact Uo fun r hr=>by
  rcases zT.mp hr with q | q
  ·subst q;exact wa
  ·exact wr r q
theorem z56{rs:List Row}{pre post:List Nat}{c:Nat}{f:Row}(h:fL rs f)(one:f c=1)(z:∀x∈pre++post,f x=0)(wr:∀r∈rs,∀j,lM (r j))(d:dt rs (pre++c::post)≠0)(j:Nat):lM (dt rs (pre++c::post)*f j):=by
 have hl:=Um rs _ pre post rfl;have e:dt rs (pre++j::post)=dt rs (pre++c::post)*f j:=by
  have key:=Ur (cs:=pre++c::post) (hl.add ((h.mul (dt rs (pre++c::post))).mul (-1))) (fun x hx=> ?_) d j
  ·grind
  ·by_cases hc:x=c
   ·subst hc;rw[one];grind
   ·have hx' :x∈pre++post:=by
     rcases zR.mp hx with q | q
     ·exact zO _ q
     ·rcases zT.mp q with q | q
      ·exact absurd q hc
      ·exact zP _ q
    rw[z x hx'];have:dt rs (pre++x::post)=0:=by
     rcases zR.mp hx' with q | q
     ·obtain⟨p1,p2,rfl⟩:=List.append_of_mem q;have:=Ia rs (pre:=p1) (post:=p2++x::post) (c:=x) (by simp)
      rw[List.append_assoc];exact this
     ·exact Ia rs q
    rw[this];grind
 rw[<- e];exact Uo wr
structure Low (rs:List Row) (cs:List Nat) (a f:Row):Prop where
 g:∃g:Row,fL rs g/\∀j,f j=a j+g j
 z:∀c∈cs,f c=0
structure Up (rs:List Row) (cs:List Nat) (c:Nat) (f:Row):Prop where
 l:fL rs f
 o:f c=1
 z:∀x∈cs,x≠c ->f x=0
theorem Low.dt{rs:List Row}{cs:List Nat}{a f:Row}(h:Low rs cs a f)(p:Nat):HM.dt (a::rs) (p::cs)=f p*HM.dt rs cs:=by
 obtain⟨⟨g,⟨ks,_,e⟩,hf⟩,z⟩:=h;have h1:HM.dt (f::rs) (p::cs)=f p*HM.dt rs cs:=Lr z;have h2:HM.dt (f::rs) (p::cs)=HM.dt (a::rs) (p::cs):=by
  have:=HX (rs:=rs) (cs:=p::cs) (ks:=ks) (ss:=rs) (r:=a) fun s hs=>hs;rw[<- this]
  congr 2
  funext i
  rw[hf,e]
 rw[<- h2,h1]
theorem Low.lin{rs:List Row}{cs:List Nat}{a f:Row}(h:Low rs cs a f):fL (a::rs) f:=by
 obtain⟨⟨g,l,hf⟩,_⟩:=h;exact((fL.head a rs).add (l.cons a)).congr hf
theorem Low.step{rs:List Row}{cs:List Nat}{a b q f:Row}{p:Nat}(hq:Low rs cs a q)(hp:q p≠0)(h:Low rs cs b f):Low (a::rs) (p::cs) b (fun j=>f j - f p/q p*q j):=by
 obtain⟨g,l,hf⟩:=h.g;refine⟨⟨_,(l.cons a).add (hq.lin.mul (-(f p/q p))),fun j=>by show f j - f p/q p*q j=b j+ (g j+ -(f p/q p)*q j);rw[hf j];grind⟩,fun c hc=> ?_⟩
 rcases zT.mp hc with e | hc
 ·subst e;show f c - f c/q c*q c=0;rw[Rat.div_mul_cancel hp];grind
 ·show f c - f p/q p*q c=0;rw[h.z c hc,hq.z c hc];grind
theorem Up.step{rs:List Row}{cs:List Nat}{a q f:Row}{p c:Nat}(hq:Low rs cs a q)(hp:q p≠0)(h:Up rs cs c f)(hc:c∈cs):Up (a::rs) (p::cs) c (fun j=>f j - f p/q p*q j):=by
 refine⟨((h.l.cons a).add (hq.lin.mul (-(f p/q p)))).congr fun j=>by show f j - f p/q p*q j=f j+ -(f p/q p)*q j;grind,?_,fun x hx n=> ?_⟩
 ·show f c - f p/q p*q c=1;rw[h.o,hq.z c hc];grind
 ·rcases zT.mp hx with e | hx
  ·subst e;show f x - f x/q x*q x=0;rw[Rat.div_mul_cancel hp];grind
  ·show f x - f p/q p*q x=0;rw[h.z x hx n,hq.z x hx];grind
theorem Up.new{rs:List Row}{cs:List Nat}{a q:Row}{p:Nat}(hq:Low rs cs a q)(hp:q p≠0):Up (a::rs) (p::cs) p (fun j=>q j/q p):=by
 refine⟨(hq.lin.mul (1/q p)).congr fun j=>by show q j/q p=1/q p*q j;grind,?_,fun x hx n=> ?_⟩
 ·show q p/q p=1
  grind
 ·rcases zT.mp hx with e | hx
  ·exact absurd e n
  ·show q x/q p=0;rw[hq.z x hx];grind
def cols:Nat ->List Nat
 | 0=> []
 | p+1=>p::cols p
theorem fu{x:Nat}:∀{p:Nat},x∈cols p↔x<p
 | 0=>by simp [cols]
 | p+1=>by
  unfold cols;rw[List.mem_cons,fu];omega
theorem Us:∀p,(cols p).Nodup
 | 0=>List.nodup_nil
 | p+1=>by
  unfold cols;exact List.nodup_cons.mpr ⟨fun h=>by have:=fu.mp h;omega,Us p⟩
def dN(A:Nat ->Nat ->Int)(k:Nat):Row:=fun j=>(A k j:Rat)
theorem zrj(A:Nat ->Nat ->Int)(k j:Nat):lM (dN A k j):=⟨_,rfl⟩
structure BT (n:Nat) (A:Nat ->Nat ->Int) (p:Nat) (d:Int) (tb:Nat ->Nat ->Int) (rs:List Row) (fs:Nat ->Row) (ix:Nat ->Nat):Prop where
 w:∀r∈rs,∃k,k<n/\r=dN A k
 de:(d:Rat)=dt rs (cols p)
 nz:d≠0
 up:∀i,i<p ->Up rs (cols p) i (fs i)
 lo:∀i,p<=i ->i<n ->ix i<n/\Low rs (cols p) (dN A (ix i)) (fs i)
 all:∀k,k<n ->dN A k∈rs\/∃i,p<=i/\i<n/\ix i=k
 t:∀i,i<n ->∀j,(tb i j:Rat)=d*fs i j
theorem zx5(n:Nat)(A:Nat ->Nat ->Int):BT n A 0 1 A [] (dN A) id:=by
 refine⟨fun r h=>(by cases h),?_,by decide,fun i h=>absurd h (Nat.not_lt_zero _),fun i _ h=>⟨h,⟨_,fL.zero [],fun j=>by show dN A i j=dN A i j+0;grind⟩,fun c h=>by cases h⟩,fun k h=> .inr ⟨k,Nat.zero_le _,h,rfl⟩,fun i _ j=> ?_⟩
 ·unfold cols HM.dt;rfl
 ·show(A i j:Rat)=1* (A i j:Rat)
  grind
theorem BT.dz{n p:Nat}{A:Nat ->Nat ->Int}{d:Int}{tb:Nat ->Nat ->Int}{rs:List Row}{fs:Nat ->Row}{ix:Nat ->Nat}(h:BT n A p d tb rs fs ix):dt rs (cols p)≠0:=by
 rw[<- h.de];exact fun z=>h.nz (by exact_mod_cast z)
theorem z2h{n:Nat}{rs:List Row}{p:Nat}{f:Row}(wr:∀r∈rs,∀j,lM (r j))(dz:dt rs (cols p)≠0)(h:(∃c,c<p/\Up rs (cols p) c f)\/∃a,(∀j,lM (a j))/\Low rs (cols p) a f)(j:Nat):lM (dt rs (cols p)*f j):=by
 rcases h with ⟨c,hc,u⟩ | ⟨a,wa,l⟩
 ·obtain⟨pre,post,e⟩:=List.append_of_mem (fu.mpr hc);have nd:=Us p;rw[e] at nd;have key:=z56 (rs:=rs) (pre:=pre) (post:=post) (c:=c) (f:=f) u.l u.o (fun x hx=> ?_) wr (by rw[<- e];exact dz) j
  ·rw[e];exact key
  ·refine u.z x ?_ fun z=> ?_
   ·rw[e];rcases zR.mp hx with q | q
    ·exact zO _ q
    ·exact zP _ (zV _ q)
   ·subst z;rw[List.nodup_append] at nd;rcases zR.mp hx with q | q
    ·exact nd.2.2 x q x zW rfl
    ·exact(List.nodup_cons.mp nd.2.1).1 q
 ·obtain⟨g,lg,hf⟩:=l.g;exact z2w hf lg l.z wa wr j
def jK(p s i:Nat):Nat:=if i=p then s else if i=s then p else i
def nextT(p s:Nat)(d:Int)(tb:Nat ->Nat ->Int):Nat ->Nat ->Int:=fun i j=>if i=p then tb s j else(tb s p*tb (jK p s i) j - tb (jK p s i) p*tb s j).fdiv d
theorem z17{x d z:Int}(d0:d≠0)(e:x=d*z):x.fdiv d=z:=by
 rw[e,Int.mul_comm,Int.mul_fdiv_cancel _ d0]
theorem Bl{a b:Int}(h:(a:Rat)=(b:Rat)):a=b:=by exact_mod_cast h
theorem BT.step{n p s:Nat}{A:Nat ->Nat ->Int}{d:Int}{tb:Nat ->Nat ->Int}{rs:List Row}{fs:Nat ->Row}{ix:Nat ->Nat}(h:BT n A p d tb rs fs ix)(ps:p<=s)(sn:s<n)(nz:tb s p≠0):
  ∃rs' fs' Bm,BT n A (p+1) (tb s p) (nextT p s d tb) rs' fs' Bm :=by
 obtain⟨hk,lq⟩:=h.lo s ps sn;have ts:(tb s p:Rat)=d*fs s p:=h.t s sn p;have qz:fs s p≠0:=fun z=>nz (Bl (by rw[ts,z];grind))
 have d0:(d:Rat)≠0:=fun z=>h.nz (Bl (by rw[z];rfl))
 let rs' :List Row:=dN A (ix s)::rs
 let fs' :Nat ->Row:=fun i=>if i=p then(fun j=>fs s j/fs s p) else(fun j=>fs (jK p s i) j - fs (jK p s i) p/fs s p*fs s j)
 let Bm :Nat ->Nat:=fun i=>ix (jK p s i)
 have dd:dt rs' (cols (p+1))=(tb s p:Rat):=by
  show dt (dN A (ix s)::rs) (p::cols p)=_;rw[lq.dt p,<- h.de,ts,Rat.mul_comm]
 have w' :∀r∈rs',∃k,k<n/\r=dN A k:=fun r hr=>by
  rcases zT.mp hr with q | q
  ·exact⟨_,hk,q⟩
  ·exact h.w r q
 have wr' :∀r∈rs',∀j,lM (r j):=fun r hr j=>by obtain⟨k,_,rfl⟩:=w' r hr;exact zrj A k j
 have nz' :(tb s p:Rat)≠0:=fun z=>nz (Bl (by rw[z];rfl))
 have up' :∀i,i<p+1 ->Up rs' (cols (p+1)) i (fs' i):=fun i hi=>by
  by_cases e:i=p
  ·subst e;show Up rs' (i::cols i) i (if i=i then _ else _);rw[if_pos rfl];exact Up.new lq qz
  ·have hip:i<p:=by omega
   have es:jK p s i=i:=by unfold jK;rw[if_neg e,if_neg (by omega)]
   show Up rs' (p::cols p) i (if i=p then _ else _);rw[if_neg e,es];exact Up.step lq qz (h.up i hip) (fu.mpr hip)
 have Ib :∀i,p+1<=i ->i<n ->Bm i<n/\Low rs' (cols (p+1)) (dN A (Bm i)) (fs' i):=fun i hi hn=>by
  have hs:p<=jK p s i/\jK p s i<n:=by
   unfold jK;rw[if_neg (by omega)]
   split<;>omega
  obtain⟨g1,g2⟩:=h.lo _ hs.1 hs.2;refine⟨g1,?_⟩;show Low rs' (p::cols p) _ (if i=p then _ else _);rw[if_neg (by omega)]
  exact Low.step lq qz g2
 refine⟨rs',fs',Bm,w',dd.symm,nz,up',Ib,fun k hk' => ?_,fun i hi j=> ?_⟩
 ·rcases h.all k hk' with q | ⟨i,q1,q2,q3⟩
  ·exact .inl (zV _ q)
  ·by_cases e:i=s
   ·subst e;exact .inl (by rw[<- q3];exact zW)
   ·by_cases ep:i=p
    ·subst ep;refine .inr ⟨s,by omega,sn,?_⟩
     show ix (jK i s s)=k;unfold jK;rw[if_neg (by omega),if_pos rfl];exact q3
    ·refine .inr ⟨i,by omega,q2,?_⟩
     show ix (jK p s i)=k;unfold jK;rw[if_neg ep,if_neg e];exact q3
 ·by_cases e:i=p
  ·subst e;show((if i=i then tb s j else _:Int):Rat)=(tb s i:Rat)* (if i=i then(fun j=>fs s j/fs s i) else _) j;rw[if_pos rfl,if_pos rfl,h.t s sn j,ts];show(d:Rat)*fs s j=d*fs s i* (fs s j/fs s i)
   grind
  ·have hs:jK p s i<n:=by unfold jK;rw[if_neg e];split<;>omega
   have iz:lM (dt rs' (cols (p+1))*fs' i j):=z2h (n:=n) wr' (by rw[dd];exact nz') (by
    by_cases q:i<p
    ·exact .inl ⟨i,by omega,up' i (by omega)⟩
    ·obtain⟨g1,g2⟩:=Ib i (by omega) hi
     exact .inr ⟨_,zrj A _,g2⟩) j
   obtain⟨z,hz⟩:=iz;rw[dd] at hz;have hf:fs' i j=fs (jK p s i) j - fs (jK p s i) p/fs s p*fs s j:=by
    show(if i=p then _ else _:Row) j=_;rw[if_neg e]
   show((if i=p then _ else(tb s p*tb (jK p s i) j - tb (jK p s i) p*tb s j).fdiv d:Int):Rat)=(tb s p:Rat)*fs' i j;rw[if_neg e,hz]
   congr 1
   refine z17 h.nz (Bl ?_);rw[Rat.intCast_sub,Rat.intCast_mul,Rat.intCast_mul,Rat.intCast_mul,h.t _ hs j,h.t _ hs p,h.t s sn j,<- hz,hf,ts]
   grind
def bF:Nat ->(Nat ->Rat) ->Rat
 | 0,_=>0
 | n+1,g=>bF n g+g n
theorem xQ{g h:Nat ->Rat}:∀{n:Nat},(∀i,i<n ->g i=h i) ->bF n g=bF n h
 | 0,_=>rfl
 | n+1,e=>by unfold bF;rw[xQ fun i hi=>e i (by omega),e n (by omega)]
theorem zsi{g:Nat ->Rat}{c:Nat}:∀{n:Nat},c<n ->(∀i,i<n ->i≠c ->g i=0) ->bF n g=g c
 | n+1,hc,h=>by
  unfold bF;by_cases e:c=n
  ·subst e;have:bF c g=0:=by
    rw[xQ (h:=fun _=>0) fun i hi=>h i (by omega) (by omega)]
    clear h hc;induction c with
    | zero=>rfl
    | succ c ih=>unfold bF;rw[ih];grind
   rw[this];grind
  ·rw[zsi (n:=n) (by omega) fun i hi n' =>h i (by omega) n',h n (by omega) fun z=>e z.symm];grind
theorem zwa{rs:List Row}{fs:Nat ->Row}(a:Nat ->Rat):∀{p:Nat},(∀c,c<p ->fL rs (fs c)) ->fL rs fun j=>bF p fun c=>a c*fs c j
 | 0,_=>fL.zero rs
 | p+1,h=>((zwa a fun c hc=>h c (by omega)).add ((h p (by omega)).mul (a p))).congr fun j=>rfl
theorem BT.span{n p:Nat}{A:Nat ->Nat ->Int}{d:Int}{tb:Nat ->Nat ->Int}{rs:List Row}{fs:Nat ->Row}{ix:Nat ->Nat}(h:BT n A p d tb rs fs ix){f:Row}(l:fL rs f)(j:Nat):f j=bF p fun c=>f c*fs c j:=by
 have hl:=l.add ((zwa (rs:=rs) (fs:=fs) f (p:=p) fun c hc=>(h.up c hc).l).mul (-1));have key:=Ur (cs:=cols p) hl (fun c hc=> ?_) h.dz j
 ·grind
 ·have hc' :=fu.mp hc;show f c+ -1* (bF p fun x=>f x*fs x c)=0;rw[zsi hc' fun i hi ni=>by rw[(h.up i hi).z c hc (Ne.symm ni)];grind,(h.up c hc').o]
  grind
theorem BT.eqn{n p:Nat}{A:Nat ->Nat ->Int}{d:Int}{tb:Nat ->Nat ->Int}{rs:List Row}{fs:Nat ->Row}{ix:Nat ->Nat}(h:BT n A p d tb rs fs ix){j:Nat}(z:∀i,p<=i ->i<n ->fs i j=0){k:Nat}(hk:k<n):
  dN A k j=bF p fun c=>dN A k c*fs c j:=by
 rcases h.all k hk with q | ⟨i,q1,q2,rfl⟩
 ·exact h.span (fL.mem q) j
 ·obtain⟨_,l⟩:=h.lo i q1 q2;obtain⟨g,lg,hf⟩:=l.g;have h1:=h.span lg j;have h2:∀c,c<p ->g c= - dN A (ix i) c:=fun c hc=>by
   have:=hf c;rw[l.z c (fu.mpr hc)] at this
   grind
  have h3:=hf j;rw[z i q1 q2] at h3;have h4:(bF p fun c=>g c*fs c j)= - bF p fun c=>dN A (ix i) c*fs c j:=by
   have neg:∀(m:Nat) (u:Nat ->Rat),(bF m fun c=> - u c)= - bF m u:=fun m u=>by
    induction m with
    | zero=>unfold bF;grind
    | succ m ih=>unfold bF;rw[ih];grind
   rw[<- neg];exact xQ fun c hc=>by rw[h2 c hc];grind
  rw[h4] at h1
  grind
theorem BT.sol{n:Nat}{A:Nat ->Nat ->Int}{d:Int}{tb:Nat ->Nat ->Int}{rs:List Row}{fs:Nat ->Row}{ix:Nat ->Nat}(h:BT n A n d tb rs fs ix){k:Nat}(hk:k<n)(j:Nat):dN A k j=bF n fun c=>dN A k c*fs c j:=
 h.eqn (fun i h1 h2=>by omega) hk
theorem BT.diag{n p:Nat}{A:Nat ->Nat ->Int}{d:Int}{tb:Nat ->Nat ->Int}{rs:List Row}{fs:Nat ->Row}{ix:Nat ->Nat}(h:BT n A p d tb rs fs ix){i:Nat}(hi:i<p)(hn:i<n):tb i i=d:=by
 have:=h.t i hn i;rw[(h.up i hi).o] at this;exact Bl (by rw[this];grind)
theorem BT.stuck{n p:Nat}{A:Nat ->Nat ->Int}{d:Int}{tb:Nat ->Nat ->Int}{rs:List Row}{fs:Nat ->Row}{ix:Nat ->Nat}(h:BT n A p d tb rs fs ix)(pn:p<n)(z:∀i,p<=i ->i<n ->tb i p=0):
  ∃x:Nat ->Rat,x p=1/\∀k,k<n ->(bF n fun c=>dN A k c*x c)=0:=by
 have d0:(d:Rat)≠0:=fun q=>h.nz (Bl (by rw[q];rfl))
 have z' :∀i,p<=i ->i<n ->fs i p=0:=fun i h1 h2=>by
  have:=h.t i h2 p;rw[z i h1 h2] at this;rcases Rat.mul_eq_zero.mp (show(d:Rat)*fs i p=0 by rw[<- this];rfl) with q | q
  ·exact absurd q d0
  ·exact q
 refine⟨fun c=>if c<p then - fs c p else if c=p then 1 else 0,by simp,fun k hk=> ?_⟩
 have e:=h.eqn z' hk;have cut:∀m,p<m ->m<=n ->(bF m fun c=>dN A k c* (if c<p then - fs c p else if c=p then 1 else 0))=(bF p fun c=>dN A k c* (- fs c p))+dN A k p:=fun m=>by
  induction m with
  | zero=>intro hm;omega
  | succ m ih=>
   intro hm hn;show(bF m fun c=>dN A k c* (if c<p then - fs c p else if c=p then 1 else 0))+dN A k m* (if m<p then - fs m p else if m=p then 1 else 0)=_;by_cases q:m=p
   ·subst q;rw[if_neg (by omega),if_pos rfl]
    rw[xQ (h:=fun c=>dN A k c* (- fs c m)) fun c hc=>by rw[if_pos hc]]
    grind
   ·rw[ih (by omega) (by omega),if_neg (by omega),if_neg q];grind
 rw[cut n pn (Nat.le_refl _),e];have neg:(bF p fun c=>dN A k c* (- fs c p))= - bF p fun c=>dN A k c*fs c p:=by
  have:∀(m:Nat) (u:Nat ->Rat),(bF m fun c=> - u c)= - bF m u:=fun m u=>by
   induction m with
   | zero=>unfold bF;grind
   | succ m ih=>unfold bF;rw[ih];grind
  rw[<- this];exact xQ fun c _=>by grind
 rw[neg];grind
def ao{α:Type}:List α ->(α ->Rat) ->Rat
 | [],_=>0
 | a::l,f=>f a+ao l f
section
variable{α β:Type}
theorem gB{f g:α ->Rat}:∀{l:List α},(∀a∈l,f a=g a) ->ao l f=ao l g
 | [],_=>rfl
 | a::l,h=>by
  unfold ao;rw[h a List.mem_cons_self,gB fun b hb=>h b (List.mem_cons_of_mem _ hb)]
theorem zsn{f g:α ->Rat}:∀{l:List α},ao l (fun a=>f a+g a)=ao l f+ao l g
 | []=>by unfold ao;grind
 | a::l=>by unfold ao;rw[zsn (l:=l)];grind
theorem Bo{f g:α ->Rat}:∀{l:List α},ao l (fun a=>f a - g a)=ao l f - ao l g
 | []=>by unfold ao;grind
 | a::l=>by unfold ao;rw[Bo (l:=l)];grind
theorem uw(k:Rat){f:α ->Rat}:∀{l:List α},ao l (fun a=>k*f a)=k*ao l f
 | []=>by unfold ao;grind
 | a::l=>by unfold ao;rw[uw k (l:=l)];grind
theorem xR{f:α ->Rat}:∀{l:List α},(∀a∈l,f a=0) ->ao l f=0
 | [],_=>rfl
 | a::l,h=>by
  unfold ao;rw[h a List.mem_cons_self,xR fun b hb=>h b (List.mem_cons_of_mem _ hb)];grind
theorem Dl(k:Rat):∀{l:List α},ao l (fun _=>k)=(l.length:Rat)*k
 | []=>by
  show(0:Rat)=((0:Nat):Rat)*k;have:((0:Nat):Rat)=0:=rfl;rw[this];grind
 | a::l=>by
  show k+ao l (fun _=>k)=((l.length+1:Nat):Rat)*k;rw[Dl k];have:((l.length+1:Nat):Rat)=(l.length:Rat)+1:=by exact_mod_cast rfl
  rw[this];grind
theorem Ie{f:α ->β ->Rat}{m:List β}:∀{l:List α},ao l (fun a=>ao m (f a))=ao m fun b=>ao l fun a=>f a b
 | []=>by
  show(0:Rat)=_;exact(xR fun _ _=>rfl).symm
 | a::l=>by
  show ao m (f a)+ao l (fun a=>ao m (f a))=ao m fun b=>f a b+ao l fun a=>f a b;rw[Ie (l:=l),<- zsn]
theorem zjs{f:α ->Rat}:∀{l m:List α},ao (l++m) f=ao l f+ao m f
 | [],m=>by show ao m f=0+ao m f;grind
 | a::l,m=>by show f a+ao (l++m) f=(f a+ao l f)+ao m f;rw[zjs];grind
theorem zve{f:α ->Rat}{l m:List α}(h:l.Perm m):ao l f=ao m f:=by
 induction h with
 | nil=>rfl
 | cons x _ ih=>show f x+_=f x+_;rw[ih]
 | swap x y l=>show f y+ (f x+ao l f)=f x+ (f y+ao l f);grind
 | trans _ _ h1 h2=>rw[h1,h2]
theorem xU{f:α ->Rat}{p:α ->Bool}:∀{l:List α},ao (l.filter p) f=ao l fun a=>if p a=true then f a else 0
 | []=>rfl
 | a::l=>by
  rw[List.filter_cons];show _=(if p a=true then f a else 0)+ao l fun a=>if p a=true then f a else 0;rw[<- xU (l:=l)];by_cases h:p a=true
  ·rw[if_pos h,if_pos h];rfl
  ·rw[if_neg h,if_neg h];grind
theorem vh{f:β ->Rat}{g:α ->β}:∀{l:List α},ao (l.map g) f=ao l fun a=>f (g a)
 | []=>rfl
 | a::l=>by show f (g a)+_=f (g a)+_;rw[vh]
theorem Lx{f:α ->Rat}:∀{l:List α},(∀a∈l,0<=f a) ->0<=ao l f
 | [],_=>by unfold ao;exact Rat.le_refl
 | a::l,h=>by
  have h1:=h a zW;have h2:=Lx fun b hb=>h b (zV a hb);show 0<=f a+ao l f
  grind
theorem Ig{f:α ->Rat}:∀{l:List α},(∀a∈l,0<=f a) ->ao l f=0 ->∀a∈l,f a=0
 | a::l,h,e=>by
  have h1:=h a zW;have h2:=Lx fun b hb=>h b (zV a hb);have e' :f a+ao l f=0:=e;have e1:f a=0:=by grind
  have e2:ao l f=0:=by grind
  intro b hb;rcases zT.mp hb with q | q
  ·rw[q];exact e1
  ·exact Ig (fun b hb=>h b (zV a hb)) e2 b q
 | [],_,_=>fun a h=>by cases h
end
section
variable{α:Type}[DecidableEq α]
theorem Dm{f:α ->Rat}{s hs:List α}(ns:s.Nodup)(nh:hs.Nodup)(sub:∀x∈s,x∈hs):ao hs (fun h=>if h∈s then f h else 0)=ao s f:=by
 have p:(hs.filter fun h=>decide (h∈s)).Perm s:=by
  rw[List.perm_ext_iff_of_nodup (nh.filter _) ns];intro a;rw[List.mem_filter];exact⟨fun h=>of_decide_eq_true h.2,fun h=>⟨sub a h,decide_eq_true h⟩⟩
 rw[<- zve p,xU];exact gB fun a _=>by by_cases h:a∈s<;>simp [h]
def aZ(s:List α)(x:α ->Rat):Rat:=ao s x/ (s.length:Rat)
theorem zw6{s:List α}(h:s≠ [])(x:α ->Rat):(s.length:Rat)*aZ s x=ao s x:=by
 have z:(s.length:Rat)≠0:=by
  have:=List.length_pos_iff.mpr h;intro e;have:s.length=0:=by exact_mod_cast e
  omega
 unfold aZ;rw[Rat.div_def,Rat.mul_comm,Rat.mul_assoc,Rat.inv_mul_cancel _ z];grind
theorem Ut(s:List α)(x:α ->Rat):ao s (fun h=>x h - aZ s x)=0:=by
 rw[Bo,Dl];by_cases h:s= []
 ·subst h;show(0:Rat) - ((0:Nat):Rat)*_=0;have:((0:Nat):Rat)=0:=rfl;rw[this];grind
 ·rw[zw6 h];grind
def jc(S:List (List α))(x:α ->Rat)(h:α):Rat:=ao S fun s=>if h∈s then x h - aZ s x else 0
theorem zry{S:List (List α)}{hs:List α}(ns:∀s∈S,s.Nodup)(nh:hs.Nodup)(sub:∀s∈S,∀x∈s,x∈hs)(c x:α ->Rat):ao hs (fun h=>c h*jc S x h)=ao S fun s=>ao s fun h=>c h* (x h - aZ s x):=by
 unfold jc;have e:ao hs (fun h=>c h*ao S fun s=>if h∈s then x h - aZ s x else 0)=ao hs fun h=>ao S fun s=>if h∈s then c h* (x h - aZ s x) else 0:=
  gB fun h _=>by
   rw[<- uw];exact gB fun s _=>by split<;>grind
 rw[e,Ie];exact gB fun s hS=>Dm (ns s hS) nh (sub s hS)
theorem z12{S:List (List α)}{hs:List α}(ns:∀s∈S,s.Nodup)(nh:hs.Nodup)(sub:∀s∈S,∀x∈s,x∈hs)(x:α ->Rat):ao hs (jc S x)=0:=by
 have e:=zry ns nh sub (fun _=>1) x;have e1:ao hs (fun h=>1*jc S x h)=ao hs (jc S x):=gB fun h _=>by grind
 rw[<- e1,e];exact xR fun s _=>by
  have e2:ao s (fun h=>1* (x h - aZ s x))=ao s (fun h=>x h - aZ s x):=gB fun h _=>by grind
  rw[e2,Ut]
theorem znn(r:Rat):0<=r*r:=by
 rcases Rat.le_total (a:=0) (b:=r) with h | h
 ·exact Rat.mul_nonneg h h
 ·have h' :0<= -r:=by grind
  have:=Rat.mul_nonneg h' h'
  grind
theorem z3e{r:Rat}(h:r*r=0):r=0:=by
 rcases Rat.mul_eq_zero.mp h with h | h<;>exact h
theorem z0e{S:List (List α)}{hs:List α}(ns:∀s∈S,s.Nodup)(nh:hs.Nodup)(sub:∀s∈S,∀x∈s,x∈hs){x:α ->Rat}(z:∀h∈hs,jc S x h=0):∀s∈S,∀h∈s,x h=aZ s x:=by
 have e:=zry ns nh sub x x;rw[xR fun h hh=>by rw[z h hh];grind] at e
 have e2:∀s,ao s (fun h=>x h* (x h - aZ s x))=ao s fun h=>(x h - aZ s x)* (x h - aZ s x):=by
  intro s;have a1:=Ut s x;have a2:ao s (fun h=>(x h - aZ s x)* (x h - aZ s x))=ao s fun h=>x h* (x h - aZ s x) - aZ s x* (x h - aZ s x):=gB fun h _=>by grind
  rw[a2,Bo,uw,a1];grind
 have e3:ao S (fun s=>ao s fun h=>(x h - aZ s x)* (x h - aZ s x))=0:=by
  rw[e];exact gB fun s _=>(e2 s).symm
 intro s hs h hh;have h1:=Ig (fun s _=>Lx fun h _=>znn _) e3 s hs;have h2:=Ig (fun h _=>znn _) h1 h hh;have:=z3e h2
 grind
def dW(S:List (List α))(h:α):Rat:=ao S fun s=>if h∈s then 1 else 0
theorem zkv(S:List (List α))(h:α):0<=dW S h:=Lx fun s _=>by split<;>decide
theorem z1n{S:List (List α)}{h:α}(i:∃s∈S,h∈s):0<dW S h:=by
 obtain⟨s,hs,hh⟩:=i;refine Rat.lt_of_le_of_ne (zkv S h) fun z=> ?_;have:=Ig (l:=S) (f:=fun s=>if h∈s then(1:Rat) else 0) (fun s _=>by split<;>decide) z.symm s hs
 rw[if_pos hh] at this;exact absurd this (by decide)
theorem zva{S:List (List α)}{h0:α}{hs:List α}(ns:∀s∈S,s.Nodup)(nh:(h0::hs).Nodup)(sub:∀s∈S,∀x∈s,x∈h0::hs)(on:∀h∈h0::hs,∃s∈S,h∈s)
  (min:∀C:α ->Prop,(∀s∈S,(∃x∈s,C x) ->∀x∈s,C x) ->(∃x∈h0::hs,C x) ->∀x∈h0::hs,C x)
  {x:α ->Rat} (z:∀h∈hs,jc S x h=0) (w:ao (h0::hs) (fun h=>dW S h*x h)=0):∀h∈h0::hs,x h=0:=by
 have z' :∀h∈h0::hs,jc S x h=0:=by
  have e:=z12 ns nh sub x;have e' :jc S x h0+ao hs (jc S x)=0:=e;rw[xR z] at e';intro h hh;rcases zT.mp hh with q | q
  ·rw[q];grind
  ·exact z h q
 have ev:=z0e ns nh sub z';have same:∀h∈h0::hs,x h=x h0:=min (fun h=>x h=x h0) (fun s hS hx b hb=>by
  obtain⟨a,ha,ea⟩:=hx;show x b=x h0;have ea' :x a=x h0:=ea;rw[ev s hS b hb,<- ev s hS a ha,ea']) ⟨h0,zW,rfl⟩
 have e1:ao (h0::hs) (fun h=>dW S h*x h)=x h0*ao (h0::hs) (dW S):=by
  rw[<- uw];exact gB fun h hh=>by rw[same h hh];grind
 rw[e1] at w;have pos:ao (h0::hs) (dW S)≠0:=fun zz=>by
  have:=Ig (fun h _=>zkv S h) zz h0 zW;have p:=z1n (on h0 zW);rw[this] at p;exact absurd p (by decide)
 rcases Rat.mul_eq_zero.mp w with q | q
 ·intro h hh;rw[same h hh,q]
 ·exact absurd q pos
def bR(S:List (List α))(h o:α):Rat:=(if h=o then dW S h else 0) - ao S fun s=>if h∈s/\o∈s then 1/ (s.length:Rat) else 0
theorem zxn{S:List (List α)}{hs:List α}(ns:∀s∈S,s.Nodup)(nh:hs.Nodup)(sub:∀s∈S,∀x∈s,x∈hs)(x:α ->Rat){h:α}(hh:h∈hs):ao hs (fun o=>bR S h o*x o)=jc S x h:=by
 have e1:ao hs (fun o=>bR S h o*x o)=ao hs (fun o=>if o∈ [h] then dW S h*x o else 0) - ao hs fun o=>ao S fun s=>if h∈s/\o∈s then x o/ (s.length:Rat) else 0:=by
  rw[<- Bo];refine gB fun o _=> ?_;unfold bR;have e2:(ao S fun s=>if h∈s/\o∈s then x o/ (s.length:Rat) else 0)=x o*ao S fun s=>if h∈s/\o∈s then 1/ (s.length:Rat) else 0:=by
   rw[<- uw];exact gB fun s _=>by split<;>first | (simp only [Rat.div_def];grind) | grind
  rw[e2];by_cases q:h=o
  ·subst q;rw[if_pos rfl,if_pos (List.mem_singleton.mpr rfl)];grind
  ·rw[if_neg q,if_neg fun z=>q (List.mem_singleton.mp z).symm];grind
 rw[e1,Dm (by simp) nh fun y hy=>by rw[List.mem_singleton.mp hy];exact hh,Ie]
 have e3:ao [h] (fun o=>dW S h*x o)=ao S fun s=>if h∈s then x h else 0:=by
  show dW S h*x h+0=_;unfold dW;have:(ao S fun s=>if h∈s then x h else 0)=x h*ao S fun s=>if h∈s then 1 else 0:=by
   rw[<- uw];exact gB fun s _=>by split<;>grind
  rw[this];grind
 rw[e3,<- Bo];refine gB fun s hS=> ?_;by_cases q:h∈s
 ·rw[if_pos q,if_pos q]
  congr 1
  have e4:ao hs (fun o=>if h∈s/\o∈s then x o/ (s.length:Rat) else 0)=ao hs fun o=>if o∈s then x o/ (s.length:Rat) else 0:=gB fun o _=>by simp [q]
  rw[e4,Dm (ns s hS) nh (sub s hS)];unfold aZ;have e5:ao s (fun o=>x o/ (s.length:Rat))=(s.length:Rat)⁻¹*ao s x:=by
   rw[<- uw];exact gB fun o _=>by rw[Rat.div_def];grind
  rw[e5,Rat.div_def];grind
 ·rw[if_neg q,if_neg q,xR fun o _=>by simp [q]];grind
variable{σ:Type}
def fM(k:σ ->List α)(y:σ ->α ->Rat)(S:List σ)(h:α):Rat:=ao S fun s=>if h∈k s then y s h - aZ (k s) (y s) else 0
theorem zy3{k:σ ->List α}{S:List σ}{hs:List α}(ns:∀s∈S,(k s).Nodup)(nh:hs.Nodup)(sub:∀s∈S,∀x∈k s,x∈hs)(y:σ ->α ->Rat):ao hs (fM k y S)=0:=by
 show ao hs (fun h=>ao S fun s=>if h∈k s then y s h - aZ (k s) (y s) else 0)=0;rw[Ie];refine xR fun s hS=> ?_;rw[Dm (f:=fun h=>y s h - aZ (k s) (y s)) (ns s hS) nh (sub s hS)];exact Ut _ _
theorem zux(s:List α)(x y:α ->Rat):aZ s (fun o=>x o - y o)=aZ s x - aZ s y:=by
 unfold aZ;rw[Bo,Rat.div_def,Rat.div_def,Rat.div_def];grind
theorem z0b{k:σ ->List α}(y:σ ->α ->Rat)(x:α ->Rat)(S:List σ)(h:α):fM k (fun s o=>y s o - x o) S h=fM k y S h - jc (S.map k) x h:=by
 unfold fM jc;rw[vh,<- Bo];exact gB fun s _=>by
  rw[zux];split<;>grind
theorem zyw{k:σ ->List α}{S:List σ}{h0:α}{hs:List α}(ns:∀s∈S,(k s).Nodup)(nh:(h0::hs).Nodup)(sub:∀s∈S,∀x∈k s,x∈h0::hs)(y:σ ->α ->Rat)(x:α ->Rat)
  (e:∀h∈hs,jc (S.map k) x h=fM k y S h):∀h∈h0::hs,fM k (fun s o=>y s o - x o) S h=0:=by
 have e' :∀h∈hs,fM k (fun s o=>y s o - x o) S h=0:=fun h hh=>by rw[z0b,e h hh];grind
 have q:=zy3 ns nh sub fun s o=>y s o - x o;have q' :fM k (fun s o=>y s o - x o) S h0+ao hs (fM k (fun s o=>y s o - x o) S)=0:=q;rw[xR e'] at q';intro h hh;rcases zT.mp hh with r | r
 ·rw[r];grind
 ·exact e' h r
theorem znk{β:Type}[Inhabited β](f:β ->Rat):∀(l:List β),bF l.length (fun j=>f (l.getD j default))=ao l f:=by
 intro l;have key:∀(m:List β) n,n<=m.length ->bF n (fun j=>f (m.getD j default))=ao (m.take n) f:=by
  intro m n;induction n with
  | zero=>intro _;rfl
  | succ n ih=>
   intro h;have e:m.take (n+1)=m.take n++ [m[n]]:=by rw[List.take_succ,List.getElem?_eq_getElem h];rfl
   show bF n (fun j=>f (m.getD j default))+f (m.getD n default)=_;rw[ih (by omega),e,zjs]
   have:m.getD n default=m[n]:=by rw[List.getD_eq_getElem?_getD,List.getElem?_eq_getElem h];rfl
   rw[this];show _+f m[n]=_+ (f m[n]+0)
   grind
 have:=key l l.length (zM _)
 rwa [List.take_length] at this
end
def ZB(B:Nat)(x:Rat):Prop:=∃z:Int,x=(z:Rat)/\z.natAbs<=B
theorem ZB.sub{A B:Nat}{x y:Rat}(h1:ZB A x)(h2:ZB B y):ZB (A+B) (x - y):=by
 obtain⟨a,rfl,ha⟩:=h1;obtain⟨b,rfl,hb⟩:=h2;exact⟨a - b,by simp [Rat.intCast_sub],by omega⟩
theorem ZB.mul{A B:Nat}{x y:Rat}(h1:ZB A x)(h2:ZB B y):ZB (A*B) (x*y):=by
 obtain⟨a,rfl,ha⟩:=h1;obtain⟨b,rfl,hb⟩:=h2;exact⟨a*b,by simp [Rat.intCast_mul],by rw[Int.natAbs_mul];exact Nat.mul_le_mul ha hb⟩
theorem ZB.mono{A B:Nat}{x:Rat}(h:ZB A x)(l:A<=B):ZB B x:=by
 obtain⟨a,rfl,ha⟩:=h;exact⟨a,rfl,zN ha l⟩
theorem ZB.zero(B:Nat):ZB B 0:=⟨0,rfl,Nat.zero_le _⟩
theorem z0o{B:Nat}{g:Nat ->List Nat ->Rat}:∀{cs:List Nat},(∀c ds,ds.length+1=cs.length ->ZB B (g c ds)) ->ZB (cs.length*B) (aY g cs)
 | [],_=>by unfold aY;exact ZB.zero _
 | c::cs,h=>by
  have h1:=(h c cs rfl).sub (z0o (cs:=cs) (g:=fun d ds=>g d (c::ds)) fun d ds e=>h d (c::ds) (by simp;omega))
  refine ZB.mono h1 ?_;rw[List.length_cons,Nat.add_mul];omega
theorem Ly{M N:Nat}:∀{rs:List Row} {cs:List Nat},(∀r∈rs,∀j,ZB M (r j)) ->cs.length<=N ->ZB ((N*M)^rs.length) (dt rs cs)
 | [],[],_,_=>⟨1,by unfold dt;rfl,by simp⟩
 | [],_::_,_,_=>by unfold dt;exact ZB.zero _
 | r::rs,cs,h,l=>by
  have h1:ZB (cs.length* (M* (N*M)^rs.length)) (aY (fun c ds=>r c*dt rs ds) cs):=z0o fun c ds e=>(h r zW c).mul (Ly (fun s hs=>h s (zV _ hs)) (by omega))
  refine ZB.mono h1 ?_;rw[List.length_cons,Nat.pow_succ,Nat.mul_comm ((N*M)^rs.length),Nat.mul_assoc];exact Nat.mul_le_mul_right _ l
theorem zg9{g:Nat ->List Nat ->Rat}:∀{cs:List Nat},(∀c ds,ds.length+1=cs.length ->g c ds=0) ->aY g cs=0
 | [],_=>rfl
 | c::cs,h=>by
  unfold aY;rw[h c cs rfl,zg9 (cs:=cs) fun d ds e=>h d (c::ds) (by simp;omega)]
  grind
theorem z0y:∀{rs:List Row} {cs:List Nat},rs.length≠cs.length ->dt rs cs=0
 | [],[],h=>absurd rfl h
 | [],_::_,_=>rfl
 | r::rs,cs,h=>zg9 fun c ds e=>by
   show r c*dt rs ds=0;rw[z0y (by simp at h;omega)];grind
theorem Ih:∀p,(cols p).length=p
 | 0=>rfl
 | p+1=>by unfold cols;rw[List.length_cons,Ih p]
theorem BT.len{n p:Nat}{A:Nat ->Nat ->Int}{d:Int}{tb:Nat ->Nat ->Int}{rs:List Row}{fs:Nat ->Row}{ix:Nat ->Nat}(h:BT n A p d tb rs fs ix):rs.length=p:=by
 have z:=h.dz;rcases Nat.decEq rs.length (cols p).length with q | q
 ·exact absurd (z0y q) z
 ·rw[q,Ih]
theorem z6e{rs:List Row}{cs:List Nat}{a f g:Row}(hf:∀j,f j=a j+g j)(hg:fL rs g)(z:∀c∈cs,f c=0)(j:Nat):dt rs cs*f j=dt (a::rs) (j::cs):=by
 obtain⟨ks,_,e⟩:=hg;have h1:dt (f::rs) (j::cs)=f j*dt rs cs:=Lr z;have h2:dt (f::rs) (j::cs)=dt (a::rs) (j::cs):=by
  have:=HX (rs:=rs) (cs:=j::cs) (ks:=ks) (ss:=rs) (r:=a) fun s hs=>hs;rw[<- this]
  congr 2
  funext i
  rw[hf,e]
 rw[Rat.mul_comm,<- h1,h2]
theorem z62{rs:List Row}{pre post:List Nat}{c:Nat}{f:Row}(h:fL rs f)(one:f c=1)(z:∀x∈pre++post,f x=0)(d:dt rs (pre++c::post)≠0)(j:Nat):dt rs (pre++c::post)*f j=dt rs (pre++j::post):=by
 have hl:=Um rs _ pre post rfl;have key:=Ur (cs:=pre++c::post) (hl.add ((h.mul (dt rs (pre++c::post))).mul (-1))) (fun x hx=> ?_) d j
 ·grind
 ·by_cases hc:x=c
  ·subst hc;rw[one];grind
  ·have hx' :x∈pre++post:=by
    rcases zR.mp hx with q | q
    ·exact zO _ q
    ·rcases zT.mp q with q | q
     ·exact absurd q hc
     ·exact zP _ q
   rw[z x hx'];have:dt rs (pre++x::post)=0:=by
    rcases zR.mp hx' with q | q
    ·obtain⟨p1,p2,rfl⟩:=List.append_of_mem q;have:=Ia rs (pre:=p1) (post:=p2++x::post) (c:=x) (by simp)
     rw[List.append_assoc];exact this
    ·exact Ia rs q
   rw[this];grind
theorem Uu{z w:Int}{B:Nat}(e:(z:Rat)=(w:Rat))(h:w.natAbs<=B):z.natAbs<=B:=by
 rw[Bl e];exact h
theorem BT.small{n p M N:Nat}{A:Nat ->Nat ->Int}{d:Int}{tb:Nat ->Nat ->Int}{rs:List Row}{fs:Nat ->Row}{ix:Nat ->Nat}(h:BT n A p d tb rs fs ix)(hA:∀k,k<n ->∀j,(A k j).natAbs<=M)(hp:p+1<=N)(h1:1<=N*M){i:Nat}(hi:i<n)(j:Nat):(tb i j).natAbs<=(N*M)^ (p+1):=by
 have wr:∀r∈rs,∀j,ZB M (r j):=fun r hr j=>by
  obtain⟨k,hk,rfl⟩:=h.w r hr;exact⟨A k j,rfl,hA k hk j⟩
 have hl:=h.len;have pw:(N*M)^p<=(N*M)^ (p+1):=Nat.pow_le_pow_right h1 (by omega)
 have ht:=h.t i hi j;rw[h.de] at ht;by_cases q:i<p
 ·have u:=h.up i q;obtain⟨pre,post,e⟩:=List.append_of_mem (fu.mpr q);have nd:=Us p;have dz:=h.dz;have ll:=Ih p;rw[e] at nd dz ht ll;have key:=z62 (rs:=rs) (pre:=pre) (post:=post) (c:=i) (f:=fs i) u.l u.o (fun x hx=> ?_) dz j
  ·rw[key] at ht;obtain⟨z,ez,hz⟩:=Ly (cs:=pre++j::post) wr (N:=N) (by simp at ll⊢;omega)
   rw[hl] at hz;rw[ez] at ht;exact zN (Uu ht hz) pw
  ·refine u.z x ?_ fun z=> ?_
   ·rw[e];rcases zR.mp hx with q | q
    ·exact zO _ q
    ·exact zP _ (zV _ q)
   ·subst z;rw[List.nodup_append] at nd;rcases zR.mp hx with q | q
    ·exact nd.2.2 x q x zW rfl
    ·exact(List.nodup_cons.mp nd.2.1).1 q
 ·obtain⟨hx,lo⟩:=h.lo i (by omega) hi
  obtain⟨g,lg,hf⟩:=lo.g;rw[z6e hf lg lo.z j] at ht;obtain⟨z,ez,hz⟩:=Ly (rs:=dN A (ix i)::rs) (cs:=j::cols p) (M:=M) (N:=N) (fun r hr=>by
   rcases zT.mp hr with q | q
   ·subst q;exact fun j=>⟨A (ix i) j,rfl,hA _ hx j⟩
   ·exact wr r q) (by rw[List.length_cons,Ih];omega)
  rw[List.length_cons,hl] at hz;rw[ez] at ht;exact Uu ht hz
theorem BT.lead{n p M N:Nat}{A:Nat ->Nat ->Int}{d:Int}{tb:Nat ->Nat ->Int}{rs:List Row}{fs:Nat ->Row}{ix:Nat ->Nat}(h:BT n A p d tb rs fs ix)(hA:∀k,k<n ->∀j,(A k j).natAbs<=M)(hp:p<=N):d.natAbs<=(N*M)^p:=by
 have wr:∀r∈rs,∀j,ZB M (r j):=fun r hr j=>by
  obtain⟨k,hk,rfl⟩:=h.w r hr;exact⟨A k j,rfl,hA k hk j⟩
 obtain⟨z,ez,hz⟩:=Ly (cs:=cols p) wr (N:=N) (by rw[Ih];exact hp)
 rw[h.len] at hz;exact Uu (h.de.trans ez) hz
section
variable{α β:Type}[DecidableEq α][DecidableEq β]
def bZ(rows:List (α×β×Int))(w:α):List (α×β×Int):=rows.filter fun r=>decide (r.1=w)
def jm(rows:List (α×β×Int))(h:β):List (α×β×Int):=rows.filter fun r=>decide (r.2.1=h)
def ofM(rows:List (α×β×Int))(m:List β):List (α×β×Int):=rows.filter fun r=>decide (r.2.1∈m)
def Uq(rows:List (α×β×Int)):Prop:=rows.Pairwise fun a b=>¬(a.1=b.1/\a.2.1=b.2.1)
def kW(rows:List (α×β×Int))(w:α):List β:=(bZ rows w).map fun r=>r.2.1
def yW(rows:List (α×β×Int))(w:α)(h:β):Rat:=match rows.find? (fun r=>decide (r.1=w/\r.2.1=h)) with | some r=>(r.2.2:Rat) | none=>0
theorem aR{rows:List (α×β×Int)}{w:α}{r:α×β×Int}:r∈bZ rows w↔r∈rows/\r.1=w:=by
 unfold bZ;rw[List.mem_filter,decide_eq_true_iff]
theorem dD{rows:List (α×β×Int)}{h:β}{r:α×β×Int}:r∈jm rows h↔r∈rows/\r.2.1=h:=by
 unfold jm;rw[List.mem_filter,decide_eq_true_iff]
theorem gb{rows:List (α×β×Int)}{m:List β}{r:α×β×Int}:r∈ofM rows m↔r∈rows/\r.2.1∈m:=by
 unfold ofM;rw[List.mem_filter,decide_eq_true_iff]
theorem Uq.M{rows:List (α×β×Int)}(u:Uq rows)(m:List β):Uq (ofM rows m):=u.filter _
theorem Lz{γ δ:Type}{f:γ ->δ}{R:γ ->γ ->Prop}:∀{l:List γ},l.Pairwise R ->(∀a∈l,∀b∈l,R a b ->f a≠f b) ->(l.map f).Nodup
 | [],_,_=>List.nodup_nil
 | a::l,h,k=>by
  rw[List.pairwise_cons] at h;rw[List.map_cons,List.nodup_cons];refine⟨fun z=> ?_,Lz h.2 fun a ha b hb=>k a (zV _ ha) b (zV _ hb)⟩;obtain⟨b,hb,e⟩:=zE.mp z;exact k a zW b (zV _ hb) (h.1 b hb) e.symm
theorem Uv{rows:List (α×β×Int)}(u:Uq rows)(w:α):(kW rows w).Nodup:=by
 refine Lz (u.filter _) fun a ha b hb n e=>n ⟨?_,e⟩;rw[(aR.mp ha).2,(aR.mp hb).2]
theorem zzn{rows:List (α×β×Int)}(u:Uq rows)(h:β):((jm rows h).map fun r=>r.1).Nodup:=by
 refine Lz (u.filter _) fun a ha b hb n e=>n ⟨e,?_⟩;rw[(dD.mp ha).2,(dD.mp hb).2]
theorem fO{rows:List (α×β×Int)}{w:α}{h:β}:h∈kW rows w↔∃r∈rows,r.1=w/\r.2.1=h:=by
 unfold kW;rw[List.mem_map];exact⟨fun⟨r,h1,h2⟩=>⟨r,(aR.mp h1).1,(aR.mp h1).2,h2⟩,fun⟨r,h1,h2,h3⟩=>⟨r,aR.mpr ⟨h1,h2⟩,h3⟩⟩
theorem Uw:∀{rows:List (α×β×Int)},Uq rows ->∀{a b:α×β×Int},a∈rows ->b∈rows ->a.1=b.1 ->a.2.1=b.2.1 ->a=b
 | r::rows,u,a,b,ha,hb,e1,e2=>by
  unfold Uq at u;rw[List.pairwise_cons] at u;rcases zT.mp ha with q | q
  ·rcases zT.mp hb with q' | q'
   ·rw[q,q']
   ·subst q;exact absurd ⟨e1,e2⟩ (u.1 b q')
  ·rcases zT.mp hb with q' | q'
   ·subst q';exact absurd ⟨e1.symm,e2.symm⟩ (u.1 a q)
   ·exact Uw u.2 q q' e1 e2
theorem LC{rows:List (α×β×Int)}(u:Uq rows){r:α×β×Int}(hr:r∈rows):yW rows r.1 r.2.1=(r.2.2:Rat):=by
 unfold yW;cases e:rows.find? (fun s=>decide (s.1=r.1/\s.2.1=r.2.1)) with
 | none=>
  have:=List.find?_eq_none.mp e r hr;simp at this
 | some s=>
  have h1:=List.mem_of_find?_eq_some e;have h2:s.1=r.1/\s.2.1=r.2.1:=by
   have:=List.find?_some e
   simpa using this
  rw[Uw u h1 hr h2.1 h2.2]
theorem z09{rows:List (α×β×Int)}{w:α}(f:β ->Rat):ao (kW rows w) f=ao (bZ rows w) fun r=>f r.2.1:=vh
theorem Dp(rows:List (α×β×Int))(w:α):(kW rows w).length=(bZ rows w).length:=by unfold kW;rw[List.length_map]
theorem z0z{rows:List (α×β×Int)}{ws:List α}(u:Uq rows)(nw:ws.Nodup)(cw:∀r∈rows,r.1∈ws)(h:β)(F:α ->Rat):ao ws (fun w=>if h∈kW rows w then F w else 0)=ao (jm rows h) fun r=>F r.1:=by
 have e:ao ws (fun w=>if h∈kW rows w then F w else 0)=ao ws fun w=>if w∈ (jm rows h).map (fun r=>r.1) then F w else 0:=by
  refine gB fun w _=> ?_;have:h∈kW rows w↔w∈ (jm rows h).map (fun r=>r.1):=by
   rw[fO,List.mem_map];exact⟨fun⟨r,h1,h2,h3⟩=>⟨r,dD.mpr ⟨h1,h3⟩,h2⟩,fun⟨r,h1,h2⟩=>⟨r,(dD.mp h1).1,h2,(dD.mp h1).2⟩⟩
  by_cases q:h∈kW rows w
  ·rw[if_pos q,if_pos (this.mp q)]
  ·rw[if_neg q,if_neg fun z=>q (this.mpr z)]
 rw[e,Dm (zzn u h) nw fun w hw=>by
  obtain⟨r,h1,h2⟩:=zE.mp hw;rw[<- h2];exact cw r (dD.mp h1).1,vh]
def qe(rows:List (α×β×Int))(x:β ->Rat)(h:β):Prop:=
 ao (jm rows h) (fun r=>((r.2.2:Rat) - x r.2.1) - ao (bZ rows r.1) (fun s=>(s.2.2:Rat) - x s.2.1)/ ((bZ rows r.1).length:Rat))=0
def LK(rows:List (α×β×Int))(x:β ->Rat)(m:List β):Prop:=ao (ofM rows m) (fun r=>x r.2.1)=0
theorem Ii{rows:List (α×β×Int)}(u:Uq rows)(x:β ->Rat)(w:α):aZ (kW rows w) (fun o=>yW rows w o - x o)=ao (bZ rows w) (fun s=>(s.2.2:Rat) - x s.2.1)/ ((bZ rows w).length:Rat):=by
 unfold aZ;rw[Dp,z09]
 congr 1
 refine gB fun r hr=> ?_;have:=LC u (aR.mp hr).1;rw[(aR.mp hr).2] at this;rw[this]
theorem zys{rows:List (α×β×Int)}{ws:List α}(u:Uq rows)(nw:ws.Nodup)(cw:∀r∈rows,r.1∈ws)(x:β ->Rat)(h:β)(e:fM (kW rows) (fun w o=>yW rows w o - x o) ws h=0):qe rows x h:=by
 unfold fM at e;rw[z0z u nw cw h] at e;unfold qe;rw[<- e];refine gB fun r hr=> ?_;have hr' :=dD.mp hr;have y:=LC u hr'.1;rw[hr'.2] at y;rw[Ii u,hr'.2];show _=yW rows r.1 h - x h - _;rw[y]
theorem zzo{rows:List (α×β×Int)}{ws:List α}(u:Uq rows)(nw:ws.Nodup)(cw:∀r∈rows,r.1∈ws)(h:β):dW (ws.map (kW rows)) h=((jm rows h).length:Rat):=by
 unfold dW;rw[vh,z0z u nw cw h,Dl];grind
theorem zwy{rows:List (α×β×Int)}{m:List β}(nm:m.Nodup)(sub:∀r∈rows,r.2.1∈m)(f:β ->Rat):ao m (fun h=>((jm rows h).length:Rat)*f h)=ao rows fun r=>f r.2.1:=by
 have e:ao m (fun h=>((jm rows h).length:Rat)*f h)=ao m fun h=>ao rows fun r=>if r.2.1=h then f r.2.1 else 0:=by
  refine gB fun h _=> ?_;rw[<- Dl (l:=jm rows h)];unfold jm;rw[xU];refine gB fun r _=> ?_;by_cases q:r.2.1=h
  ·rw[if_pos (decide_eq_true q),if_pos q,q]
  ·rw[if_neg (by simp [q]),if_neg q]
 rw[e,Ie];refine gB fun r hr=> ?_;have e2:ao m (fun h=>if r.2.1=h then f r.2.1 else 0)=ao m fun h=>if h∈ [r.2.1] then f r.2.1 else 0:=gB fun h _=>by
  by_cases q:r.2.1=h
  ·rw[if_pos q,if_pos (List.mem_singleton.mpr q.symm)]
  ·rw[if_neg q,if_neg fun z=>q (List.mem_singleton.mp z).symm]
 rw[e2,Dm (f:=fun _=>f r.2.1) (by simp) nm fun y hy=>by rw[List.mem_singleton.mp hy];exact sub r hr]
 show f r.2.1+0=_
 grind
structure lN (rows:List (α×β×Int)) (ws:List α) (m:List β):Prop where
 u:Uq rows
 nw:ws.Nodup
 cw:∀r∈rows,r.1∈ws
 nm:m.Nodup
 sub:∀r∈rows,r.2.1∈m
 on:∀h∈m,∃r∈rows,r.2.1=h
 min:∀C:β ->Prop,(∀w∈ws,(∃x∈kW rows w,C x) ->∀x∈kW rows w,C x) ->(∃x∈m,C x) ->∀x∈m,C x
theorem lN.sub'{rows:List (α×β×Int)}{ws:List α}{m:List β}(L:lN rows ws m):∀s∈ws.map (kW rows),∀x∈s,x∈m:=fun s hs x hx=>by
 obtain⟨w,_,rfl⟩:=zE.mp hs;obtain⟨r,h1,_,h3⟩:=fO.mp hx;rw[<- h3];exact L.sub r h1
theorem lN.ns{rows:List (α×β×Int)}{ws:List α}{m:List β}(L:lN rows ws m):∀s∈ws.map (kW rows),s.Nodup:=fun s hs=>by
 obtain⟨w,_,rfl⟩:=zE.mp hs;exact Uv L.u w
def gC [Inhabited β](rows:List (α×β×Int))(ws:List α)(m:List β)(i j:Nat):Rat:=
 if j<m.length then(if i=0 then dW (ws.map (kW rows)) (m.getD j default) else bR (ws.map (kW rows)) (m.getD i default) (m.getD j default))
 else if i=0 then 0 else fM (kW rows) (yW rows) ws (m.getD i default)
theorem zvf{γ:Type}[Inhabited γ]{m:List γ}{i:Nat}(h:i<m.length):m.getD i default∈m:=by
 rw[List.getD_eq_getElem?_getD,List.getElem?_eq_getElem h];exact yX h
theorem zrd [Inhabited β]{rows:List (α×β×Int)}{ws:List α}{m:List β}(x:β ->Rat):bF m.length (fun j=>gC rows ws m 0 j*x (m.getD j default))=ao m fun h=>dW (ws.map (kW rows)) h*x h:=by
 rw[<- znk];refine xQ fun j hj=> ?_;unfold gC;rw[if_pos hj,if_pos rfl]
theorem zw4 [Inhabited β]{rows:List (α×β×Int)}{ws:List α}{m:List β}(L:lN rows ws m)(x:β ->Rat){i:Nat}(hi:i<m.length)(h0:i≠0):bF m.length (fun j=>gC rows ws m i j*x (m.getD j default))=jc (ws.map (kW rows)) x (m.getD i default):=by
 rw[<- zxn L.ns L.nm L.sub' x (zvf hi),<- znk];refine xQ fun j hj=> ?_;unfold gC;rw[if_pos hj,if_neg h0]
theorem zq8 [Inhabited β]{m:List β}{h0:β}{hs:List β}(e:m=h0::hs){h:β}(hh:h∈hs):∃i,i<m.length/\i≠0/\m.getD i default=h:=by
 obtain⟨i,hi,q⟩:=List.getElem_of_mem hh;subst e;refine⟨i+1,by simp;omega,by omega,?_⟩
 rw[List.getD_eq_getElem?_getD,List.getElem?_cons_succ,List.getElem?_eq_getElem hi,q];rfl
theorem lN.null [Inhabited β]{rows:List (α×β×Int)}{ws:List α}{m:List β}(L:lN rows ws m)(x:β ->Rat)(z:∀i,i<m.length ->bF m.length (fun j=>gC rows ws m i j*x (m.getD j default))=0):∀h∈m,x h=0:=by
 cases em:m with
 | nil=>intro h hh;cases hh
 | cons h0 hs=>
  have nm:=L.nm;have sub:=L.sub';have on:=L.on;have mn:=L.min;rw[em] at nm sub on mn;refine zva L.ns nm sub (fun h hh=> ?_) (fun C hC=>mn C fun w hw=>hC _ (zE.mpr ⟨w,hw,rfl⟩)) (fun h hh=> ?_) ?_
  ·obtain⟨r,h1,h2⟩:=on h hh;exact⟨kW rows r.1,zE.mpr ⟨r.1,L.cw r h1,rfl⟩,fO.mpr ⟨r,h1,rfl,h2⟩⟩
  ·obtain⟨i,hi,i0,e⟩:=zq8 em hh;rw[<- e,<- zw4 L x hi i0];exact z i hi
  ·rw[<- em,<- zrd];exact z 0 (by rw[em];simp)
theorem lN.ans [Inhabited β]{rows:List (α×β×Int)}{ws:List α}{m:List β}(L:lN rows ws m)(x:β ->Rat)(z:∀i,i<m.length ->gC rows ws m i m.length=bF m.length (fun j=>gC rows ws m i j*x (m.getD j default))):(∀h∈m,qe rows x h)/\ao rows (fun r=>x r.2.1)=0:=by
 have e0:m≠ [] ->ao rows (fun r=>x r.2.1)=0:=fun ne=>by
  have q:=z 0 (List.length_pos_iff.mpr ne);rw[zrd] at q;unfold gC at q;rw[if_neg (Nat.lt_irrefl _),if_pos rfl] at q;rw[<- zwy L.nm L.sub,q];exact gB fun h _=>by rw[zzo L.u L.nw L.cw]
 cases em:m with
 | nil=>
  refine⟨fun h hh=>(by cases hh),?_⟩
  cases er:rows with
  | nil=>rfl
  | cons r rs=>
   have:=L.sub r (by rw[er];exact zW)
   rw[em] at this;cases this
 | cons h0 hs=>
  refine⟨fun h hh=>zys L.u L.nw L.cw x h (zyw (S:=ws) (k:=kW rows) (h0:=h0) (hs:=hs) (fun w _=>Uv L.u w) (em ▸ L.nm) (fun w hw y hy=>by rw[<- em];exact L.sub' _ (zE.mpr ⟨w,hw,rfl⟩) y hy) (yW rows) x (fun g hg=> ?_) h hh),e0 (by rw[em];simp)⟩
  obtain⟨i,hi,i0,e⟩:=zq8 em hg;have q:=z i hi;rw[zw4 L x hi i0] at q;unfold gC at q;rw[if_neg (Nat.lt_irrefl _),if_neg i0,e] at q;exact q.symm
end
end HM
namespace L3
open PySem L2 HM
local macro_rules | `(tactic| and_intros)=> `(tactic| dsimp only [aB,bW,cC,cV,cB,cT,yS,yU,pY,oM,za,Gj,J9,aq,aj,j8,fU,dg,Gk,bJ,Gn,d7,aO,gG,hName,iT,aW,iV,Qk,zm,aF,cU,mH,tK,dI,kZ,cM,fD,cj,zx,Gq,gLe,Cj,gGe,gIs,Qt,nu,qM,dJ,wI,wM,Cp,sS,z6t,z7a,nC,Qz,Gu,rG,QM,List.length,List.set_cons_zero,List.set_cons_succ,List.getElem?_cons_zero,List.getElem?_cons_succ,tH,pO,Cz,z15,CG,CJ,CK,Af,mV,Ag,vU,wU,wR,zx7,mJ,tR,Aj,Ak,GR,zyi,GQ,Rx,Ry,iL,oR,jF,GF,gM,List.map,List.append,List.cons_append,List.nil_append])
def Dq(_:Cls):cO:=fun ds P _=>∃i j,ds= [.int i,.int j]/\P (.int (Int.gcd i j))
def xV(c:Cls):cO:=fun ds P E=>∃i j:Int,ds= [.int i,.int j]/\bN i<=9000/\bN j<=9000/\if j=0 then E (.ref c.bQ) else P (qD ((i:Rat)/ (j:Rat)))
def Dr(c:Cls):cO:=fun ds P _=>∃a b:Rat,ds= [qD a,qD b]/\Sz 4000 a/\Sz 4000 b/\P (qD (a+b))
def Ij(c:Cls):cO:=fun ds P _=>∃a b:Rat,ds= [qD a,qD b]/\Sz 4000 a/\Sz 4000 b/\P (qD (a - b))
def z6l(c:Cls):cO:=fun ds P _=>∃a b:Rat,ds= [qD a,qD b]/\Sz 4000 a/\Sz 4000 b/\P (qD (a*b))
def z7d(c:Cls):cO:=fun ds P E=>∃a b:Rat,ds= [qD a,qD b]/\Sz 4000 a/\Sz 4000 b/\if b=0 then E (.ref c.bQ) else P (qD (a/b))
def z6k(c:Cls):cO:=fun ds P _=>∃a b:Rat,ds= [qD a,qD b]/\Sz 4000 a/\Sz 4000 b/\P (.bl (decide (a<b)))
def dX(ns:List Int)(k:Nat):Int:=if h:k<ns.length then ns[k] else
 let m:Int:=if ns= [] then(k:Int)*7919+5 else(ns.getD ((k*7) % ns.length) 0*48271+ (k:Int)*7919).fmod 2147483647
 (m*m).fmod 2147483629
def oA(_:Cls):cO:=fun ds P _=>∃(ns:List Int) (k:Nat),ds= [.lst (ns.map .int),.int k]/\ns.length<=63/\k<1000/\P (.int (dX ns k))
def z5k(_:Cls):cO:=fun ds P _=>∃(x:D) (f:Rat),ds= [x,qD f]/\ (x= .non\/∃g,x=qD g)/\∀b:Bool,(b=true↔x=qD f) ->P (.bl b)
def LQ(_:Cls):cO:=Kl
def d9:List Rat ->Rat | []=>0 | q::qs=>q+d9 qs
theorem zp1(a b:List Rat):d9 (a++b)=d9 a+d9 b:=by
 induction a with
 | nil=>simp [d9,Rat.zero_add]
 | cons x xs ih=>simp only [List.cons_append,d9,ih,Rat.add_assoc]
def Ds(c:Cls):cO:=fun ds P _=>∃qs:List Rat,ds= [.lst (qs.map qD)]/\ (∀q∈qs,Sz 4000 q)/\ (∀k,Sz 4000 (d9 (qs.take k)))/\P (qD (d9 qs))
def z6s(c:Cls):cO:=fun ds P E=>∃qs:List Rat,ds= [.lst (qs.map qD)]/\qs.length<=1000/\ (∀q∈qs,Sz 4000 q)/\ (∀k,Sz 4000 (d9 (qs.take k)))/\if qs= [] then E (.ref c.bQ) else P (qD (d9 qs/ (qs.length:Int)))
abbrev Mx:=Nat ->Nat ->Int
abbrev Mq:=Nat ->Nat ->Rat
def Ik(k s:Nat)(a:Mx):Mx:=fun i=>a (jK k s i)
def cI(m:Nat)(f:Nat ->Int):D:= .lst ((List.range m).map fun j=> .int (f j))
def iG(n m:Nat)(a:Mx):D:= .lst ((List.range n).map fun i=>cI m (a i))
def gO(m:Nat)(f:Nat ->Rat):D:= .lst ((List.range m).map fun j=>qD (f j))
def uz(n m:Nat)(a:Mq):D:= .lst ((List.range n).map fun i=>gO m (a i))
def LR(q:Rat):Prop:=bN q.num<=400/\bN (q.den:Int)<=16
def Il(_:Cls):cO:=fun ds P _=>∃(m:Nat) (f:Nat ->Rat),ds= [gO m f]/\m<=13/\ (∀j,j<m ->LR (f j))/\∀(μ:Int) (g:Nat ->Int),0<μ ->(∀j,j<m ->(g j:Rat)=(μ:Rat)*f j) ->(∀j,bN (g j)<=640) ->P (cI m g)
def Im(_:Cls):cO:=fun ds P _=>∃(m k:Nat) (f g:Nat ->Int) (p:Int),ds= [cI m f,cI m g,.int k,.int p]/\k<m/\p≠0/\bN p<=9000/\ (∀j,bN (f j)<=9000)/\ (∀j,bN (g j)<=9000)/\P (cI m fun j=>(g k*f j - f k*g j).fdiv p)
def rO(k:Nat)(p:Int)(a:Mx):Mx:=fun i j=>if i=k then a k j else(a k k*a i j - a i k*a k j).fdiv p
def Io(_:Cls):cO:=fun ds P _=>∃(a:Mx) (n m k:Nat) (p:Int),ds= [iG n m a,.int k,.int p]/\k<n/\k<m/\p≠0/\bN p<=9000/\ (∀i j,i<n ->bN (a i j)<=9000)/\P (iG n m (rO k p a))
def Ip(_:Cls):cO:=fun ds P _=>∃(a:Mx) (n m k s:Nat),ds= [iG n m a,.int k,.int s]/\k<n/\s<n/\P (iG n m (Ik k s a))
def Ir(c:Cls):cO:=fun ds P E=>∃(a:Mx) (n m k:Nat),ds= [iG n m a,.int k]/\n<=1000/\k<n/\k<m/\ (∀s,k<=s ->s<n ->a s k≠0 ->P (iG n m (Ik k s a)))/\ ((∀s,k<=s ->s<n ->a s k=0) ->E (.ref c.dU))
def Sys(n:Nat)(A:Mq)(ds:List D):Prop:=ds= [uz n n A,gO n fun i=>A i n]/\n<=12/\∀i j,i<n ->j<=n ->LR (A i j)
def Slv(n:Nat)(A:Mq)(x:Nat ->Rat):Prop:=∀r,r<n ->A r n=bF n fun j=>A r j*x j
def Iu(c:Cls):cO:=fun ds P E=>∃(n:Nat) (A:Mq),Sys n A ds/\ (∀(y:Nat ->Rat) (k:Nat),k<n ->y k=1 ->(∀r,r<n ->(bF n fun j=>A r j*y j)=0) ->E (.ref c.dU))/\∀x,Slv n A x ->(∀i,i<n ->Sz 8500 (x i)) ->P (gO n x)
abbrev Rw:=Str×Str×Int
def jL(r:Rw):D:= .tup [.str r.1,.str r.2.1,.int r.2.2]
def aG(rs:List Rw):D:= .lst (rs.map jL)
def bT(rows:List Rw)(w:Str):List Str:=(rows.filter fun r=>decide (r.1=w)).map fun r=>r.2.1
structure Ux (rows:List Rw) (Ss:List (List Str)):Prop where
 of:∀S∈Ss,∃r∈rows,∀x,x∈S↔x∈bT rows r.1
 to:∀r∈rows,∃S∈Ss,∀x,x∈S↔x∈bT rows r.1
structure rP (rows:List Rw) (ms:List (List Str)):Prop where
 sr:∀m∈ms,m.Pairwise fun a b=>gD a b=true
 up:ms.Pairwise fun a b=>gD (hdS a) (hdS b)=true
 pi:∃Ss,Ux rows Ss/\eN Ss ms
def qT(p:List Str×List D):T:= .dic (p.1.map .inr) (p.2.map .leaf)
structure Bp (rows:List Rw) (ws:List Str) (ps:List (List Str×List D)):Prop where
 len:ws.length=ps.length
 nd:ws.Nodup
 lw:ws.length<=rows.length
 wm:∀w,w∈ws↔∃r∈rows,r.1=w
 pt:∀(q:Nat) w p,ws[q]?=some w ->ps[q]?=some p ->p.1.length=p.2.length/\p.1.Nodup/\p.1.length<=rows.length/\∀h,h∈p.1↔h∈bT rows w
 ex:Uq rows ->∀(q:Nat) w p,ws[q]?=some w ->ps[q]?=some p ->p=(kW rows w,(bZ rows w).map fun r=> .int r.2.2)
def Dt(_:Cls):qP:=fun ds P _=>∃rows:List Rw,ds= [aG rows]/\rows.length<=1000/\∀ws ps,Bp rows ws ps ->P (.dic (ws.map .inr) (ps.map qT))
def Du(_:Cls):cO:=fun ds P _=>∃g hs:List Str,ds= [gl g,gl hs]/\P (.bl (aH g hs))
def Iv(_:Cls):cO:=fun ds P _=>∃(fs:List (List Str)) (hs U:List Str),ds= [.lst (fs.map gl),gl hs]/\hs.length+fs.flatten.length<4000/\fs.length<4000/\U.length<60/\ (∀x∈hs,x∈U)/\ (∀f∈fs,∀x∈f,x∈U)/\
 ∀g:List Str,g.Pairwise (fun a b=>gD a b=true) ->(∀x,x∈g↔x∈hs\/∃f∈fs,aH f hs=true/\x∈f) ->P (.lst ((fs.filter (fun f=> !aH f hs)++ [g]).map gl))
def Iw(_:Cls):qP:=fun ds P _=>∃(rows:List Rw) (U:List Str),ds= [aG rows]/\rows.length<=1000/\U.length<60/\ (∀r∈rows,r.2.1∈U)/\∀ms,rP rows ms ->P (.lst ((ms.map gl).map .leaf))
def vm(rows:List Rw)(w:Str):D:= .dic ((kW rows w).map .inr) ((bZ rows w).map fun r=> .int r.2.2)
def kE(rows:List Rw)(ws:List Str):D:= .lst (ws.map (vm rows))
structure LB (rows:List Rw):Prop where
 few:rows.length<=200
 mm:∀r∈rows,r.2.2.natAbs<2^100
 wk:∀w,(bZ rows w).length<=12
def pA(rows:List Rw)(ws:List Str):Prop:=ws.length<=200/\∀w∈ws,bZ rows w≠ []
def xW(_:Cls):cO:=fun ds P _=>∃(rows:List Rw) (ws:List Str) (h:Str),ds= [.str h,kE rows ws]/\P (kE rows (ws.filter fun w=>decide (h∈kW rows w)))
def Iz(_:Cls):cO:=fun ds P _=>∃(rows:List Rw) (ws:List Str) (h o:Str),ds= [.str h,.str o,kE rows ws]/\LB rows/\pA rows ws/\P (qD (bR (ws.map (kW rows)) h o))
def IK(_:Cls):cO:=fun ds P _=>∃(rows:List Rw) (ws m:List Str) (h:Str),ds= [.str h,gl m,kE rows ws]/\LB rows/\pA rows ws/\P (.lst (m.map fun o=>qD (bR (ws.map (kW rows)) h o)))
def IV(_:Cls):cO:=fun ds P _=>∃(rows:List Rw) (w:Str),ds= [vm rows w]/\LB rows/\bZ rows w≠ []/\P (qD (ao (bZ rows w) (fun r=>(r.2.2:Rat))/ ((bZ rows w).length:Rat)))
def IW(_:Cls):cO:=fun ds P _=>∃(rows:List Rw) (ws:List Str) (h:Str),ds= [.str h,kE rows ws]/\Uq rows/\LB rows/\pA rows ws/\P (qD (fM (kW rows) (yW rows) ws h))
def Ja(_:Cls):cO:=fun ds P _=>∃(rows:List Rw) (ws m:List Str),ds= [gl m,kE rows ws]/\lN rows ws m/\LB rows/\pA rows ws/\m≠ []/\m.length<=12/\
 ∀x:Str ->Rat,(∀h∈m,qe rows x h) ->ao rows (fun r=>x r.2.1)=0 ->(∀h∈m,Sz 8500 (x h)) ->P (.lst (m.map fun h=>qD (x h)))
structure Lean (rows:List Rw) (ms:List (List Str)) (x:Str ->Rat):Prop where
 g:rP rows ms
 ev:∀m∈ms,∀h∈m,qe rows x h
 em:∀m∈ms,LK rows x m
 sz:∀m∈ms,∀h∈m,Sz 8500 (x h)
def gP(hs:List Str)(x:Str ->Rat):T:= .dic (hs.map .inr) ((hs.map fun h=>qD (x h)).map .leaf)
def aP(hs:List Str)(x:Str ->Rat):D:= .nq (hs.map .inr) (hs.map fun h=>qD (x h))
def Jb(_:Cls):qP:=fun ds P _=>∃(rows:List Rw) (U:List Str),ds= [aG rows]/\Uq rows/\LB rows/\U.length<=12/\ (∀r∈rows,r.2.1∈U)/\∀ms x,Lean rows ms x ->P (gP ms.flatten x)
def Jc(_:Cls):cO:=fun ds P _=>∃(rows:List Rw) (U:List Str) (c:Nat),ds= [aG rows]/\U.length<60/\ (∀r∈rows,r.2.1∈U)/\ (∀w,(bT rows w).length<=c)/\rows.length* (1+c)<4000/\∀ms,rP rows ms ->P (.lst (ms.map gl))
def Bq(_:Cls):cO:=fun ds P _=>∃(n:Int) (m:Nat),ds= [.int n,.int m]/\m<=20/\∀xs:List Str,xs.length=m ->xs.Nodup ->P (.lst (xs.map .str))
def Jd(_:Cls):cO:=fun ds P _=>∃a b d e n:Int,ds= [.int a,.int b,.int d,.int e,.int n]/\e≠0/\∀t:Bool,P (.bl t)
def Je(_:Cls):cO:=fun ds P _=>∃(ns:List Int) (hands works:Nat),ds= [.lst (ns.map .int),.int hands,.int works]/\ns.length<=63/\1<=hands/\hands<=5/\works<=8/\
 ∀(rows:List Rw) (U:List Str),rows.length<=40 ->U.length<=5 ->(∀r∈rows,r.2.1∈U) ->Uq rows ->(∀r∈rows,r.2.2.natAbs<2^40) ->P (aG rows)
def Jf(_:Cls):cO:=fun ds P _=>∃(ns:List Int) (hands works:Nat),ds= [.lst (ns.map .int),.int hands,.int works]/\ns.length<=63/\1<=hands/\hands<=12/\works<=60/\
 ∀(rows:List Rw) (U:List Str),rows.length<=2*works ->U.length<=12 ->(∀r∈rows,r.2.1∈U) ->(∀w,(bT rows w).length<=2) ->Uq rows ->(∀r∈rows,r.2.2.natAbs<2^40) ->P (aG rows)
def Dv(_:Cls):cO:=fun ds P _=>∃i j:Int,ds= [.int i,.int j]/\P (.int (Int.gcd i j))
def Dw(_:Cls):cO:=fun ds P _=>∃(hs:List Str) (x:Str ->Rat),ds= [aP hs x]/\hs.Nodup/\hs.length<=60/\ (∀h∈hs,Sz 8500 (x h))/\
 ∀B:Int,0<B ->(∀h∈hs,((x h).den:Int)∣B) ->bN B<=600000 ->P (.int B)
def Jg(_:Cls):cO:=fun ds P _=>∃(rows:List Rw) (hs:List Str) (x:Str ->Rat),ds= [aG rows,aP hs x]/\hs.Nodup/\hs.length<=60/\ (∀h∈hs,Sz 8500 (x h))/\LB rows/\ (∀r∈rows,r.2.1∈hs)/\ (∀r∈rows,(bZ rows r.1).length∣60)/\ (∀h∈hs,qe rows x h)/\P (.bl true)
def Jh(_:Cls):cO:=fun ds P _=>∃(rows:List Rw) (ms:List (List Str)) (x:Str ->Rat) (U:List Str) (c:Nat),ds= [aG rows,aP ms.flatten x]/\Lean rows ms x/\ms.flatten.Nodup/\ms.flatten.length<=60/\LB rows/\ (∀r∈rows,r.2.1∈ms.flatten)/\U.length<60/\ (∀r∈rows,r.2.1∈U)/\ (∀w,(bT rows w).length<=c)/\rows.length* (1+c)<4000/\P (.bl true)
def Ji(_:Cls):cO:=fun ds P _=>∃(rows:List Rw) (hs:List Str) (x:Str ->Rat),ds= [aP hs x,aG rows]/\hs.Nodup/\hs.length<60/\rows.length<=200/\ (∀h,h∈hs↔∃r∈rows,r.2.1=h)/\P (.bl true)
theorem zvw{c:Cls}{ds P E}(h:Dt c ds P E):ds.length=1:=by obtain⟨_,rfl,_⟩:=h;rfl
theorem z5u{c:Cls}{ds P E}(h:Du c ds P E):ds.length=2:=by obtain⟨_,_,rfl,_⟩:=h;rfl
theorem zzc{c:Cls}{ds P E}(h:Iv c ds P E):ds.length=2:=by obtain⟨_,_,_,rfl,_⟩:=h;rfl
theorem zx0{c:Cls}{ds P E}(h:Iw c ds P E):ds.length=1:=by obtain⟨_,_,rfl,_⟩:=h;rfl
theorem zm5{c:Cls}{ds P E}(h:xW c ds P E):ds.length=2:=by obtain⟨_,_,_,rfl,_⟩:=h;rfl
theorem z2l{c:Cls}{ds P E}(h:Iz c ds P E):ds.length=3:=by obtain⟨_,_,_,_,rfl,_⟩:=h;rfl
theorem zzs{c:Cls}{ds P E}(h:IK c ds P E):ds.length=3:=by obtain⟨_,_,_,_,rfl,_⟩:=h;rfl
theorem zpk{c:Cls}{ds P E}(h:IV c ds P E):ds.length=1:=by obtain⟨_,_,rfl,_⟩:=h;rfl
theorem zyq{c:Cls}{ds P E}(h:IW c ds P E):ds.length=2:=by obtain⟨_,_,_,rfl,_⟩:=h;rfl
theorem zif{c:Cls}{ds P E}(h:Ja c ds P E):ds.length=2:=by obtain⟨_,_,_,rfl,_⟩:=h;rfl
theorem zs7{c:Cls}{ds P E}(h:Jb c ds P E):ds.length=1:=by obtain⟨_,_,rfl,_⟩:=h;rfl
theorem zok{c:Cls}{ds P E}(h:Jc c ds P E):ds.length=1:=by obtain⟨_,_,_,rfl,_⟩:=h;rfl
theorem zp8{c:Cls}{ds P E}(h:Bq c ds P E):ds.length=2:=by obtain⟨_,_,rfl,_⟩:=h;rfl
theorem zny{c:Cls}{ds P E}(h:Jd c ds P E):ds.length=5:=by obtain⟨_,_,_,_,_,rfl,_⟩:=h;rfl
theorem zte{c:Cls}{ds P E}(h:Je c ds P E):ds.length=3:=by obtain⟨_,_,_,rfl,_⟩:=h;rfl
theorem zi3{c:Cls}{ds P E}(h:Jf c ds P E):ds.length=3:=by obtain⟨_,_,_,rfl,_⟩:=h;rfl
theorem zm7{c:Cls}{ds P E}(h:Dv c ds P E):ds.length=2:=by obtain⟨_,_,rfl,_⟩:=h;rfl
theorem zof{c:Cls}{ds P E}(h:Dw c ds P E):ds.length=1:=by obtain⟨_,_,rfl,_⟩:=h;rfl
theorem zta{c:Cls}{ds P E}(h:Jg c ds P E):ds.length=2:=by obtain⟨_,_,_,rfl,_⟩:=h;rfl
theorem zmt{c:Cls}{ds P E}(h:Jh c ds P E):ds.length=2:=by obtain⟨_,_,_,_,_,rfl,_⟩:=h;rfl
theorem zpv{c:Cls}{ds P E}(h:Ji c ds P E):ds.length=2:=by obtain⟨_,_,_,rfl,_⟩:=h;rfl
def Uy(K:W.Frag)(c:Cls):au:=(aO 7 (cB dI (cV 7) (cB dJ (cV 2) (cB cj (cB dI (cV 9) (cB cM (cV 6) (mH GR (aj (oM (cB nu (cV 8) (cV 4)) (cB qM (cB cj (cV 0) (cC (.int 3))) (cC (.int 1)))) aq)))) (cC (.int 26))))))
def Uz(K:W.Frag)(c:Cls):au:=(aB (aO 9 (cB cj (cB dI (cB dI (cB cM (cB fD (cV 0) (cC (.int 24))) (cC (.int 48271))) (cB cM (cB cM (cV 8) (cV 8)) (cC (.int 69621)))) (cB cM (cV 8) (cC (.int 7)))) (cC (.int 2147483647))))
 (Uy K c))
def zhi(K:W.Frag)(c:Cls):au:=(wU 5 wR (aj (cV 7) aq))
def zd0(K:W.Frag)(c:Cls):au:=(aB (jU (aj (cB dI (cV 3) (cB cM (cV 6) (mH GR (aj (cB nu (cB cj (cV 0) (cC (.int 3))) (cC (.int 1))) aq)))) aq) (hName 8)
 (Uz K c))
 (zhi K c))
def UG(K:W.Frag)(c:Cls):au:=(aB (aO 7 (cC (.str (Str.ofString ""))))
 (zd0 K c))
def zkh(K:W.Frag)(c:Cls):au:=(bJ (cV 5))
def zfq(K:W.Frag)(c:Cls):au:=(aB (jU (aj (cV 1) aq) (hName 6)
 (UG K c))
 (zkh K c))
def zfx(K:W.Frag)(c:Cls):au:=(aB (gG 5 (fU aq))
 (zfq K c))
def UJ(K:W.Frag)(c:Cls):au:=(aB (aO 4 (cB cj (cB fD (cV 0) (cC (.int 24))) (cV 3)))
 (zfx K c))
def zfs(K:W.Frag)(c:Cls):au:=(aB (d7 (cT (cB nu (cB cj (cV 0) (cC (.int 3))) (cC (.int 1))))
 (aO 3 (cC (.int 1)))
 bW)
 (UJ K c))
def zfp(K:W.Frag)(c:Cls):au:=(aB (aO 3 (cB dI (cC (.int 1)) (cB cj (cB fD (cV 0) (cC (.int 3))) (cC (.int 8)))))
 (zfs K c))
def Ma(K:W.Frag)(c:Cls):au:=(aB (aO 2 (cC (.str (Str.ofString "abcdefghijklmnopqrstuvwxyz"))))
 (zfp K c))
def zmy(K:W.Frag)(c:Cls):au:=(bJ (cB cj (cB cM (cV 2) (cV 2)) (cC (.int 2147483629))))
def zmc(K:W.Frag)(c:Cls):au:=(aB (d7 (cT (cB Cj (mH sS (aj (cV 0) aq)) (cC (.int 0))))
 (aO 2 (cB cj (cB dI (cB cM (cB dJ (cV 0) (cB cj (cB cM (cV 1) (cC (.int 7))) (mH sS (aj (cV 0) aq)))) (cC (.int 48271))) (cB cM (cV 1) (cC (.int 7919)))) (cC (.int 2147483647))))
 bW)
 (zmy K c))
def zls(K:W.Frag)(c:Cls):au:=(aB (aO 2 (cB dI (cB cM (cV 1) (cC (.int 7919))) (cC (.int 5))))
 (zmc K c))
def zjw(K:W.Frag)(c:Cls):au:=(aB (d7 (cT (cB Gq (cV 1) (mH sS (aj (cV 0) aq))))
 (bJ (cB dJ (cV 0) (cV 1)))
 bW)
 (zls K c))
def zjy(K:W.Frag)(c:Cls):au:=(bJ (cC (.bl true)))
def ze3(K:W.Frag)(c:Cls):au:=(aB (d7 (cT (cB nu (cV 0) (cC (.int 2))))
 (bJ (oM (cB nu (cB cj (cV 1) (cC (.int 2))) (cB cj (cV 2) (cC (.int 2)))) (cB Cj (cB cj (cV 4) (cC (.int 4))) (cC (.int 0)))))
 bW)
 (zjy K c))
def zev(K:W.Frag)(c:Cls):au:=(aB (d7 (cT (cB nu (cV 0) (cC (.int 1))))
 (bJ (za (cB nu (cV 2) (cB cj (cV 1) (cV 3))) (cB nu (cV 2) (cB cj (cB dI (cV 1) (cC (.int 1))) (cV 3)))))
 bW)
 (ze3 K c))
def Mf(K:W.Frag)(c:Cls):au:=(aB (d7 (cT (cB nu (cV 0) (cC (.int 0))))
 (bJ (cB Cj (cB cj (cV 4) (cC (.int 3))) (cC (.int 0))))
 bW)
 (zev K c))
def zel(K:W.Frag)(c:Cls):au:=(d7 (cT (aF (Jd c) (aj (cV 3) (aj (cV 8) (aj (cV 9) (aj (cV 1) (aj (cV 10) aq)))))))
 (wU 7 wR (aj (j8 (aj (cB dJ (cV 5) (cV 8)) (aj (cB dJ (cV 6) (cV 9)) (aj (cB cj (cB fD (cV 10) (cC (.int 12))) (cV 4)) aq)))) aq))
 bW)
def UL(K:W.Frag)(c:Cls):au:=(aB (aO 10 (aF (oA c) (aj (cV 0) (aj (cB dI (cB dI (cC (.int 6)) (cB cM (cV 8) (cV 1))) (cV 9)) aq))))
 (zel K c))
def UW(K:W.Frag)(c:Cls):au:=(jU (aj (cV 1) aq) (hName 9)
 (UL K c))
def zhd(K:W.Frag)(c:Cls):au:=(bJ (dg (mJ (dg (CK (cV 7) (CJ (cV 11)) CG)) (dg (CK (cV 7) CG (CJ (cV 11)))))))
def zg0(K:W.Frag)(c:Cls):au:=(aB (aO 11 (cB cj (cB fD (aF (oA c) (aj (cV 0) (aj (cC (.int 3)) aq))) (cC (.int 4))) (cB dI (mV (mH sS (aj (cV 7) aq))) (cC (.int 1)))))
 (zhd K c))
def zgy(K:W.Frag)(c:Cls):au:=(aB (jU (aj (cV 2) aq) (hName 8)
 (UW K c))
 (zg0 K c))
def zgu(K:W.Frag)(c:Cls):au:=(aB (gG 7 (fU aq))
 (zgy K c))
def zhb(K:W.Frag)(c:Cls):au:=(aB (aO 6 (aF (Bq c) (aj (aF (oA c) (aj (cV 0) (aj (cC (.int 5)) aq))) (aj (cV 1) aq))))
 (zgu K c))
def U0(K:W.Frag)(c:Cls):au:=(aB (aO 5 (aF (Bq c) (aj (aF (oA c) (aj (cV 0) (aj (cC (.int 4)) aq))) (aj (cV 2) aq))))
 (zhb K c))
def zg3(K:W.Frag)(c:Cls):au:=(aB (aO 4 (cB dJ (dg (fU (aj (cC (.int 10)) (aj (cC (.int 4)) (aj (cC (.int 10)) (aj (cB zx (cC (.int 10)) (cC (.int 12))) aq)))))) (cB cj (aF (oA c) (aj (cV 0) (aj (cC (.int 3)) aq))) (cC (.int 4)))))
 (U0 K c))
def Mg(K:W.Frag)(c:Cls):au:=(aB (aO 3 (cB cj (aF (oA c) (aj (cV 0) (aj (cC (.int 2)) aq))) (cC (.int 4))))
 (zg3 K c))
def zwe(K:W.Frag)(c:Cls):au:=(bJ (mH Rp (aj (dg (bY 1 [0] (iL (cV 1)) (hName 0) gM (cB (tR false) (cV 0) (cV 1)))) aq)))
def zoo(K:W.Frag)(c:Cls):au:=(d7 (cT (aF (Du c) (aj (cV 4) (aj (cV 1) aq))))
 (wU 3 Rt (aj (cV 4) aq))
 bW)
def zja(K:W.Frag)(c:Cls):au:=(bJ (dg (mJ (cV 2) (dg (fU (aj (dg (pO xq (aj (cV 3) aq))) aq))))))
def zqf(K:W.Frag)(c:Cls):au:=(aB (ji (cV 0) (hName 4)
 (zoo K c))
 (zja K c))
def zqo(K:W.Frag)(c:Cls):au:=(aB (gG 3 (pO Cz (aj (cV 1) aq)))
 (zqf K c))
def zoz(K:W.Frag)(c:Cls):au:=(aB (aO 2 (dg (bY 1 [1] (iL (cV 0)) (hName 0) (pY (cT (aF (Du c) (aj (cV 0) (aj (cV 1) aq))))) (cV 0))))
 (zqo K c))
def ze2(K:W.Frag)(c:Cls):au:=(Hv 1 2 3 (cV 4))
def zmg(K:W.Frag)(c:Cls):au:=(aB (d7 (Ht 1 (cV 2))
 (Hu 1 2 Aw)
 bW)
 (ze2 K c))
def zh6(K:W.Frag)(c:Cls):au:=(qO (nV 1))
def znx(K:W.Frag)(c:Cls):au:=(aB (ji (cV 0) (iV 3 (aW (hName 2) (aW (hName 3) (aW (hName 4) iT))))
 (zmg K c))
 (zh6 K c))
def zlg(K:W.Frag)(c:Cls):au:=(aB (mW 1 Aw)
 (znx K c))
def znp(K:W.Frag)(c:Cls):au:=(aO 1 (aF (Iv c) (aj (cV 1) (aj (dg (pO Tn (aj (cV 2) aq))) aq))))
def zpz(K:W.Frag)(c:Cls):au:=(qO (ZW (pO K9 (aj (cV 1) aq))))
def zp5(K:W.Frag)(c:Cls):au:=(aB (oR (zsw (qb (Dt c) (aj (cV 0) aq))) (hName 2)
 (znp K c))
 (zpz K c))
def zox(K:W.Frag)(c:Cls):au:=(aB (aO 1 (dg (fU aq)))
 (zp5 K c))
def zjc(K:W.Frag)(c:Cls):au:=(aO 1 (cV 2))
def zi6(K:W.Frag)(c:Cls):au:=(aB (aO 0 (cV 1))
 (zjc K c))
def zl2(K:W.Frag)(c:Cls):au:=(aB (aO 2 (cB cj (cV 0) (cV 1)))
 (zi6 K c))
def znw(K:W.Frag)(c:Cls):au:=(bJ (mH Cp (aj (cV 0) aq)))
def zk4(K:W.Frag)(c:Cls):au:=(aB (pZ (cT (cB qM (cV 1) (cC (.int 0))))
 (zl2 K c))
 (znw K c))
def zjf(K:W.Frag)(c:Cls):au:=(aO 1 (cB cM (cV 1) (cB fD (cB dJ (cV 2) (cC (.int 1))) (aF (Dq c) (aj (cV 1) (aj (cB dJ (cV 2) (cC (.int 1))) aq))))))
def zkg(K:W.Frag)(c:Cls):au:=(bJ (dg (bY 1 [1] (iL (cV 0)) (hName 0) gM (cB cM (cB dJ (cV 0) (cC (.int 0))) (cB fD (cV 1) (cB dJ (cV 0) (cC (.int 1))))))))
def zkk(K:W.Frag)(c:Cls):au:=(aB (ji (cV 0) (hName 2)
 (zjf K c))
 (zkg K c))
def zh5(K:W.Frag)(c:Cls):au:=(aB (aO 1 (cC (.int 1)))
 (zkk K c))
def zkq(K:W.Frag)(c:Cls):au:=(bJ (dg (bY 2 [0,1,2,3] (G5 (aj (cV 0) (aj (cV 1) aq))) (iV 2 (aW (hName 0) (aW (hName 1) iT))) gM (cB fD (cB kZ (cB cM (cB dJ (cV 3) (cV 4)) (cV 0)) (cB cM (cB dJ (cV 2) (cV 4)) (cV 1))) (cV 5)))))
def zn3(K:W.Frag)(c:Cls):au:=(bJ (dg (bY 2 [1,2,3] (GQ (aj (cV 0) aq)) (iV 2 (aW (hName 0) (aW (hName 1) iT))) gM (J9 (cT (cB nu (cV 0) (cV 2))) (cV 1) (aF (Im c) (aj (cV 1) (aj (cV 4) (aj (cV 2) (aj (cV 3) aq)))))))))
def zkr(K:W.Frag)(c:Cls):au:=(aB (aO 3 (cB dJ (cV 0) (cV 1)))
 (zn3 K c))
def zml(K:W.Frag)(c:Cls):au:=(bJ (j8 (aj (cB fD (cV 0) (cV 2)) (aj (cB fD (cV 1) (cV 2)) aq))))
def zly(K:W.Frag)(c:Cls):au:=(aB (d7 (cT (cB Gq (cV 1) (cC (.int 0))))
 (aO 2 (cU tK (cV 2)))
 bW)
 (zml K c))
def zlv(K:W.Frag)(c:Cls):au:=(aB (aO 2 (aF (Dq c) (aj (cV 0) (aj (cV 1) aq))))
 (zly K c))
def zje(K:W.Frag)(c:Cls):au:=(aB (d7 (cT (cB nu (cV 1) (cC (.int 0))))
 (nC c.bQ (aj (cC (.str (Str.ofString "the bottom of a fraction is not 0"))) aq))
 bW)
 (zlv K c))
def zkd(K:W.Frag)(c:Cls):au:=(bJ (cV 3))
def zkj(K:W.Frag)(c:Cls):au:=(aB (Ao 3 (cV 2) (cB dJ (cV 0) (cV 1)))
 (zkd K c))
def zkc(K:W.Frag)(c:Cls):au:=(aB (Ao 3 (cV 1) (cB dJ (cV 0) (cV 2)))
 (zkj K c))
def zhx(K:W.Frag)(c:Cls):au:=(aB (gG 3 (pO Cz (aj (cV 0) aq)))
 (zkc K c))
def zvt(K:W.Frag)(c:Cls):au:=(d7 (cT (cB qM (cB dJ (cB dJ (cV 0) (cV 2)) (cV 1)) (cC (.int 0))))
 (bJ (aF (Ip c) (aj (cV 0) (aj (cV 1) (aj (cV 2) aq)))))
 bW)
def zyg(K:W.Frag)(c:Cls):au:=(nC c.dU (aj (cC (.str (Str.ofString "the system has no answer, or several"))) aq))
def z08(K:W.Frag)(c:Cls):au:=(aB (wL (aj (cV 1) (aj (mH sS (aj (cV 0) aq)) aq)) (hName 2)
 (zvt K c))
 (zyg K c))
def zkm(K:W.Frag)(c:Cls):au:=(aO 3 (cB dJ (cB dJ (cV 2) (cV 4)) (cV 4)))
def zot(K:W.Frag)(c:Cls):au:=(aB (aO 2 (aF (Io c) (aj (aF (Ir c) (aj (cV 2) (aj (cV 4) aq))) (aj (cV 4) (aj (cV 3) aq)))))
 (zkm K c))
def zqe(K:W.Frag)(c:Cls):au:=(bJ (dg (bY 2 [] (GQ (aj (cV 2) aq)) (iV 2 (aW (hName 0) (aW (hName 1) iT))) gM (aF (xV c) (aj (cB dJ (cV 1) (cU tK (cC (.int 1)))) (aj (cB dJ (cV 1) (cV 0)) aq))))))
def zqs(K:W.Frag)(c:Cls):au:=(aB (jU (aj (mH sS (aj (cV 2) aq)) aq) (hName 4)
 (zot K c))
 (zqe K c))
def zjn(K:W.Frag)(c:Cls):au:=(aB (aO 3 (cC (.int 1)))
 (zqs K c))
def zo5(K:W.Frag)(c:Cls):au:=(aB (aO 2 (dg (bY 2 [] (G5 (aj (cV 0) (aj (cV 1) aq))) (iV 2 (aW (hName 0) (aW (hName 1) iT))) gM (aF (Il c) (aj (dg (mJ (cV 0) (dg (fU (aj (cV 1) aq))))) aq)))))
 (zjn K c))
def zfz(K:W.Frag)(c:Cls):au:=(bJ (dg (bY 1 [0] (iL (cV 1)) (hName 0) (cT (cB (HF false) (cV 1) (cV 0))) (cV 0))))
def zvs(K:W.Frag)(c:Cls):au:=(bJ (aF (xV c) (aj (cB dI (cB cM (cB dJ (cV 0) (cC (.int 0))) (cB dJ (cV 1) (cC (.int 1)))) (cB cM (cB dJ (cV 1) (cC (.int 0))) (cB dJ (cV 0) (cC (.int 1))))) (aj (cB cM (cB dJ (cV 0) (cC (.int 1))) (cB dJ (cV 1) (cC (.int 1)))) aq))))
def zpl(K:W.Frag)(c:Cls):au:=(aO 1 (aF (Dr c) (aj (cV 1) (aj (cV 2) aq))))
def ztf(K:W.Frag)(c:Cls):au:=(bJ (cV 1))
def zts(K:W.Frag)(c:Cls):au:=(aB (ji (cV 0) (hName 2)
 (zpl K c))
 (ztf K c))
def zrk(K:W.Frag)(c:Cls):au:=(aB (aO 1 (j8 (aj (cC (.int 0)) (aj (cC (.int 1)) aq))))
 (zts K c))
def zku(K:W.Frag)(c:Cls):au:=(bJ (J9 (cT (cB nu (cV 0) (cV 1))) (aF (Dr c) (aj (j8 (aj (mH sS (aj (cV 3) aq)) (aj (cC (.int 1)) aq))) (aj (cV 4) aq))) (cV 4)))
def U3(K:W.Frag)(c:Cls):au:=(aB (aO 4 (aF (Ds c) (aj (dg (bY 1 [] (iL (cV 3)) (hName 0) gM (j8 (aj (cU tK (cC (.int 1))) (aj (mH Ld (aj (cV 0) aq)) aq))))) aq)))
 (zku K c))
def zsv(K:W.Frag)(c:Cls):au:=(aB (aO 3 (aF (xW c) (aj (cV 1) (aj (aF (xW c) (aj (cV 0) (aj (cV 2) aq))) aq))))
 (U3 K c))
def zo7(K:W.Frag)(c:Cls):au:=(bJ (dg (bY 1 [0,2] (iL (cV 1)) (hName 0) gM (aF (Iz c) (aj (cV 1) (aj (cV 0) (aj (cV 2) aq)))))))
def zr3(K:W.Frag)(c:Cls):au:=(bJ (aF (xV c) (aj (cB kZ (cB cM (cB dJ (cV 0) (cC (.int 0))) (cB dJ (cV 1) (cC (.int 1)))) (cB cM (cB dJ (cV 1) (cC (.int 0))) (cB dJ (cV 0) (cC (.int 1))))) (aj (cB cM (cB dJ (cV 0) (cC (.int 1))) (cB dJ (cV 1) (cC (.int 1)))) aq))))
def zhz(K:W.Frag)(c:Cls):au:=(bJ (aF (xV c) (aj (xK (cV 0)) (aj (mH Ld (aj (cV 0) aq)) aq))))
def U4(K:W.Frag)(c:Cls):au:=(bJ (aF (Ds c) (aj (dg (bY 1 [0] (iL (aF (xW c) (aj (cV 0) (aj (cV 1) aq)))) (hName 0) gM (aF (Ij c) (aj (j8 (aj (cB eG (cV 0) (cV 1)) (aj (cC (.int 1)) aq))) (aj (aF (IV c) (aj (cV 0) aq)) aq))))) aq)))
def zcr(K:W.Frag)(c:Cls):au:=(bJ (aF (Iu c) (aj (dg (mJ (dg (fU (aj (cV 4) aq))) (cV 2))) (aj (dg (mJ (dg (fU (aj (j8 (aj (cC (.int 0)) (aj (cC (.int 1)) aq))) aq))) (cV 3))) aq))))
def zc2(K:W.Frag)(c:Cls):au:=(aB (aO 4 (dg (bY 1 [1] (iL (cV 0)) (hName 0) gM (j8 (aj (mH sS (aj (aF (xW c) (aj (cV 0) (aj (cV 1) aq))) aq)) (aj (cC (.int 1)) aq))))))
 (zcr K c))
def zgb(K:W.Frag)(c:Cls):au:=(aB (aO 3 (dg (bY 1 [1] (iL (dg (CK (cV 0) (CJ (cC (.int 1))) CG))) (hName 0) gM (aF (IW c) (aj (cV 0) (aj (cV 1) aq))))))
 (zc2 K c))
def zdy(K:W.Frag)(c:Cls):au:=(aB (aO 2 (dg (bY 1 [0,1] (iL (dg (CK (cV 0) (CJ (cC (.int 1))) CG))) (hName 0) gM (aF (IK c) (aj (cV 0) (aj (cV 1) (aj (cV 2) aq)))))))
 (zgb K c))
def zfu(K:W.Frag)(c:Cls):au:=(ur 1 (cV 4) (cV 5))
def zes(K:W.Frag)(c:Cls):au:=(oR (G5 (aj (cV 2) (aj (aF (Ja c) (aj (cV 2) (aj (cV 3) aq))) aq))) (iV 2 (aW (hName 4) (aW (hName 5) iT)))
 (zfu K c))
def zf1(K:W.Frag)(c:Cls):au:=(aB (aO 3 (dg (um (aF (vX (Dt c)) (aj (dg (bY 1 [2] (iL (cV 0)) (hName 0) (cT (cB (tR false) (cB dJ (cV 0) (cC (.int 1))) (cV 1))) (cV 0))) aq)))))
 (zes K c))
def zmr(K:W.Frag)(c:Cls):au:=(qO (nV 1))
def zgx(K:W.Frag)(c:Cls):au:=(aB (ji (aF (vX (Iw c)) (aj (cV 0) aq)) (hName 2)
 (zf1 K c))
 (zmr K c))
def zi9(K:W.Frag)(c:Cls):au:=(aB (mW 1 Aw)
 (zgx K c))
def U5(K:W.Frag)(c:Cls):au:=(wU 4 wR (aj (cB dI (cB dJ (cC (.str (Str.ofString "abcdefghij"))) (cB cj (cV 5) (cC (.int 10)))) (cB dJ (cC (.str (Str.ofString "abcdefghij"))) (cB fD (cV 5) (cC (.int 10))))) aq))
def zcd(K:W.Frag)(c:Cls):au:=(d7 (yS (cT (cB qM (cV 9) (cV 8))) (cT (cB qM (cV 5) (cB cj (cB fD (cV 6) (cC (.int 3))) (cC (.int 61))))))
 (wU 7 wR (aj (j8 (aj (vU 4 (cV 5)) (aj (cB dJ (cV 3) (cV 9)) (aj (cB cj (aF (oA c) (aj (cV 0) (aj (cB dI (cC (.int 30)) (cV 5)) aq))) (cC (.int 4))) aq)))) aq))
 bW)
def zce(K:W.Frag)(c:Cls):au:=(aB (wU 7 wR (aj (j8 (aj (vU 4 (cV 5)) (aj (cB dJ (cV 3) (cV 8)) (aj (cB cj (aF (oA c) (aj (cV 0) (aj (cB dI (cC (.int 7)) (cV 5)) aq))) (cC (.int 4))) aq)))) aq))
 (zcd K c))
def zcc(K:W.Frag)(c:Cls):au:=(aB (aO 9 (cB cj (cB dJ (dg (fU (aj (cB dI (cV 8) (cC (.int 1))) (aj (cB kZ (cB kZ (cV 1) (cC (.int 1))) (cV 8)) (aj (cB dI (cV 5) (cC (.int 1))) aq))))) (cB cj (cV 6) (cC (.int 3)))) (cV 1)))
 (zce K c))
def U6(K:W.Frag)(c:Cls):au:=(aB (aO 8 (cB cj (cB dJ (dg (fU (aj (cV 5) (aj (cV 5) (aj (cC (.int 0)) aq))))) (cB cj (cV 6) (cC (.int 3)))) (cV 1)))
 (zcc K c))
def zgh(K:W.Frag)(c:Cls):au:=(bJ (cV 7))
def U7(K:W.Frag)(c:Cls):au:=(aB (d7 (cT (cB nu (cB cj (cB fD (cV 6) (cC (.int 183))) (cC (.int 2))) (cC (.int 1))))
 (gG 7 (Af (cV 7)))
 bW)
 (zgh K c))
def zdb(K:W.Frag)(c:Cls):au:=(aB (jU (aj (cV 2) aq) (hName 5)
 (U6 K c))
 (U7 K c))
def zda(K:W.Frag)(c:Cls):au:=(aB (gG 7 (fU aq))
 (zdb K c))
def zc8(K:W.Frag)(c:Cls):au:=(aB (aO 6 (aF (oA c) (aj (cV 0) (aj (cC (.int 6)) aq))))
 (zda K c))
def zc6(K:W.Frag)(c:Cls):au:=(aB (jU (aj (cV 2) aq) (hName 5)
 (U5 K c))
 (zc8 K c))
def zde(K:W.Frag)(c:Cls):au:=(aB (gG 4 (fU aq))
 (zc6 K c))
def Mh(K:W.Frag)(c:Cls):au:=(aB (aO 3 (aF (Bq c) (aj (cB cM (cB fD (aF (oA c) (aj (cV 0) (aj (cC (.int 5)) aq))) (cC (.int 3))) (cC (.int 3))) (aj (cV 1) aq))))
 (zde K c))
def zhs(K:W.Frag)(c:Cls):au:=(zm 0 1 (aj (cV 1) (aj (cB cj (cV 0) (cV 1)) aq)))
def zib(K:W.Frag)(c:Cls):au:=(bJ (cV 0))
def zig(K:W.Frag)(c:Cls):au:=(aB (pZ (cT (cB Cj (cV 1) (cC (.int 0))))
 (zhs K c))
 (zib K c))
def zia(K:W.Frag)(c:Cls):au:=(aB (aO 1 (mH Cp (aj (cV 1) aq)))
 (zig K c))
def zf0(K:W.Frag)(c:Cls):au:=(aB (aO 0 (mH Cp (aj (cV 0) aq)))
 (zia K c))
def zen(K:W.Frag)(c:Cls):au:=(aO 1 (cB cM (cV 1) (cB fD (cB dJ (cB eG (cV 0) (cV 2)) (cC (.int 1))) (aF (Dv c) (aj (cV 1) (aj (cB dJ (cB eG (cV 0) (cV 2)) (cC (.int 1))) aq))))))
def zjr(K:W.Frag)(c:Cls):au:=(bJ (cV 1))
def zfb(K:W.Frag)(c:Cls):au:=(aB (oR (T8 (cV 0)) (hName 2)
 (zen K c))
 (zjr K c))
def zg6(K:W.Frag)(c:Cls):au:=(aB (aO 1 (cC (.int 1)))
 (zfb K c))
def zeq(K:W.Frag)(c:Cls):au:=(ur 4 (cV 5) (mV (cB dI (qR (cV 4) (cV 5) (cC (.int 0))) (cC (.int 1)))))
def zet(K:W.Frag)(c:Cls):au:=(aB (ur 3 (cV 5) (mV (cB kZ (cB dI (qR (cV 3) (cV 5) (cC (.int 0))) (cB cM (cV 7) (cV 2))) (cV 8))))
 (zeq K c))
def zkb(K:W.Frag)(c:Cls):au:=(aB (aO 8 (cB cM (cB dJ (cB eG (cV 1) (cV 6)) (cC (.int 0))) (cB fD (cV 2) (cB dJ (cB eG (cV 1) (cV 6)) (cC (.int 1))))))
 (zet K c))
def zer(K:W.Frag)(c:Cls):au:=(ur 9 (cV 6) (mV (cB kZ (cB dI (qR (cV 9) (cV 6) (cC (.int 0))) (cB cM (cC (.int 60)) (cB kZ (cB cM (cV 7) (cV 2)) (cV 8)))) (cB cM (cB fD (cC (.int 60)) (cB eG (cV 4) (cV 5))) (cB eG (cV 3) (cV 5))))))
def zko(K:W.Frag)(c:Cls):au:=(aB (aO 8 (cB cM (cB dJ (cB eG (cV 1) (cV 6)) (cC (.int 0))) (cB fD (cV 2) (cB dJ (cB eG (cV 1) (cV 6)) (cC (.int 1))))))
 (zer K c))
def zg5(K:W.Frag)(c:Cls):au:=(uo 9 (bJ (cB nu (dg (bY 1 [9] (T8 (cV 9)) (hName 0) (cT (cB qM (cB eG (cV 1) (cV 0)) (cC (.int 0)))) (cV 0))) (dg (fU aq)))))
def zgs(K:W.Frag)(c:Cls):au:=(aB (ji (cV 0) (iV 3 (aW (hName 5) (aW (hName 6) (aW (hName 7) iT))))
 (zko K c))
 (zg5 K c))
def zm1(K:W.Frag)(c:Cls):au:=(aB (mW 9 Aw)
 (zgs K c))
def zha(K:W.Frag)(c:Cls):au:=(aB (ji (cV 0) (iV 3 (aW (hName 5) (aW (hName 6) (aW (hName 7) iT))))
 (zkb K c))
 (zm1 K c))
def zg4(K:W.Frag)(c:Cls):au:=(aB (mW 4 Aw)
 (zha K c))
def zgt(K:W.Frag)(c:Cls):au:=(aB (mW 3 Aw)
 (zg4 K c))
def zj9(K:W.Frag)(c:Cls):au:=(aB (aO 2 (aF (Dw c) (aj (cV 1) aq)))
 (zgt K c))
def zie(K:W.Frag)(c:Cls):au:=(d7 (cT (cB qM (dg (bY 1 [5] (iL (cV 6)) (hName 0) (cT (cB (tR false) (cV 0) (cV 1))) (cV 0))) (dg (fU aq))))
 (aO 5 (dg (mJ (cV 5) (cV 6))))
 bW)
def zdc(K:W.Frag)(c:Cls):au:=(aO 1 (dg (mJ (dg (bY 1 [5] (iL (cV 1)) (hName 0) (cT (cB nu (dg (bY 1 [1] (iL (cV 0)) (hName 0) (cT (cB (tR false) (cV 0) (cV 1))) (cV 0))) (dg (fU aq)))) (cV 0))) (dg (fU (aj (cV 5) aq))))))
def zg7(K:W.Frag)(c:Cls):au:=(aB (ji (cV 1) (hName 6)
 (zie K c))
 (zdc K c))
def zih(K:W.Frag)(c:Cls):au:=(aB (aO 5 (dg (mJ (dg (fU (aj (cV 3) aq))) (dg (bY 3 [2] (iL (cV 0)) (iV 3 (aW (hName 0) (aW (hName 1) (aW (hName 2) iT)))) (cT (cB nu (cV 0) (cV 3))) (cV 1))))))
 (zg7 K c))
def zi4(K:W.Frag)(c:Cls):au:=(bJ (dg (pO K9 (aj (dg (bY 1 [] (iL (cV 1)) (hName 0) gM (dg (pO xq (aj (cV 0) aq))))) aq))))
def zjv(K:W.Frag)(c:Cls):au:=(aB (ji (cV 0) (iV 3 (aW (hName 2) (aW (hName 3) (aW (hName 4) iT))))
 (zih K c))
 (zi4 K c))
def zgj(K:W.Frag)(c:Cls):au:=(aB (aO 1 (dg (fU aq)))
 (zjv K c))
def zdw(K:W.Frag)(c:Cls):au:=(d7 (cT (cB (tR false) (cV 6) (cV 3)))
 (aO 4 (cB dI (cV 4) (cB cM (cB dJ (cB eG (cV 1) (cV 6)) (cC (.int 0))) (cB fD (cV 2) (cB dJ (cB eG (cV 1) (cV 6)) (cC (.int 1)))))))
 bW)
def zgd(K:W.Frag)(c:Cls):au:=(d7 (cT (cB qM (cV 4) (cC (.int 0))))
 (bJ (cC (.bl false)))
 bW)
def zcz(K:W.Frag)(c:Cls):au:=(aB (ji (cV 0) (iV 3 (aW (hName 5) (aW (hName 6) (aW (hName 7) iT))))
 (zdw K c))
 (zgd K c))
def zhv(K:W.Frag)(c:Cls):au:=(aB (aO 4 (cC (.int 0)))
 (zcz K c))
def zii(K:W.Frag)(c:Cls):au:=(bJ (cC (.bl true)))
def zem(K:W.Frag)(c:Cls):au:=(aB (ji (aF (Jc c) (aj (cV 0) aq)) (hName 3)
 (zhv K c))
 (zii K c))
def zfv(K:W.Frag)(c:Cls):au:=(aB (aO 2 (aF (Dw c) (aj (cV 1) aq)))
 (zem K c))
def U8(K:W.Frag)(c:Cls):au:=(d7 (yU (pY (cT (rG "int" (cV 5)))) (cT (rG "bool" (cV 5))))
 (bJ (cC (.bl false)))
 bW)
def zdz(K:W.Frag)(c:Cls):au:=(d7 (yU (cT (cB Gq (cB dJ (cV 4) (cC (.int 1))) (cC (.int 1)))) (cT (cB qM (aF (Dv c) (aj (cB dJ (cV 4) (cC (.int 0))) (aj (cB dJ (cV 4) (cC (.int 1))) aq))) (cC (.int 1)))))
 (bJ (cC (.bl false)))
 bW)
def zht(K:W.Frag)(c:Cls):au:=(aB (ji (cV 4) (hName 5)
 (U8 K c))
 (zdz K c))
def U9(K:W.Frag)(c:Cls):au:=(aB (d7 (yU (pY (cT (rG "tuple" (cV 4)))) (cT (cB qM (mH sS (aj (cV 4) aq)) (cC (.int 2)))))
 (bJ (cC (.bl false)))
 bW)
 (zht K c))
def zjt(K:W.Frag)(c:Cls):au:=(aB (aO 4 (cB eG (cV 0) (cV 3)))
 (U9 K c))
def zke(K:W.Frag)(c:Cls):au:=(bJ (cC (.bl true)))
def zfw(K:W.Frag)(c:Cls):au:=(aB (ji (cV 2) (hName 3)
 (zjt K c))
 (zke K c))
def Mi(K:W.Frag)(c:Cls):au:=(aB (d7 (yU (pY (cT (rG "dict" (cV 0)))) (cT (cB qM (dg (pO T9 (aj (cV 0) aq))) (cV 2))))
 (bJ (cC (.bl false)))
 bW)
 (zfw K c))
def zh3(K:W.Frag)(c:Cls):au:=(aB (aO 2 (dg (pO xq (aj (dg (bY 3 [] (iL (cV 1)) (iV 3 (aW (hName 0) (aW (hName 1) (aW (hName 2) iT)))) gM (cV 1))) aq))))
 (Mi K c))
def zr7(K:W.Frag)(c:Cls):au:=(bJ (oM (aF (Jg c) (aj (cV 1) (aj (cV 3) aq))) (aF (Jh c) (aj (cV 1) (aj (cV 3) aq)))))
def Va(K:W.Frag)(c:Cls):au:=(aB (d7 (yU (cT (cB qM (cV 2) (cV 1))) (pY (cT (aF (Ji c) (aj (cV 3) (aj (cV 1) aq))))))
 (bJ (cC (.bl false)))
 bW)
 (zr7 K c))
def zsk(K:W.Frag)(c:Cls):au:=(aB (aO 3 (xM (qb (Jb c) (aj (cV 2) aq))))
 (Va K c))
def Vb(K:W.Frag)(c:Cls):au:=(aB (aO 2 (dg (pO Cz (aj (cV 1) aq))))
 (zsk K c))
def zr5(K:W.Frag)(c:Cls):au:=(aB (d7 (cT (cB nu (cB cj (cB fD (aF (oA c) (aj (cV 0) (aj (cC (.int 0)) aq))) (cC (.int 5))) (cC (.int 8))) (cC (.int 1))))
 (aO 1 (aF (Jf c) (aj (cV 0) (aj (cC (.int 12)) (aj (cB dI (cC (.int 11)) (cB cj (aF (oA c) (aj (cV 0) (aj (cC (.int 1)) aq))) (cC (.int 3)))) aq)))))
 bW)
 (Vb K c))
def Jj(K:W.Frag)(c:Cls):au:=(aB (aO 1 (aF (Je c) (aj (cV 0) (aj (cB dI (cC (.int 1)) (cB cj (aF (oA c) (aj (cV 0) (aj (cC (.int 0)) aq))) (cC (.int 5)))) (aj (cB cj (aF (oA c) (aj (cV 0) (aj (cC (.int 1)) aq))) (cC (.int 9))) aq)))))
 (zr5 K c))
theorem zww{c:Cls}{ds P E}(h:Dq c ds P E):ds.length=2:=by obtain⟨_,_,rfl,_⟩:=h;rfl
theorem zs4{c:Cls}{ds P E}(h:xV c ds P E):ds.length=2:=by obtain⟨_,_,rfl,_⟩:=h;rfl
theorem z4n{c:Cls}{ds P E}(h:Dr c ds P E):ds.length=2:=by obtain⟨_,_,rfl,_⟩:=h;rfl
theorem z3i{c:Cls}{ds P E}(h:Ij c ds P E):ds.length=2:=by obtain⟨_,_,rfl,_⟩:=h;rfl
abbrev fin(Q:D ->Prop):lB:={nx:=fun _=>Q .non,rt:=Q}
theorem zv8{K:W.Frag}{c:Cls}{ds Q Ex}(h:Dq c ds Q Ex):zk4 K c (fin Q) (aJ 3 ds) fun _=>Ex:=by
 obtain⟨i,j,rfl,h⟩:=h;refine⟨fun m Γ=>∃a b r,Γ= [.pu (.int a),.pu (.int b),r]/\m=b.natAbs/\Int.gcd a b=Int.gcd i j,⟨_,i,j,.no,rfl,rfl,rfl⟩,?_⟩;rintro m _ ⟨a,b,r,rfl,rfl,hg⟩;refine⟨rfl,?_⟩;by_cases hb:b=0
 ·subst hb;have:(!dY (.int 0) (.int 0))=false:=by simp [dY]
  rw[this];show Q (.int (if a<0 then -a else a));have e:(if a<0 then -a else a)=((Int.gcd i j:Nat):Int):=by
   rw[<- hg,Int.gcd_zero_right];split<;>omega
  rw[e];exact h
 ·have:(!dY (.int b) (.int 0))=true:=by simp [dY,hb]
  rw[this];exact⟨hb,_,Ud hb,b,a.fmod b,.pu (.int (a.fmod b)),rfl,rfl,by rw[zsg,hg]⟩
theorem zuz{i j:Int}(hj:j≠0):dv i j≠0/\∀n,bN i<=n ->bN j<=n ->bN (dv i j)<=n:=by
 refine⟨HN hj,fun n h1 h2=>zN (sO ?_) h2⟩;obtain⟨k,e⟩:=zvx i j;have h:=congrArg Int.natAbs e;rw[Int.natAbs_mul] at h;rw[h];have:k≠0:=fun z=>hj (by rw[e,z,Int.mul_zero])
 exact Nat.le_mul_of_pos_right _ (by omega)
theorem ztt{K:W.Frag}{c:Cls}{ds Q Ex}(h:xV c ds Q Ex):zje K c (fin Q) (aJ 3 ds) fun _=>Ex:=by
 obtain⟨i,j,rfl,b1,b2,h⟩:=h;refine⟨rfl,?_⟩;by_cases hj:j=0
 ·subst hj;have:dY (.int 0) (.int 0)=true:=by simp [dY]
  rw[this];exact⟨by decide,h⟩
 ·have:dY (.int j) (.int 0)=false:=by simp [dY,hj]
  rw[this];rw[if_neg hj,<- z61 hj] at h;refine⟨i,j,rfl,?_⟩;obtain⟨d0,d1⟩:=zuz (i:=i) hj;show if decide (j<0)=true then _ else _;by_cases hn:j<0
  ·rw[if_pos (by simpa using hn)]
   have e:dv i j= -((Int.gcd i j:Nat):Int):=by unfold dv;rw[if_pos hn]
   exact⟨⟨by rw[<- e];exact d0,by rw[<- e];exact d1 _ b1 b2⟩,⟨by rw[<- e];exact d0,by rw[<- e];exact d1 _ b1 b2⟩,by show(2:Nat)<=sizeLine;decide,by rw[<- e];exact h⟩
  ·rw[if_neg (by simpa using hn)]
   have e:dv i j=((Int.gcd i j:Nat):Int):=by unfold dv;rw[if_neg hn]
   exact⟨⟨by rw[<- e];exact d0,by rw[<- e];exact d1 _ b1 b2⟩,⟨by rw[<- e];exact d0,by rw[<- e];exact d1 _ b1 b2⟩,by show(2:Nat)<=sizeLine;decide,by rw[<- e];exact h⟩
theorem at0{x y:D}:jy [x,y] 0=some x:=vI (j:=0) rfl
theorem at1{x y:D}:jy [x,y] 1=some y:=vI (j:=1) rfl
theorem rQ{i j:Int}(h1:bN i<=4000)(h2:bN j<=4000):lE i j:= .inr (.inr (by omega))
theorem rR{i j:Int}(h1:bN i<=4000)(h2:bN j<=4000):bN (i*j)<=8000:=by have:=Kd i j;omega
theorem Vc{i j:Int}(h1:bN i<=8000)(h2:bN j<=8000):bN (i+j)<=9000:=by have:=Yl i j;omega
theorem Vd{i j:Int}(h1:bN i<=8000)(h2:bN j<=8000):bN (i - j)<=9000:=by have:=zs8 i j;omega
theorem up9{i:Int}(h1:bN i<=8000):bN i<=9000:=by omega
theorem z49{K:W.Frag}{c:Cls}{ds Q Ex}(h:Dr c ds Q Ex):zvs K c (fin Q) (aJ 2 ds) fun _=>Ex:=by
 obtain⟨a,b,rfl,⟨a1,a2⟩,⟨b1,b2⟩,h⟩:=h;refine⟨_,at0,_,at1,rQ a1 b2,_,at0,_,at1,rQ b1 a2,_,at1,_,at1,rQ a2 b2,_,_,rfl,Vc (rR a1 b2) (rR b1 a2),up9 (rR a2 b2),?_⟩;rw[if_neg (zk0 a b),<- z5e];exact h
theorem z3b{K:W.Frag}{c:Cls}{ds Q Ex}(h:Ij c ds Q Ex):zr3 K c (fin Q) (aJ 2 ds) fun _=>Ex:=by
 obtain⟨a,b,rfl,⟨a1,a2⟩,⟨b1,b2⟩,h⟩:=h;refine⟨_,at0,_,at1,rQ a1 b2,_,at0,_,at1,rQ b1 a2,_,at1,_,at1,rQ a2 b2,_,_,rfl,Vd (rR a1 b2) (rR b1 a2),up9 (rR a2 b2),?_⟩;rw[if_neg (zk0 a b),<- z6b];exact h
theorem Ve{n:Nat}(a:List D):jz (n+1) (.lst a) (.lst []):=by
 simp only [jz];intro i x y h1 h2;simp at h2
theorem v9:(1000:Nat)<sizeLine:=by decide
theorem Dy{i m:Int}(hm:0<m):0<=i.fmod m/\i.fmod m<m:=by
 rw[Int.fmod_eq_emod_of_nonneg _ (by omega)]
 exact⟨Int.emod_nonneg _ (by omega),Int.emod_lt_of_pos _ hm⟩
theorem vo(i j:Int):dY (.int i) (.int j)=decide (i=j):=by
 simp only [dY];by_cases h:i=j<;>simp [h]
theorem vp{i:Int}{n:Nat}(h:0<n):∃k:Nat,i.fmod (n:Int)=(k:Int)/\k<n:=by
 have:=Dy (i:=i) (m:=(n:Int)) (by omega)
 exact⟨(i.fmod (n:Int)).toNat,by omega,by omega⟩
theorem ztn{c:Cls}{ds P E}(h:oA c ds P E):ds.length=2:=by obtain⟨_,_,rfl,_⟩:=h;rfl
theorem z65{c:Cls}{ds P E}(h:LQ c ds P E):ds.length=1:=by obtain⟨_,rfl,_⟩:=h;rfl
theorem ztd{K:W.Frag}{c:Cls}{ds Q Ex}(h:oA c ds Q Ex):zjw K c (fin Q) (aJ 3 ds) fun _=>Ex:=by
 obtain⟨ns,k,rfl,hl,hk,h⟩:=h;show if decide ((k:Int)< ((ns.map D.int).length:Int))=true then _ else _;rw[List.length_map];by_cases hlt:k<ns.length
 ·rw[if_pos (by simpa using hlt)]
  refine⟨.int ns[k],vI (by simp [hlt]),?_⟩
  unfold dX at h;rw[dif_pos hlt] at h;exact h
 ·rw[if_neg (by simpa using hlt)]
  unfold dX at h;rw[dif_neg hlt] at h;have bk:bN (k:Int)<=10:=iD (by simp only [Int.natAbs_natCast];omega)
  refine⟨.inr (.inl (iD (by decide))),?_⟩
  show if decide ((0:Int)< ((ns.map D.int).length:Int))=true then _ else _;rw[List.length_map];have fin2:∀m:Int,m.natAbs<2^40 ->Q (.int ((m*m).fmod 2147483629)) ->lE m m/\ (2147483629:Int)≠0/\Q (.int ((m*m).fmod 2147483629)):=fun m hm hq=>
   ⟨.inl (zN (iD hm) (by decide)),by decide,hq⟩
  by_cases he:ns= []
  ·subst he;rw[if_neg (by simp)]
   rw[if_pos rfl] at h;exact fin2 _ (by omega) h
  ·have hp:0<ns.length:=(by cases ns with | nil=>exact absurd rfl he | cons _ _=>exact Nat.succ_pos _)
   rw[if_pos (by simpa using hp)]
   rw[if_neg he] at h;refine⟨.inr (.inl (iD (by decide))),show((ns.map D.int).length:Int)≠0 by rw[List.length_map];omega,?_⟩
   have hm:((k:Int)*7).fmod ((ns.map D.int).length:Int)=((k*7 % ns.length:Nat):Int):=by
    rw[List.length_map,Int.fmod_eq_emod_of_nonneg _ (by omega),Int.natCast_emod,Int.natCast_mul]
    rfl
   and_intros
   rw[hm];have hlt2:k*7 % ns.length<ns.length:=Nat.mod_lt _ hp;refine⟨.int (ns.getD (k*7 % ns.length) 0),vI (by simp [List.getElem?_map,List.getD_eq_getElem?_getD,hlt2]),?_⟩
   refine⟨.inr (.inl (iD (by decide))),.inr (.inl (iD (by decide))),by decide,?_⟩
   refine fin2 _ ?_ h;have h1:=Ud (a:=ns.getD (k*7 % ns.length) 0*48271+ (k:Int)*7919) (b:=2147483647) (by decide)
   exact Nat.lt_trans h1 (by decide)
theorem z1r{c:Cls}{ds P E}(h:Ds c ds P E):ds.length=1:=by obtain⟨_,rfl,_⟩:=h;rfl
theorem z3t{K:W.Frag}{c:Cls}{ds Q Ex}(h:Ds c ds Q Ex):zrk K c (fin Q) (aJ 3 ds) fun _=>Ex:=by
 obtain⟨qs,rfl,s1,s2,h⟩:=h;refine⟨by show(2:Nat)<=sizeLine;decide,fun i Γ=>∃x,Γ= [.pu (.lst (qs.map qD)),.pu (qD (d9 (qs.take i))),x],⟨_,rfl⟩,?_,?_⟩
 ·rintro i x _ hi ⟨y,rfl⟩;rw[List.getElem?_map] at hi;cases q:qs[i]? with
  | none=>rw[q] at hi;cases hi
  | some a=>
   rw[q] at hi;cases hi;refine⟨_,_,rfl,s2 i,s1 a (yZ q),.pu (qD a),?_⟩;rw[List.take_add_one,q,zp1];simp only [Option.toList_some,d9,Rat.add_zero]
   rfl
 ·rintro _ ⟨y,rfl⟩;have h' :=h;rw[List.length_map,List.take_length];exact h'
theorem Jk{n:Nat}{f:Nat ->D}{i:Nat}(h:i<n):((List.range n).map f)[i]?=some (f i):=by simp [h]
theorem vq{n:Nat}{f:Nat ->D}{i:Nat}(h:i<n):jy ((List.range n).map f) (i:Int)=some (f i):=vI (Jk h)
theorem zv9{n:Nat}(f g:Nat ->D):kj ((List.range n).map f) ((List.range n).map g)=(List.range n).map fun i=> .tup [f i,g i]:=by
 unfold kj;apply List.ext_getElem
 ·simp
 ·intro i h1 h2;simp
theorem z0q{n:Nat}(f:Nat ->D):u6 0 ((List.range n).map f)=(List.range n).map fun i=> .tup [.int (i:Nat),f i]:=by
 apply List.ext_getElem?;intro i;rw[RG];by_cases h:i<n
 ·rw[Jk h,Jk h];simp
 ·simp [h]
theorem znt{one:D ->(List D ->Prop) ->Prop}{f g:Nat ->D}:∀{is:List Nat} {P:List D ->Prop},(∀i∈is,∀P:List D ->Prop,P [g i] ->one (f i) P) ->P (is.map g) ->aX one (is.map f) P
 | [],_,_,h=>h
 | i::is,P,k,h=>k i zW _ (znt (fun y hy=>k y (zV _ hy)) h)
theorem Mj{one:D ->(List D ->Prop) ->Prop}{f g:Nat ->D}{n:Nat}{P:List D ->Prop}(k:∀i,i<n ->∀P:List D ->Prop,P [g i] ->one (f i) P)(h:P ((List.range n).map g)):aX one ((List.range n).map f) P:=
 znt (fun i hi=>k i (List.mem_range.mp hi)) h
theorem Vf{m:Nat}{f g:Nat ->Int}(h:∀j,j<m ->f j=g j):cI m f=cI m g:=by
 unfold cI
 congr 1
 exact List.map_congr_left fun j hj=>by rw[h j (List.mem_range.mp hj)]
theorem ztg{n m:Nat}{a b:Mx}(h:∀i j,i<n ->j<m ->a i j=b i j):iG n m a=iG n m b:=by
 unfold iG
 congr 1
 exact List.map_congr_left fun i hi=>Vf fun j hj=>h i j (List.mem_range.mp hi) hj
theorem zqm{c:Cls}{ds P E}(h:Il c ds P E):ds.length=1:=by obtain⟨_,_,rfl,_⟩:=h;rfl
theorem zqx{c:Cls}{ds P E}(h:Ip c ds P E):ds.length=3:=by obtain⟨_,_,_,_,_,rfl,_⟩:=h;rfl
theorem z7b{c:Cls}{ds P E}(h:Ir c ds P E):ds.length=2:=by obtain⟨_,_,_,_,rfl,_⟩:=h;rfl
theorem zuq{c:Cls}{ds P E}(h:Im c ds P E):ds.length=4:=by obtain⟨_,_,_,_,_,rfl,_⟩:=h;rfl
theorem zxg{c:Cls}{ds P E}(h:Io c ds P E):ds.length=3:=by obtain⟨_,_,_,_,_,rfl,_⟩:=h;rfl
theorem zzk{c:Cls}{ds P E}(h:Iu c ds P E):ds.length=2:=by obtain⟨_,_,⟨rfl,_⟩,_⟩:=h;rfl
theorem zus{K:W.Frag}{c:Cls}{ds Q Ex}(h:Im c ds Q Ex):zkq K c (fin Q) (aJ 4 ds) fun _=>Ex:=by
 obtain⟨m,k,f,g,p,rfl,hk,p0,bp,bf,bg,h⟩:=h;show aX _ (kj ((List.range m).map fun j=> .int (f j)) ((List.range m).map fun j=> .int (g j))) _;rw[zv9];refine Mj (g:=fun j=> .int ((g k*f j - f k*g j).fdiv p)) (fun j hj P hP=> ?_) h;have b1:=bg k;have b2:=bf j;have b3:=bf k;have b4:=bg j;exact⟨rfl,rfl,.int (g k),vq hk,.inr (.inr (by omega)),.int (f k),vq hk,.inr (.inr (by omega)),⟨p0,bp⟩,hP⟩
theorem zuf{K:W.Frag}{c:Cls}{ds Q Ex}(h:Io c ds Q Ex):zkr K c (fin Q) (aJ 4 ds) fun _=>Ex:=by
 obtain⟨a,n,m,k,p,rfl,hk,hkm,p0,bp,ba,h⟩:=h;refine⟨cI m (a k),vq hk,?_⟩;show aX _ (u6 0 ((List.range n).map fun i=>cI m (a i))) _;rw[z0q];refine Mj (g:=fun i=>cI m (rO k p a i)) (fun i hi P hP=> ?_) h;refine⟨rfl,rfl,rfl,?_⟩;rw[vo];by_cases e:i=k
 ·subst e;rw[decide_eq_true rfl];have:cI m (rO i p a i)=cI m (a i):=Vf fun j _=>if_pos rfl;rw[this] at hP;exact hP
 ·rw[decide_eq_false (by omega)]
  have:cI m (rO k p a i)=cI m fun j=>(a k k*a i j - a i k*a k j).fdiv p:=Vf fun j _=>if_neg e;rw[this] at hP;exact⟨m,k,a i,a k,p,rfl,hkm,p0,bp,fun j=>ba i j hi,fun j=>ba k j hk,hP⟩
theorem z2f{n:Nat}(f:Nat ->D){k s:Nat}(hk:k<n)(hs:s<n):(((List.range n).map f).set k (f s)).set s (f k)=(List.range n).map fun i=>f (jK k s i):=by
 apply List.ext_getElem
 ·simp
 ·intro i h1 h2;simp only [List.getElem_set,List.getElem_map,List.getElem_range];unfold jK;by_cases e1:s=i
  ·subst e1;by_cases e2:k=s
   ·subst e2;simp
   ·rw[if_pos rfl,if_neg (by omega),if_pos rfl]
  ·rw[if_neg e1];by_cases e2:k=i
   ·subst e2;rw[if_pos rfl,if_pos rfl]
   ·rw[if_neg e2,if_neg (by omega),if_neg (by omega)]
theorem zu0{n k:Nat}(h:k<n):rB n (k:Int)=some k:=by
 unfold rB;rw[if_pos (by omega),if_pos (by omega)];simp
theorem zqz{K:W.Frag}{c:Cls}{ds Q Ex}(h:Ip c ds Q Ex):zhx K c (fin Q) (aJ 4 ds) fun _=>Ex:=by
 obtain⟨a,n,m,k,s,rfl,hk,hs,h⟩:=h;refine⟨cI m (a s),vq hs,⟨_,rfl⟩,k,zu0 (by simp [hk]),cI m (a k),vq hk,⟨_,rfl⟩,s,zu0 (by simp [hs]),?_⟩
 have e:=z2f (fun i=>cI m (a i)) hk hs;show Q (.lst ((((List.range n).map fun i=>cI m (a i)).set k (cI m (a s))).set s (cI m (a k))));rw[e];exact h
theorem z7c{K:W.Frag}{c:Cls}{ds Q Ex}(h:Ir c ds Q Ex):z08 K c (fin Q) (aJ 3 ds) fun _=>Ex:=by
 obtain⟨a,n,m,k,rfl,hn,hk,hm,h1,h2⟩:=h;have el:((List.range n).map fun i=>cI m (a i)).length=n:=by simp
 show((-(2^62):Int)<=(k:Int)/\ (k:Int)<2^62/\ (-(2^62):Int)<=((((List.range n).map fun i=>cI m (a i)).length:Nat):Int)/\ ((((List.range n).map fun i=>cI m (a i)).length:Nat):Int)<2^62)/\tE (k:Int) (((((List.range n).map fun i=>cI m (a i)).length:Nat):Int) - (k:Int)).toNat _ _ _ _ _;rw[el,show((n:Int) - (k:Int)).toNat=n - k by omega]
 refine⟨⟨by omega,by omega,by omega,by omega⟩,fun i Γ=>∃y:Slot,Γ= [.pu (iG n m a),.pu (.int k),y]/\∀s,k<=s ->s<k+i ->a s k=0,⟨_,rfl,fun s hs hs' =>by omega⟩,?_,?_⟩
 ·rintro i _ hi ⟨y,rfl,hz⟩;have e0:(k:Int)+ (i:Int)=((k+i:Nat):Int):=by omega
  have hlt:k+i<n:=by omega
  refine⟨cI m (a (k+i)),?_,.int (a (k+i) k),vq hm,rfl,?_⟩
  ·show jy ((List.range n).map fun i=>cI m (a i)) ((k:Int)+ (i:Int))=_;rw[e0];exact vq hlt
  rw[vo];by_cases ez:a (k+i) k=0
  ·rw[decide_eq_true ez];refine⟨_,rfl,fun s hs hs' => ?_⟩;by_cases es:s=k+i
   ·rw[es];exact ez
   ·exact hz s hs (by omega)
  ·rw[decide_eq_false ez];refine⟨a,n,m,k,k+i,?_,hk,hlt,h1 _ (by omega) hlt ez⟩
   show [iG n m a,.int k,.int ((k:Int)+ (i:Int))]=_;rw[e0]
 ·rintro _ ⟨y,rfl,hz⟩;exact⟨by show(1:Nat)<=sizeLine;decide,h2 fun s hs hs' =>hz s hs (by omega)⟩
theorem zxt(q:Rat):((q.num:Int):Rat)=q* ((q.den:Int):Rat)/\ ((q.den:Int):Rat)≠0:=by
 have hd:((q.den:Int):Rat)≠0:=by
  have:=q.den_pos
  exact_mod_cast (show(q.den:Int)≠0 by omega)
 have e:((q.num:Int):Rat)/ ((q.den:Int):Rat)=q:=by
  have:=Rat.num_divInt_den q;rw[Rat.divInt_eq_div] at this;exact this
 refine⟨?_,hd⟩;rw[Rat.div_def] at e;have:=congrArg (· * ((q.den:Int):Rat)) e;simp only [Rat.mul_assoc,Rat.inv_mul_cancel _ hd,Rat.mul_one] at this;exact this
theorem zrq{μ d:Int}(hμ:0<μ)(hd:0<d):(Int.gcd μ d:Int)≠0/\0<μ*d.fdiv (Int.gcd μ d:Int)/\μ∣μ*d.fdiv (Int.gcd μ d:Int)/\d∣μ*d.fdiv (Int.gcd μ d:Int)/\ (d.fdiv (Int.gcd μ d:Int)).natAbs<=d.natAbs/\ (Int.gcd μ d:Int).natAbs<=d.natAbs:=by
 have g0:Int.gcd μ d≠0:=fun z=>by have:=(Int.gcd_eq_zero_iff.mp z).2;omega
 have gd:(Int.gcd μ d:Int)∣d:=Int.gcd_dvd_right ..;have gm:(Int.gcd μ d:Int)∣μ:=Int.gcd_dvd_left ..;have e:=xO gd;obtain⟨u,eu⟩:=gm;have gp:(0:Int)< (Int.gcd μ d:Int):=by omega
 generalize (Int.gcd μ d:Int)=g at*;generalize d.fdiv g=t at*;have tp:0<t:=by
  rcases Int.lt_or_le 0 t with h | h
  ·exact h
  ·have:=Int.mul_nonpos_of_nonneg_of_nonpos (by omega:0<=g) h
   omega
 refine⟨by omega,Int.mul_pos hμ tp,⟨t,rfl⟩,⟨u,?_⟩,?_,?_⟩
 ·rw[eu,<- e];ac_rfl
 ·rw[<- e,Int.natAbs_mul];exact Nat.le_mul_of_pos_left _ (by omega)
 ·rw[<- e,Int.natAbs_mul];exact Nat.le_mul_of_pos_right _ (by omega)
theorem zqn{K:W.Frag}{c:Cls}{ds Q Ex}(h:Il c ds Q Ex):zh5 K c (fin Q) (aJ 3 ds) fun _=>Ex:=by
 obtain⟨m,f,rfl,hm,hz,h⟩:=h;refine⟨fun i Γ=>∃(μ:Int) (y:Slot),Γ= [.pu (gO m f),.pu (.int μ),y]/\0<μ/\bN μ<=16*i+1/\∀j,j<i ->j<m ->((f j).den:Int)∣μ,⟨1,_,rfl,by decide,by decide,fun j hj=>by omega⟩,?_,?_⟩
 ·rintro i d _ hi ⟨μ,y,rfl,hμ,bμ,hd⟩;have him:i<m:=by
   have:=(zU.mp hi).1
   simpa using this
  rw[Jk him] at hi;cases hi;have dp:(0:Int)< (f i).den:=by have:=(f i).den_pos;omega
  obtain⟨g0,p1,p2,p3,p4,p5⟩:=zrq hμ dp;have zi:=(hz i him).2;have b4:=zN (sO p4) zi;have b5:=zN (sO p5) zi;have bm:=Kd μ ((f i).den.cast (R:=Int) |>.fdiv (Int.gcd μ (f i).den:Int))
  refine⟨_,at1,_,at1,μ,(f i).den,rfl,⟨g0,by omega⟩,.inr (.inr (by omega)),_,_,rfl,p1,by omega,fun j hj hjm=> ?_⟩
  by_cases e:j=i
  ·subst e;exact p3
  ·exact Int.dvd_trans (hd j (by omega) hjm) p2
 ·rintro _ ⟨μ,y,rfl,hμ,bμ,hd⟩;have el:((List.range m).map fun j=>qD (f j)).length=m:=by simp
  rw[el] at bμ hd
  let g:Nat ->Int:=fun j=>if j<m then(f j).num*μ.fdiv ((f j).den:Int) else 0
  have gv:∀j,j<m ->g j=(f j).num*μ.fdiv ((f j).den:Int):=fun j hj=>by show(if j<m then _ else _)=_;rw[if_pos hj]
  have bt:∀j,j<m ->bN (μ.fdiv ((f j).den:Int))<=bN μ:=fun j hj=>by
   refine sO ?_;have e:=congrArg Int.natAbs (xO (hd j hj hj));rw[Int.natAbs_mul] at e;rw[<- e];exact Nat.le_mul_of_pos_left _ (by have:=(f j).den_pos;omega)
  show aX _ ((List.range m).map fun j=>qD (f j)) _;refine Mj (g:=fun j=> .int (g j)) (fun j hj P hP=> ?_) (h μ g hμ (fun j hj=> ?_) fun j=> ?_)
  ·have z:=hz j hj;have b:=bt j hj;refine⟨_,at0,_,at1,⟨by have:=(f j).den_pos;omega,by have:=z.2;omega⟩,.inr (.inr (by have:=z.1;omega)),?_⟩
   show P [.int ((f j).num*μ.fdiv ((f j).den:Int))];rw[<- gv j hj];exact hP
  ·rw[gv j hj];have e:=xO (hd j hj hj);obtain⟨n1,n2⟩:=zxt (f j);have e' :(μ:Rat)=((f j).den:Int)* (μ.fdiv ((f j).den:Int):Int):=by exact_mod_cast e.symm
   rw[Rat.intCast_mul,n1,e']
   grind
  ·by_cases hj:j<m
   ·rw[gv j hj];have:=Kd (f j).num (μ.fdiv ((f j).den:Int));have:=bt j hj;have:=(hz j hj).1;omega
   ·show bN (if j<m then _ else 0)<=_;rw[if_neg hj];exact Nat.zero_le _
theorem zos{α:Type}[Inhabited α]{one:D ->(List D ->Prop) ->Prop}{f:Nat ->D}(F:Nat ->α ->D)(Good:Nat ->α ->Prop):∀{n s:Nat} {P:List D ->Prop},(∀i,s<=i ->i<s+n ->∀P:List D ->Prop,(∀a,Good i a ->P [F i a]) ->one (f i) P) ->(∀as:Nat ->α,(∀i,s<=i ->i<s+n ->Good i (as i)) ->P ((List.range' s n).map fun i=>F i (as i))) ->aX one ((List.range' s n).map f) P
 | 0,s,P,_,h=>h (fun _=>default) fun i h1 h2=>by omega
 | n+1,s,P,k,h=>by
  rw[List.range'_succ];refine k s (by omega) (by omega) _ fun a ha=> ?_
  refine zos F Good (fun i h1 h2=>k i (by omega) (by omega)) fun as has=> ?_
  have:=h (fun i=>if i=s then a else as i) fun i h1 h2=>by
   by_cases e:i=s
   ·subst e;simpa using ha
   ·simp only [if_neg e];exact has i (by omega) (by omega)
  rw[List.range'_succ,List.map_cons,if_pos rfl] at this;have e:(List.range' (s+1) n).map (fun i=>F i (if i=s then a else as i))=(List.range' (s+1) n).map fun i=>F i (as i):=List.map_congr_left fun i hi=>by
   have:=List.mem_range'_1.mp hi;rw[if_neg (by omega)]
  rw[e] at this;exact this
theorem zs9{α:Type}[Inhabited α]{one:D ->(List D ->Prop) ->Prop}{f:Nat ->D}(F:Nat ->α ->D)(Good:Nat ->α ->Prop){n:Nat}{P:List D ->Prop}(k:∀i,i<n ->∀P:List D ->Prop,(∀a,Good i a ->P [F i a]) ->one (f i) P)(h:∀as:Nat ->α,(∀i,i<n ->Good i (as i)) ->P ((List.range n).map fun i=>F i (as i))):aX one ((List.range n).map f) P:=by
 rw[List.range_eq_range'];refine zos F Good (fun i _ h2=>k i (by omega)) fun as has=> ?_
 rw[<- List.range_eq_range'];exact h as fun i hi=>has i (by omega) (by omega)
theorem z36{n:Nat}{f:Nat ->D}:jy ((List.range (n+1)).map f) (-1)=some (f n):=by
 have e:rB ((List.range (n+1)).map f).length (-1)=some n:=by
  rw[List.length_map,List.length_range];unfold rB;rw[if_neg (by decide),if_pos (by omega)]
  congr 1;omega
 unfold jy;rw[e];exact Jk (by omega)
theorem Ml{z:Int}{e k:Nat}(h:z.natAbs<=(16*2^e)^k):bN z<=(e+4)*k+1:=by
 refine iD (zK h ?_);rw[show(16:Nat)*2^e=2^ (e+4) by rw[Nat.pow_add,Nat.mul_comm],<- Nat.pow_mul]
 exact Nat.pow_lt_pow_right (by decide) (by omega)
theorem Vg{f g:Nat ->Rat}(t:Rat):∀{m:Nat},(∀j,j<m ->f j=t*g j) ->bF m f=t*bF m g
 | 0,_=>by unfold bF;grind
 | m+1,h=>by unfold bF;rw[Vg t fun j hj=>h j (by omega),h m (by omega)];grind
theorem zxy{K:W.Frag}{c:Cls}{ds Q Ex}(h:Iu c ds Q Ex):zo5 K c (fin Q) (aJ 5 ds) fun _=>Ex:=by
 obtain⟨n,A,⟨rfl,hn,hz⟩,hE,hP⟩:=h;have s1:=v9;show aX _ (kj ((List.range n).map fun i=>gO n (A i)) ((List.range n).map fun i=>qD (A i n))) _;rw[zv9];refine zs9 (α:=Nat ->Int) (fun _ g=>cI (n+1) g) (fun i g=>(∀j,bN (g j)<=640)/\∃μ:Int,0<μ/\∀j,j<n+1 ->(g j:Rat)=(μ:Rat)*A i j) (fun i hi P hP=> ?_) (fun as has=> ?_)
 ·refine⟨rfl,rfl,by show(1:Nat)<=sizeLine;decide,?_,n+1,A i,?_,by omega,fun j hj=>hz i j hi (by omega),fun μ g h0 h1 h2=>hP g ⟨h2,μ,h0,h1⟩⟩
  ·show((List.range n).map fun j=>qD (A i j)).length+1<=sizeLine;simp only [List.length_map,List.length_range];omega
  ·show [D.lst (((List.range n).map fun j=>qD (A i j))++ [qD (A i n)])]= [gO (n+1) (A i)];unfold gO;rw[List.range_succ,List.map_append];rfl
 change zjn K c (fin Q) [.pu (uz n n A),.pu (gO n fun i=>A i n),.pu (iG n (n+1) as),.no,.no] fun _=>Ex
 have ba:∀k,k<n ->∀j,(as k j).natAbs<=2^640:=fun k hk j=>Nat.le_of_lt (zq ((has k hk).1 j));have hμ:∃μ:Nat ->Rat,∀i,i<n ->μ i≠0/\∀j,j<n+1 ->(as i j:Rat)=μ i*A i j:=by
  refine⟨fun i=>if h:i<n then((has i h).2.choose:Int) else 1,fun i hi=> ?_⟩;simp only [dif_pos hi];have sp:=(has i hi).2.choose_spec;refine⟨?_,fun j hj=>sp.2 j hj⟩;have:=sp.1;intro z;have:(has i hi).2.choose=0:=by exact_mod_cast z
  omega
 obtain⟨μ,hμ⟩:=hμ;have el:((List.range n).map fun i=>cI (n+1) (as i)).length=n:=by simp
 show((-(2^62):Int)<=((((List.range n).map fun i=>cI (n+1) (as i)).length:Nat):Int)/\_)/\tE 0 (Int.toNat ((((List.range n).map fun i=>cI (n+1) (as i)).length:Nat):Int)) _ _ _ _ _;rw[el,Int.toNat_natCast];have mx:∀k,k<=13 ->(640+4)*k+1<=8500:=fun k hk=>by omega
 have h1:1<=16*2^640:=Nat.mul_pos (by decide) (Nat.pow_pos (by decide))
 refine⟨⟨by omega,by omega⟩,fun k Γ=>∃(d:Int) (tb:Mx) (rs:List Row) (fs:Nat ->Row) (ix:Nat ->Nat) (y:Slot),Γ= [.pu (uz n n A),.pu (gO n fun i=>A i n),.pu (iG n (n+1) tb),.pu (.int d),y]/\BT n as k d tb rs fs ix,⟨1,as,_,_,_,_,rfl,zx5 n as⟩,?_,?_⟩
 ·rintro k _ hk ⟨d,tb,rs,fs,ix,y,rfl,bt⟩;have e0:(0+ (k:Int))=((k:Nat):Int):=by omega
  have bd:bN d<=8500:=zN (Ml (bt.lead (N:=16) ba (by omega))) (mx k (by omega))
  have be:∀i j,i<n ->bN (tb i j)<=8500:=fun i j hi=>zN (Ml (bt.small (N:=16) ba (by omega) h1 hi j)) (mx (k+1) (by omega))
  refine⟨tb,n,n+1,k,?_,by omega,hk,by omega,fun s hs hsn hne=> ?_,fun hall=> ?_⟩
  ·show [iG n (n+1) tb,.int (0+ (k:Int))]=_;rw[e0]
  ·obtain⟨rs',fs',Bm,bt'⟩:=bt.step hs hsn hne;have sk:jK k s k=s:=by unfold jK;rw[if_pos rfl]
   have et:iG n (n+1) (rO k d (Ik k s tb))=iG n (n+1) (nextT k s d tb):=ztg fun i j _ _=>by
    unfold rO Ik nextT;rw[sk]
   refine⟨Ik k s tb,n,n+1,k,d,?_,hk,by omega,bt.nz,zN bd (by decide),fun i j hi=>zN (be (jK k s i) j ?_) (by decide),?_⟩
   ·show [_,D.int (0+ (k:Int)),_]=_;rw[e0]
   ·unfold jK;split
    ·exact hsn
    ·split<;>omega
   ·rw[et];refine⟨cI (n+1) (nextT k s d tb k),?_,.int (nextT k s d tb k k),?_,tb s k,nextT k s d tb,rs',fs',Bm,.pu (.int (0+ (k:Int))),?_,bt'⟩
    ·show jy ((List.range n).map fun i=>cI (n+1) (nextT k s d tb i)) (0+ (k:Int))=_;rw[e0];exact vq hk
    ·show jy ((List.range (n+1)).map fun j=>D.int (nextT k s d tb k j)) (0+ (k:Int))=_;rw[e0];exact vq (by omega)
    ·have:nextT k s d tb k k=tb s k:=by unfold nextT;rw[if_pos rfl]
     rw[this];rfl
  ·obtain⟨x,x1,hx⟩:=bt.stuck hk hall;refine hE x k hk x1 fun r hr=> ?_;have q:=hx r hr;rw[Vg (g:=fun j=>A r j*x j) (μ r) fun j hj=>by
    show(as r j:Rat)*x j=_;rw[(hμ r hr).2 j (by omega)];grind] at q
   rcases Rat.mul_eq_zero.mp q with q | q
   ·exact absurd q (hμ r hr).1
   ·exact q
 ·rintro _ ⟨d,tb,rs,fs,ix,y,rfl,bt⟩;have d0:(d:Rat)≠0:=fun z=>bt.nz (by exact_mod_cast z)
  have bd:bN d<=8500:=zN (Ml (bt.lead (N:=16) ba (by omega))) (mx n (by omega))
  have be:∀i j,i<n ->bN (tb i j)<=8500:=fun i j hi=>zN (Ml (bt.small (N:=16) ba (by omega) h1 hi j)) (mx (n+1) (by omega))
  have ex:∀i,i<n ->fs i n=(tb i n:Rat)/ (d:Rat):=fun i hi=>by
   rw[bt.t i hi n,Rat.div_def,Rat.mul_comm,<- Rat.mul_assoc,Rat.inv_mul_cancel _ d0,Rat.one_mul]
  have hs:Slv n A fun i=>fs i n:=fun r hr=>by
   have q:=bt.sol hr n;have q' :(as r n:Rat)=bF n fun c=>(as r c:Rat)*fs c n:=q;rw[Vg (g:=fun j=>A r j*fs j n) (μ r) fun j hj=>by rw[(hμ r hr).2 j (by omega)];grind,(hμ r hr).2 n (by omega)] at q'
   have m0:=(hμ r hr).1;have:=congrArg (fun z=>(μ r)⁻¹*z) q';simp only [<- Rat.mul_assoc,Rat.inv_mul_cancel _ m0,Rat.one_mul] at this;exact this
  show aX _ (u6 0 ((List.range n).map fun i=>cI (n+1) (tb i))) _;rw[z0q];refine Mj (g:=fun i=>qD (fs i n)) (fun i hi P hp=> ?_) (hP _ hs fun i hi=>by rw[ex i hi];exact z39 bt.nz (be i n hi) bd)
  refine⟨rfl,rfl,.int (tb i n),z36,.int (tb i i),vq (by omega),tb i n,tb i i,rfl,zN (be i n hi) (by decide),zN (be i i hi) (by decide),?_⟩
  rw[bt.diag hi hi,if_neg bt.nz,<- ex i hi];exact hp
abbrev uD(Q:T ->Prop):lB:={nx:=fun _=>False,rt:=fun _=>False,rT:=Q}
theorem zu6(x y:Str):dY (.str x) (.str y)=decide (x=y):=by
 simp only [dY];by_cases h:x=y<;>simp [h]
theorem Jl{x:Str}:∀{g:List Str},inD (.str x) (g.map .str)=decide (x∈g)
 | []=>by simp [inD]
 | y::g=>by
  have ih:=Jl (x:=x) (g:=g);unfold inD at ih⊢;rw[List.map_cons,List.any_cons,ih];by_cases h:y=x
  ·subst h;simp [KC]
  ·have h' :¬x=y:=fun z=>h z.symm;simp [KC,h,h']
theorem Mp(g:List Str):(g.map D.str).all tQ=true:=by
 rw[List.all_map];exact List.all_eq_true.mpr fun _ _=>rfl
theorem zk3{α:Type}(f:α ->Bool):∀l:List α,oV (l.map fun x=> .bl (f x))=some (l.map f)
 | []=>rfl
 | a::l=>by simp [oV,zk3 f l]
theorem wg{α:Type}{one:D ->(List D ->Prop) ->Prop}(f:α ->D)(g:α ->D):∀{l:List α} {P:List D ->Prop},(∀a∈l,∀P,P [g a] ->one (f a) P) ->P (l.map g) ->aX one (l.map f) P
 | [],_,_,h=>h
 | a::l,P,k,h=>k a zW _ (wg f g (fun b hb=>k b (zV _ hb)) h)
theorem xX{α:Type}{one:D ->(List D ->Prop) ->Prop}(f g:α ->D)(p:α ->Bool):∀{l:List α} {P:List D ->Prop},(∀a∈l,∀P,P (if p a=true then [g a] else []) ->one (f a) P) ->P ((l.filter p).map g) ->aX one (l.map f) P
 | [],_,_,h=>h
 | a::l,P,k,h=>k a zW _ (xX f g p (fun b hb=>k b (zV _ hb)) (by
   rw[List.filter_cons] at h;by_cases q:p a=true
   ·rw[if_pos q] at h⊢;exact h
   ·rw[if_neg q] at h⊢;exact h))
theorem z5a{K:W.Frag}{c:Cls}{ds Q Ex}(h:Du c ds Q Ex):zwe K c (fin Q) (aJ 2 ds) fun _=>Ex:=by
 obtain⟨g,hs,rfl,h⟩:=h;show aX _ (hs.map D.str) _;refine wg D.str (fun x=> .bl (decide (x∈g))) (fun x hx P hp=> ?_) ?_
 ·refine⟨rfl,Mp g,?_⟩;show P [.bl (if false then _ else inD (.str x) (g.map .str))];rw[Jl];exact hp
 ·refine⟨_,zk3 _ hs,?_⟩;have e:(hs.map fun x=>decide (x∈g)).any id=aH g hs:=by rw[List.any_map];rfl
  rw[e];exact h
def fX(hs:List Str)(h:Str):List Str:=if h∈hs then hs else hs++ [h]
theorem zrm{hs:List Str}{h x:Str}:x∈fX hs h↔x∈hs\/x=h:=by
 unfold fX;split
 ·exact⟨.inl,fun q=>by rcases q with q | rfl;exact q;assumption⟩
 ·rw[List.mem_append,List.mem_singleton]
theorem zk8{hs:List Str}{h:Str}(nd:hs.Nodup):(fX hs h).Nodup:=by
 unfold fX;split
 ·exact nd
 ·rename_i q;rw[List.nodup_append];exact⟨nd,by simp,fun a ha b hb e=>q (by rw[List.mem_singleton.mp hb] at e;exact e ▸ ha)⟩
theorem zrw{hs:List Str}{h:Str}:(fX hs h).length<=hs.length+1:=by
 unfold fX;split
 ·omega
 ·simp
theorem qU{α β:Type}{x:β}{l:List β}:(Sum.inr x:Sum α β)∈l.map Sum.inr↔x∈l:=by
 rw[List.mem_map];exact⟨fun⟨y,h,e⟩=>by injection e with e;exact e ▸ h,fun h=>⟨x,h,rfl⟩⟩
theorem xY{hs:List Str}{h:Str}:jk (hs.map .inr) (.inr h)=decide (h∈hs):=by
 by_cases q:h∈hs
 ·rw[decide_eq_true q];exact lJ.mpr (qU.mpr q)
 ·rw[decide_eq_false q];cases z:jk (hs.map Sum.inr) (Sum.inr h:Key) with
  | false=>rfl
  | true=>exact absurd (qU.mp (lJ.mp z)) q
theorem Vh{hs:List Str}{h:Str}:eE (hs.map .inr) (.inr h)=(fX hs h).map .inr:=by
 unfold eE fX;rw[xY];by_cases q:h∈hs
 ·rw[decide_eq_true q,if_pos rfl,if_pos q]
 ·rw[decide_eq_false q,if_neg (by decide),if_neg q,List.map_append];rfl
theorem zxm{hs:List Str}{xs:List D}{h:Str}{d:D}(e:hs.length=xs.length):(fX hs h).length=(cA (hs.map .inr) xs (.inr h) d).length:=by
 unfold cA fX;rw[xY];by_cases q:h∈hs
 ·rw[decide_eq_true q,if_pos rfl,if_pos q,List.length_zipWith,List.length_map,e,Nat.min_self]
 ·rw[decide_eq_false q,if_neg q,if_neg Bool.false_ne_true];simp [e]
structure Dz (rows:List Rw) (n:Nat) (ws:List Str) (ps:List (List Str×List D)):Prop where
 len:ws.length=ps.length
 nd:ws.Nodup
 lw:ws.length<=n
 pt:∀(q:Nat) w p,ws[q]?=some w ->ps[q]?=some p ->p.1.length=p.2.length/\p.1.Nodup/\p.1.length<=rows.length/\∀h,h∈p.1↔h∈bT rows w
 ex:Uq rows ->∀(q:Nat) w p,ws[q]?=some w ->ps[q]?=some p ->p=(kW rows w,(bZ rows w).map fun r=> .int r.2.2)
theorem Br{rows:List Rw}{r:Rw}{w:Str}:bZ (rows++ [r]) w=bZ rows w++ (if r.1=w then [r] else []):=by
 unfold bZ;rw[List.filter_append]
 congr 1
 by_cases q:r.1=w<;>simp [q]
theorem zum{rows:List Rw}{r:Rw}{w:Str}:kW (rows++ [r]) w=kW rows w++ (if r.1=w then [r.2.1] else []):=by
 unfold kW;rw[Br,List.map_append]
 congr 1
 by_cases q:r.1=w<;>simp [q]
theorem Vi{rows:List Rw}{w:Str}(h:¬∃r∈rows,r.1=w):bZ rows w= []:=by
 unfold bZ;exact List.filter_eq_nil_iff.mpr fun r hr z=>h ⟨r,hr,of_decide_eq_true z⟩
theorem zn6{rows:List Rw}{r:Rw}{w:Str}:bT (rows++ [r]) w=bT rows w++ (if r.1=w then [r.2.1] else []):=by
 unfold bT;rw[List.filter_append,List.map_append]
 congr 1
 by_cases q:r.1=w<;>simp [q]
theorem bH{rows:List Rw}{w h:Str}:h∈bT rows w↔∃r∈rows,r.1=w/\r.2.1=h:=by
 unfold bT;rw[List.mem_map];constructor
 ·rintro⟨r,hr,e⟩;obtain⟨h1,h2⟩:=zB.mp hr;exact⟨r,h1,of_decide_eq_true h2,e⟩
 ·rintro⟨r,h1,h2,e⟩;exact⟨r,zB.mpr ⟨h1,decide_eq_true h2⟩,e⟩
theorem Dz.new{rows:List Rw}{ws:List Str}{ps:List (List Str×List D)}{w:Str}(B:Bp rows ws ps)(hw:w∉ws):Dz rows (rows.length+1) (ws++ [w]) (ps++ [([],[])]):=by
 refine⟨by simp [B.len],?_,by simpa using B.lw,fun q v p h1 h2=> ?_,fun u q v p h1 h2=> ?_⟩
 ·rw[List.nodup_append];exact⟨B.nd,by simp,fun a ha b hb e=>hw (by rw[List.mem_singleton.mp hb] at e;exact e ▸ ha)⟩
 ·by_cases hq:q<ws.length
  ·rw[List.getElem?_append_left hq] at h1;rw[List.getElem?_append_left (by rw[<- B.len];exact hq)] at h2
   exact B.pt q v p h1 h2
  ·have hl:q< (ws++ [w]).length:=(zU.mp h1).1;rw[List.length_append,List.length_singleton] at hl;have hq' :q=ws.length:=by omega
   subst hq';rw[List.getElem?_append_right (Nat.le_refl _)] at h1;rw[List.getElem?_append_right (by rw[B.len];exact Nat.le_refl _)] at h2
   simp at h1;simp [B.len] at h2;subst h1 h2;refine⟨rfl,by simp,Nat.zero_le _,fun h=>⟨fun z=>by(cases z),fun z=> ?_⟩⟩
   obtain⟨r,hr,e,_⟩:=bH.mp z;exact absurd ((B.wm w).mpr ⟨r,hr,e⟩) hw
 ·by_cases hq:q<ws.length
  ·rw[List.getElem?_append_left hq] at h1;rw[List.getElem?_append_left (by rw[<- B.len];exact hq)] at h2
   exact B.ex u q v p h1 h2
  ·have hl:q< (ws++ [w]).length:=(zU.mp h1).1;rw[List.length_append,List.length_singleton] at hl;have hq' :q=ws.length:=by omega
   subst hq';rw[List.getElem?_append_right (Nat.le_refl _)] at h1;rw[List.getElem?_append_right (by rw[B.len];exact Nat.le_refl _)] at h2
   simp at h1;simp [B.len] at h2;subst h1 h2;have:=Vi (rows:=rows) (w:=w) fun⟨r,hr,e⟩=>hw ((B.wm w).mpr ⟨r,hr,e⟩);unfold kW;rw[this];rfl
theorem Jm{ws:List Str}(nd:ws.Nodup){i j:Nat}(hi:i<ws.length)(hj:j<ws.length)(e:ws[i]=ws[j]):i=j:=by
 have key:=List.pairwise_iff_getElem.mp nd;rcases Nat.lt_trichotomy i j with q | q | q
 ·exact absurd e (key i j hi hj q)
 ·exact q
 ·exact absurd e.symm (key j i hj hi q)
theorem Dz.put{rows:List Rw}{ws:List Str}{ps:List (List Str×List D)}{r:Rw}{q:Nat}{p:List Str×List D}(B:Dz rows (rows.length+1) ws ps)(wm:∀v,v∈ws↔ (∃r∈rows,r.1=v)\/v=r.1)(h1:ws[q]?=some r.1)(h2:ps[q]?=some p)(d:D)(hd:d= .int r.2.2):
  Bp (rows++ [r]) ws (ps.set q (fX p.1 r.2.1,cA (p.1.map .inr) p.2 (.inr r.2.1) d)):=by
 obtain⟨b1,b2,b3,b4⟩:=B.pt q r.1 p h1 h2;have hq:q<ps.length:=(zU.mp h2).1;refine⟨by rw[List.length_set];exact B.len,B.nd,by simpa using B.lw,fun v=> ?_,fun q' v p' e1 e2=> ?_,fun u q' v p' e1 e2=> ?_⟩
 ·rw[wm v];constructor
  ·rintro(⟨r',h,e⟩ | e)
   ·exact⟨r',zO _ h,e⟩
   ·exact⟨r,by simp,e.symm⟩
  ·rintro⟨r',h,e⟩;rcases zR.mp h with h | h
   ·exact .inl ⟨r',h,e⟩
   ·rw[List.mem_singleton.mp h] at e;exact .inr e.symm
 ·by_cases tG:q=q'
  ·subst tG;rw[h1] at e1;cases e1;rw[List.getElem?_set_self hq] at e2;cases e2;refine⟨zxm b1,zk8 b2,zN zrw (by simpa using b3),fun h=> ?_⟩
   show h∈fX p.1 r.2.1↔_;rw[zrm,zn6,if_pos rfl,List.mem_append,b4 h,List.mem_singleton]
  ·rw[List.getElem?_set_ne tG] at e2;obtain⟨c1,c2,c3,c4⟩:=B.pt q' v p' e1 e2;have hv:¬r.1=v:=fun z=>by
    have l1:=(zU.mp h1);have l2:=(zU.mp e1);obtain⟨l1,l1'⟩:=l1;obtain⟨l2,Vj⟩:=l2;exact tG (Jm B.nd l1 l2 (by rw[l1',Vj,z]))
   refine⟨c1,c2,by simpa using Nat.le_succ_of_le c3,fun h=> ?_⟩
   rw[c4 h,zn6,if_neg hv,List.append_nil]
 ·have u0:Uq rows:=(List.pairwise_append.mp u).1;by_cases tG:q=q'
  ·subst tG;rw[h1] at e1;cases e1;rw[List.getElem?_set_self hq] at e2;cases e2;have ep:=B.ex u0 q r.1 p h1 h2;have hn:r.2.1∉p.1:=fun z=>by
    rw[ep] at z;obtain⟨r',hr',g1,g2⟩:=fO.mp z;exact(List.pairwise_append.mp u).2.2 r' hr' r (by simp) ⟨g1,g2⟩
   rw[zum,Br,if_pos rfl,if_pos rfl];unfold fX cA;rw[if_neg hn,xY,decide_eq_false hn,if_neg Bool.false_ne_true,ep,hd,List.map_append]
   rfl
  ·rw[List.getElem?_set_ne tG] at e2;have hv:¬r.1=v:=fun z=>by
    have l1:=(zU.mp h1);have l2:=(zU.mp e1);obtain⟨l1,l1'⟩:=l1;obtain⟨l2,Vj⟩:=l2;exact tG (Jm B.nd l1 l2 (by rw[l1',Vj,z]))
   rw[zum,Br,if_neg hv,if_neg hv,List.append_nil,List.append_nil];exact B.ex u0 q' v p' e1 e2
theorem zl8{ws:List Str}(nd:ws.Nodup):(ws.map (Sum.inr:Str ->Key)).Nodup:=by
 unfold List.Nodup;rw[List.pairwise_map];exact nd.imp fun h z=>h (by injection z)
theorem zxr{K:W.Frag}{c:Cls}{ds Q Ex}(h:Dt c ds Q Ex):zlg K c (uD Q) (aJ 5 ds) fun _=>Ex:=by
 obtain⟨rows,rfl,hl,h⟩:=h;have s1:=v9;intro as;refine⟨fun i Γ=>∃as ws ps x y z,Bp (rows.take i) ws ps/\Γ= [.pu (aG rows),.tr as (.dic (ws.map .inr) (ps.map qT)),x,y,z],?_,?_,?_⟩
 ·exact⟨as,[],[],_,_,_,⟨rfl,by simp,by simp,fun w=>⟨fun z=>by(cases z),fun⟨r,hr,_⟩=>by(simp at hr)⟩,fun q w p e=>(by simp at e),fun _ q w p e=>by simp at e⟩,rfl⟩
 ·rintro i d _ hi ⟨as,ws,ps,x,y,z,B,rfl⟩;have hi' :i<rows.length:=by
   have:=(zU.mp hi).1
   rwa [List.length_map] at this
  rw[List.getElem?_map,List.getElem?_eq_getElem hi'] at hi;cases hi;have tk:rows.take (i+1)=rows.take i++ [rows[i]]:=by rw[List.take_add_one,List.getElem?_eq_getElem hi'];rfl
  have hlt:(rows.take i).length=i:=by rw[List.length_take];omega
  have fin:∀as ws ps,Dz (rows.take i) ((rows.take i).length+1) ws ps ->(∀v,v∈ws↔ (∃r∈rows.take i,r.1=v)\/v=rows[i].1) ->
    ze2 K c {nx:=fun Γ=>∃as ws ps x y z,Bp (rows.take (i+1)) ws ps/\Γ= [.pu (aG rows),.tr as (.dic (ws.map .inr) (ps.map qT)),x,y,z],ct:=fun Γ=>∃as ws ps x y z,Bp (rows.take (i+1)) ws ps/\Γ= [.pu (aG rows),.tr as (.dic (ws.map .inr) (ps.map qT)),x,y,z],bk:=fun Γ=>zh6 K c (uD Q) Γ fun _=>Ex,rt:=fun _=>False,rT:=Q}
     [.pu (aG rows),.tr as (.dic (ws.map .inr) (ps.map qT)),.pu (.str rows[i].1),.pu (.str rows[i].2.1),.pu (.int rows[i].2.2)] fun _=>Ex:=by
   intro as ws ps B wm;have hm:rows[i].1∈ws:=(wm _).mpr (.inr rfl);obtain⟨q,hq,eq⟩:=List.mem_iff_getElem.mp hm;have hq2:q<ps.length:=by rw[<- B.len];exact hq
   have e1:ws[q]?=some rows[i].1:=by rw[List.getElem?_eq_getElem hq,eq]
   have e2:ps[q]?=some ps[q]:=zX hq2;obtain⟨b1,b2,b3,b4⟩:=B.pt q _ _ e1 e2;have BW:=B.put wm e1 e2 (.int rows[i].2.2) rfl;rw[<- tk] at BW;refine⟨.inr rows[i].1,.inr rows[i].2.1,as,ws.map .inr,ps.map qT,q,ps[q].1.map .inr,ps[q].2,rfl,rfl,rfl,zl8 B.nd,by rw[List.getElem?_map,e1];rfl,by rw[List.getElem?_map,e2];rfl,by rw[List.length_map];omega,?_⟩
   refine⟨as,ws,_,.pu (.str rows[i].1),.pu (.str rows[i].2.1),.pu (.int rows[i].2.2),BW,?_⟩;rw[Vh,List.map_set]
   rfl
  refine⟨rfl,rfl,.inr rows[i].1,as,ws.map .inr,ps.map qT,rfl,rfl,?_⟩;rw[xY];by_cases hw:rows[i].1∈ws
  ·rw[decide_eq_true hw];refine fin as ws ps ⟨B.len,B.nd,Nat.le_succ_of_le B.lw,B.pt,B.ex⟩ fun v=> ?_;rw[B.wm v];exact⟨.inl,fun z=>by rcases z with z | rfl;exact z;exact(B.wm _).mp hw⟩
  ·rw[decide_eq_false hw];refine⟨.inr rows[i].1,as,ws.map .inr,ps.map qT,rfl,rfl,by rw[xY,decide_eq_false hw],by rw[List.length_map];have:=B.lw;omega,fun cs=> ?_⟩
   have:=fin (as++cs) (ws++ [rows[i].1]) (ps++ [([],[])]) (Dz.new B hw) fun v=>by
    rw[List.mem_append,B.wm v,List.mem_singleton]
   rw[List.map_append,List.map_append] at this;exact this
 ·rintro _ ⟨as,ws,ps,x,y,z,B,rfl⟩;have e:rows.take (rows.map jL).length=rows:=by rw[List.length_map,List.take_length]
  rw[e] at B;exact h ws ps B
theorem zo1:∀xs:List Str,lK (xs.map .str)=some xs
 | []=>rfl
 | x::xs=>by rw[List.map_cons];unfold lK;rw[zo1 xs];rfl
theorem z27{xs U:List Str}(h:∀x∈xs,x∈U):(jJ xs).length<=U.length:=xP (zk5 xs) fun x hx=>h x (oZ.mp hx)
theorem Vk{xs U:List Str}{P:List D ->Prop}(h1:xs.length<4095)(h2:U.length<60)(h3:∀x∈xs,x∈U)(h:∀ms:List Str,ms.Pairwise (fun a b=>gD a b=true) ->(∀i,i∈ms↔i∈xs) ->P (ms.map .str)):xq [gl xs] P:=
 ⟨xs,zo1 xs,h1,zK (z27 h3) (by omega),h⟩
theorem Mr{p:List Str ->Bool}:∀fs:List (List Str),(fs.filter p).flatten.length<=fs.flatten.length
 | []=>by simp
 | f::fs=>by
  have:=Mr (p:=p) fs;rw[List.filter_cons];split<;>simp only [List.flatten_cons,List.length_append]<;>omega
theorem zh7(fs:List (List Str))(i:Nat):(fs.take i).flatten.length<=fs.flatten.length:=by
 conv=>rhs;rw[<- List.take_append_drop i fs,List.flatten_append,List.length_append]
 omega
theorem zxz{K:W.Frag}{c:Cls}{ds Q Ex}(h:Iv c ds Q Ex):zoz K c (fin Q) (aJ 5 ds) fun _=>Ex:=by
 obtain⟨fs,hs,U,rfl,hl,hfl,hU,u1,u2,h⟩:=h;have line:(8000:Nat)<=sizeLine:=by decide
 show aX _ (fs.map gl) _;refine xX gl gl (fun f=> !aH f hs) (fun f hf P hp=> ?_) ?_
 ·refine⟨f,hs,rfl,?_⟩;show if (!aH f hs)=true then P [gl f] else P [];by_cases q:(!aH f hs)=true
  ·rw[if_pos q] at hp⊢;exact hp
  ·rw[if_neg q] at hp⊢;exact hp
 ·refine⟨fun i Γ=>∃x,Γ= [.pu (.lst (fs.map gl)),.pu (gl hs),.pu (.lst ((fs.filter fun f=> !aH f hs).map gl)),.ow ((hs++ ((fs.take i).filter fun f=>aH f hs).flatten).map .str),x],⟨.no,by simp [gl];rfl⟩,?_,?_⟩
  ·rintro i d _ hi ⟨x,rfl⟩;have hi' :i<fs.length:=by
    have:=(zU.mp hi).1
    rwa [List.length_map] at this
   rw[List.getElem?_map,List.getElem?_eq_getElem hi'] at hi;cases hi;have tk:fs.take (i+1)=fs.take i++ [fs[i]]:=by rw[List.take_add_one,List.getElem?_eq_getElem hi'];rfl
   refine⟨fs[i],hs,rfl,?_⟩;show if aH fs[i] hs=true then _ else _;by_cases q:aH fs[i] hs=true
   ·rw[if_pos q];refine⟨⟨_,rfl⟩,?_,.pu (gl fs[i]),?_⟩
    ·have h1:=Mr (p:=fun f=>aH f hs) (fs.take (i+1));have h2:=zh7 fs (i+1);rw[tk,List.filter_append,List.flatten_append,List.length_append] at h1;simp only [List.filter_cons,q,if_true,List.filter_nil,List.flatten_cons,List.flatten_nil,List.append_nil] at h1;rw[tk] at h2;rw[List.length_map,List.length_append,List.length_map];omega
    ·rw[tk,List.filter_append,List.flatten_append];simp only [List.filter_cons,q,if_true,List.filter_nil,List.flatten_cons,List.flatten_nil,List.append_nil];rw[<- List.append_assoc,List.map_append (l₂:=fs[i])]
     rfl
   ·rw[if_neg q];refine⟨.pu (gl fs[i]),?_⟩;rw[tk,List.filter_append,List.flatten_append];simp only [List.filter_cons,q,Bool.false_eq_true,if_false,List.filter_nil,List.flatten_nil,List.append_nil]
    rfl
  ·rintro _ ⟨x,rfl⟩;have e:fs.take (fs.map gl).length=fs:=by rw[List.length_map,List.take_length]
   rw[e];have hx:∀x,x∈hs++ (fs.filter fun f=>aH f hs).flatten↔x∈hs\/∃f∈fs,aH f hs=true/\x∈f:=fun x=>by
    rw[List.mem_append,List.mem_flatten];constructor
    ·rintro(a | ⟨f,hf,a⟩)
     ·exact .inl a
     ·obtain⟨h1,h2⟩:=zB.mp hf;exact .inr ⟨f,h1,h2,a⟩
    ·rintro(a | ⟨f,h1,h2,a⟩)
     ·exact .inl a
     ·exact .inr ⟨f,zB.mpr ⟨h1,h2⟩,a⟩
   dsimp only;unfold zja
   and_intros
   refine Vk (U:=U) ?_ hU (fun x q=> ?_) fun ms s1 s2=> ?_
   ·have:=Mr (p:=fun f=>aH f hs) fs;rw[List.length_append];omega
   ·rcases(hx x).mp q with a | ⟨f,h1,_,a⟩
    ·exact u1 x a
    ·exact u2 f h1 x a
   ·refine⟨by show(1:Nat)<=sizeLine;omega,?_,?_⟩
    ·have:=List.length_filter_le (fun f=> !aH f hs) fs;show((fs.filter fun f=> !aH f hs).map gl).length+1<=sizeLine;rw[List.length_map];omega
    ·have:=h ms s1 fun x=>(s2 x).trans (hx x);rw[List.map_append] at this;exact this
theorem Bs{g:List Str}(h:g.Pairwise fun a b=>gD a b=true):g.Nodup:=h.imp fun{a b} q z=>by rw[z,zxq] at q;cases q
theorem Vl(a b:Str)(h:gD a b=true):¬gD b a=true:=by rw[zsy h];exact zH
theorem zrf{rows jV :List Rw}{Ss vg :List (List Str)}(F:Ux rows Ss)(F' :Ux jV vg)(e:∀r,r∈rows↔r∈jV):∀S∈Ss,∃S' ∈vg,∀x,x∈S↔x∈S' :=fun S hS=>by
 obtain⟨r,hr,k⟩:=F.of S hS;obtain⟨S',hS',k'⟩:=F'.to r ((e r).mp hr);refine⟨S',hS',fun x=> ?_⟩;rw[k x,k' x,bH,bH];exact⟨fun⟨r,h,q⟩=>⟨r,(e r).mp h,q⟩,fun⟨r,h,q⟩=>⟨r,(e r).mpr h,q⟩⟩
theorem rP.sub{rows jV :List Rw}{ms jM :List (List Str)}(h:rP rows ms)(h' :rP jV jM)(e:∀r,r∈rows↔r∈jV):∀m∈ms,m∈jM :=fun m hm=>by
 obtain⟨Ss,F,p⟩:=h.pi;obtain⟨vg,F',p'⟩:=h'.pi;obtain⟨m',hm',k⟩:=p.same p' (zrf F F' e) (zrf F' F fun r=>(e r).symm) hm;rw[Lk Vl (h.sr m hm) (h'.sr m' hm') k];exact hm'
theorem rP.uniq{rows jV :List Rw}{ms jM :List (List Str)}(h:rP rows ms)(h' :rP jV jM)(e:∀r,r∈rows↔r∈jV):ms=jM :=
 Lk (R:=fun a b=>gD (hdS a) (hdS b)=true) (fun a b q=>Vl _ _ q) h.up h'.up fun m=>⟨h.sub h' e m,h'.sub h (fun r=>(e r).symm) m⟩
theorem z01{f:List Str}(h:f≠ []):hdS f∈f:=by
 cases f with
 | nil=>exact absurd rfl h
 | cons x f=>exact zW
theorem Vm:∀{fs:List (List Str)},(∀f∈fs,f≠ []) ->fs.Pairwise (fun a b=>∀x∈a,x∉b) ->(fs.map hdS).Nodup
 | [],_,_=>by simp
 | f::fs,ne,d=>by
  rw[List.pairwise_cons] at d;rw[List.map_cons,List.nodup_cons];refine⟨fun z=> ?_,Vm (fun g hg=>ne g (zV _ hg)) d.2⟩;obtain⟨g,hg,e⟩:=zE.mp z;exact d.1 g hg (hdS f) (z01 (ne f zW)) (e ▸ z01 (ne g (zV _ hg)))
theorem Jo:∀{fs:List (List Str)},(∀f∈fs,f≠ []) ->fs.length<=fs.flatten.length
 | [],_=>by simp
 | f::fs,ne=>by
  have:=Jo (fs:=fs) fun g hg=>ne g (zV _ hg);have h1:0<f.length:=List.length_pos_iff.mpr (ne f zW);rw[List.length_cons,List.flatten_cons,List.length_append];omega
theorem Vn{Ss fs:List (List Str)}{U:List Str}(p:eN Ss fs)(h:∀S∈Ss,∀x∈S,x∈U):∀f∈fs,∀x∈f,x∈U:=fun f hf x hx=>by
 obtain⟨S,hS,q⟩:=(p.co x).mp ⟨f,hf,hx⟩;exact h S hS x q
theorem Vo{Ss fs:List (List Str)}{U:List Str}(p:eN Ss fs)(nd:∀f∈fs,f.Nodup)(h:∀S∈Ss,∀x∈S,x∈U):fs.flatten.length<=U.length:=
 xP (Ln p.dj nd) fun x hx=>by
  obtain⟨f,hf,q⟩:=List.mem_flatten.mp hx;exact Vn p h f hf x q
theorem DG:∀l:List D,fC (l.map .leaf)=l
 | []=>rfl
 | d::l=>by rw[List.map_cons];unfold fC;rw[DG l];rfl
theorem Ms{α:Type}(f:α ->T):∀l:List α,fC (l.map f)=l.map fun x=>toD (f x)
 | []=>rfl
 | d::l=>by rw[List.map_cons];unfold fC;rw[Ms f l];rfl
theorem zzg(hs:List Str):(hs.map (Sum.inr:Str ->Key)).map cG=hs.map .str:=by rw[List.map_map];rfl
theorem zyr{K:W.Frag}{c:Cls}{ds Q Ex}(h:Iw c ds Q Ex):zox K c (uD Q) (aJ 3 ds) fun _=>Ex:=by
 obtain⟨rows,U,rfl,hl,hU,hu,h⟩:=h;refine⟨Nat.zero_le _,rows,rfl,hl,fun ws ps B=> ?_⟩;have Vp:∀p∈ps,(p.1.Nodup/\p.1≠ []/\∀x∈p.1,x∈U)/\∃r∈rows,∀x,x∈p.1↔x∈bT rows r.1:=fun p hp=>by
  obtain⟨q,hq,e⟩:=List.mem_iff_getElem.mp hp;have hq2:q<ws.length:=by rw[B.len];exact hq
  obtain⟨b1,b2,b3,b4⟩:=B.pt q _ p (zX hq2) (by rw[List.getElem?_eq_getElem hq,e])
  obtain⟨r,hr,er⟩:=(B.wm ws[q]).mp (yX hq2);refine⟨⟨b2,fun z=> ?_,fun x hx=> ?_⟩,r,hr,fun x=>by rw[er];exact b4 x⟩
  ·have:=(b4 r.2.1).mpr (bH.mpr ⟨r,hr,er,rfl⟩);rw[z] at this;cases this
  ·obtain⟨r',h1,_,h3⟩:=bH.mp ((b4 x).mp hx);exact h3 ▸ hu r' h1
 have few:∀i,∀S∈ (ps.take i).map (·.1),∀x∈S,x∈U:=fun i S hS x hx=>by
  obtain⟨p,hp,rfl⟩:=zE.mp hS;exact(Vp p (List.mem_of_mem_take hp)).1.2.2 x hx
 show mR (fC (ps.map qT)) _ _ _ _ _;refine⟨fun i Γ=>∃fs x,eN ((ps.take i).map (·.1)) fs/\ (∀f∈fs,f.Pairwise fun a b=>gD a b=true)/\Γ= [.pu (aG rows),.pu (.lst (fs.map gl)),x],⟨[],_,by simpa using eN.nil,fun f hf=>by(cases hf),rfl⟩,?_,?_⟩
 ·rintro i d _ hi ⟨fs,x,p,sr,rfl⟩;rw[Ms] at hi;have hi' :i<ps.length:=by
   have:=(zU.mp hi).1
   rwa [List.length_map] at this
  rw[List.getElem?_map,List.getElem?_eq_getElem hi'] at hi;cases hi;have tk:ps.take (i+1)=ps.take i++ [ps[i]]:=by rw[List.take_add_one,List.getElem?_eq_getElem hi'];rfl
  obtain⟨⟨q1,q2,q3⟩,_⟩:=Vp ps[i] (yX hi');have l1:=xP q1 q3;have l2:=Vo p (fun f hf=>Bs (sr f hf)) (few i);have l3:=Jo p.ne;refine⟨fs,ps[i].1,U,?_,by omega,by omega,hU,q3,Vn p (few i),fun g g1 g2=> ?_⟩
  ·show [D.lst (fs.map gl),D.lst ((ps[i].1.map Sum.inr).map cG)]=_;rw[zzg];rfl
  ·refine⟨fs.filter (fun f=> !aH f ps[i].1)++ [g],_,?_,fun f hf=> ?_,rfl⟩
   ·rw[tk,List.map_append];exact p.step q2 g2
   ·rcases zR.mp hf with hf | hf
    ·exact sr f (zB.mp hf).1
    ·rw[List.mem_singleton.mp hf];exact g1
 ·rintro _ ⟨fs,x,p,sr,rfl⟩;have e:ps.take (fC (ps.map qT)).length=ps:=by rw[Ms,List.length_map,List.take_length]
  rw[e] at p;have uE :∀S∈ps.map (·.1),∀x∈S,x∈U:=by have:=few ps.length;rwa [List.take_length] at this
  have l2:=Vo p (fun f hf=>Bs (sr f hf)) uE;have l3:=Jo p.ne;refine⟨fs,rfl,p.ne,Vm p.ne p.dj,by omega,fun ms pm up=>h ms ⟨fun m hm=>sr m (pm.mem_iff.mp hm),up,_,⟨fun S hS=> ?_,fun r hr=> ?_⟩,p.perm pm⟩⟩
  ·obtain⟨p,hp,rfl⟩:=zE.mp hS;exact(Vp p hp).2
  ·have hw:=(B.wm r.1).mpr ⟨r,hr,rfl⟩;obtain⟨q,hq,e⟩:=List.mem_iff_getElem.mp hw;have hq2:q<ps.length:=by rw[<- B.len];exact hq
   obtain⟨b1,b2,b3,b4⟩:=B.pt q r.1 ps[q] (by rw[List.getElem?_eq_getElem hq,e]) (zX hq2)
   exact⟨ps[q].1,zE.mpr ⟨_,yX hq2,rfl⟩,b4⟩
def GZ(B:Nat)(q:Rat):Prop:=∃z:Int,q*27720=(z:Rat)/\z.natAbs<=B
theorem GZ.add{A B:Nat}{p q:Rat}(h1:GZ A p)(h2:GZ B q):GZ (A+B) (p+q):=by
 obtain⟨a,ea,ha⟩:=h1;obtain⟨b,eb,hb⟩:=h2;refine⟨a+b,?_,by omega⟩
 rw[Rat.intCast_add,<- ea,<- eb];grind
theorem GZ.sub{A B:Nat}{p q:Rat}(h1:GZ A p)(h2:GZ B q):GZ (A+B) (p - q):=by
 obtain⟨a,ea,ha⟩:=h1;obtain⟨b,eb,hb⟩:=h2;refine⟨a - b,?_,by omega⟩
 rw[Rat.intCast_sub,<- ea,<- eb];grind
theorem GZ.mono{A B:Nat}{q:Rat}(h:GZ A q)(l:A<=B):GZ B q:=by
 obtain⟨a,ea,ha⟩:=h;exact⟨a,ea,zN ha l⟩
theorem Vq{B:Nat}:∀{qs:List Rat},(∀q∈qs,GZ B q) ->GZ (qs.length*B) (d9 qs)
 | [],_=>⟨0,by unfold d9;grind,by simp⟩
 | q::qs,h=>by
  refine((h q zW).add (Vq fun p hp=>h p (zV _ hp))).mono ?_;rw[List.length_cons,Nat.add_mul];omega
theorem Bt{n:Nat}(h1:1<=n)(h2:n<=12):n* (27720/n)=27720:=by
 match n,h1,h2 with
 | 1,_,_=>rfl
 | 2,_,_=>rfl
 | 3,_,_=>rfl
 | 4,_,_=>rfl
 | 5,_,_=>rfl
 | 6,_,_=>rfl
 | 7,_,_=>rfl
 | 8,_,_=>rfl
 | 9,_,_=>rfl
 | 10,_,_=>rfl
 | 11,_,_=>rfl
 | 12,_,_=>rfl
theorem Vr{t:Int}{n B:Nat}(h1:1<=n)(h2:n<=12)(ht:t.natAbs<=B):GZ (B*27720) ((t:Rat)/ ((n:Nat):Rat)):=by
 have e:=Bt h1 h2;have n0:((n:Nat):Rat)≠0:=fun z=>by
  have:n=0:=by exact_mod_cast z
  omega
 refine⟨t* ((27720/n:Nat):Int),?_,?_⟩
 ·have e' :(27720:Rat)=((n:Nat):Rat)* ((27720/n:Nat):Rat):=by exact_mod_cast e.symm
  rw[e',Rat.intCast_mul,Rat.div_def,Rat.mul_assoc,<- Rat.mul_assoc (((n:Nat):Rat)⁻¹),Rat.inv_mul_cancel _ n0,Rat.one_mul]
  rfl
 ·rw[Int.natAbs_mul];refine Nat.mul_le_mul ht ?_;rw[Int.natAbs_natCast];exact Nat.div_le_self _ _
theorem z1b{t:Int}{B:Nat}(ht:t.natAbs<=B):GZ (B*27720) (t:Rat):=by
 refine⟨t*27720,by rw[Rat.intCast_mul];rfl,?_⟩
 rw[Int.natAbs_mul];exact Nat.mul_le_mul ht (zM _)
theorem Mt{B n:Nat}{q:Rat}(h:GZ B q)(hB:B<2^n):bN q.num<=n/\bN (q.den:Int)<=15:=by
 obtain⟨z,e,hz⟩:=h;have c0:((27720:Int):Rat)≠0:=by decide
 have eq:q=(z:Rat)/ ((27720:Int):Rat):=by
  rw[<- e,Rat.div_def,Rat.mul_assoc];have:(27720:Rat)* ((27720:Int):Rat)⁻¹=1:=by
   have:=Rat.mul_inv_cancel _ c0;exact this
  rw[this];grind
 have b1:bN z<=n:=iD (by omega)
 have f:=Lg (t:=z) (b:=27720) (by decide)
 have e1:(fr z 27720).1=_:=congrArg Prod.fst f;have e2:(fr z 27720).2=_:=congrArg Prod.snd f;dsimp only at e1 e2;rw[eq];refine⟨zN (sO ?_) b1,zN (sO (j:=27720) ?_) (iD (by decide))⟩
 ·rw[<- e1];exact z00 (by decide)
 ·rw[<- e2];exact z1f (by decide)
theorem DK{B n:Nat}{q:Rat}(h:GZ B q)(hB:B<2^n)(hn:15<=n):Sz n q:=⟨(Mt h hB).1,zN (Mt h hB).2 hn⟩
theorem wj{B n:Nat}{q:Rat}(h:GZ B q)(hB:B<2^n)(hn:n<=400):LR q:=⟨zN (Mt h hB).1 hn,zN (Mt h hB).2 (by decide)⟩
theorem z3q{n:Nat}(h:1<=n):qD (((-1:Int):Rat)/ ((n:Nat):Rat))= .tup [.int (-1),.int n]:=by
 have f:=Lg (t:= -1) (b:=(n:Int)) (by omega)
 have e1:(fr (-1) (n:Int)).1=_:=congrArg Prod.fst f;have e2:(fr (-1) (n:Int)).2=_:=congrArg Prod.snd f;dsimp only at e1 e2;have g:dv (-1) (n:Int)=1:=by unfold dv;rw[if_neg (by omega)];simp
 have t1:=Lf (-1) (n:Int);have t2:=HS (-1) (n:Int);rw[g,Int.one_mul] at t1 t2;unfold qD;have c:(((-1:Int):Rat)/ ((n:Nat):Rat))=((-1:Int):Rat)/ (((n:Nat):Int):Rat):=rfl;rw[c,<- e1,<- e2,t1,t2]
theorem Vs{α:Type}(f:α ->Rat):∀l:List α,d9 (l.map f)=ao l f
 | []=>rfl
 | a::l=>by show f a+d9 (l.map f)=f a+ao l f;rw[Vs f l]
theorem Jp(rows:List Rw)(w:Str):v8 (vm rows w)=some ((kW rows w).map .inr,(bZ rows w).map fun r=> .int r.2.2):=rfl
theorem zmi{K:W.Frag}{c:Cls}{ds Q Ex}(h:xW c ds Q Ex):zfz K c (fin Q) (aJ 2 ds) fun _=>Ex:=by
 obtain⟨rows,ws,h0,rfl,h⟩:=h;show aX _ (ws.map (vm rows)) _;refine xX (vm rows) (vm rows) (fun w=>decide (h0∈kW rows w)) (fun w hw P hp=> ?_) h;refine⟨_,_,.inr h0,Jp rows w,rfl,?_⟩;rw[xY];simp only [Bool.false_eq_true,if_false];by_cases q:h0∈kW rows w
 ·rw[decide_eq_true q] at hp⊢;exact hp
 ·rw[decide_eq_false q] at hp⊢;exact hp
theorem uF{rows:List Rw}(L:LB rows){w:Str}(h:bZ rows w≠ []):1<=(kW rows w).length/\ (kW rows w).length<=12:=by
 rw[Dp];exact⟨List.length_pos_iff.mpr h,L.wk w⟩
theorem z2k{K:W.Frag}{c:Cls}{ds Q Ex}(h:Iz c ds Q Ex):zsv K c (fin Q) (aJ 5 ds) fun _=>Ex:=by
 obtain⟨rows,ws,h0,o0,rfl,L,⟨W1,W2⟩,h⟩:=h;have s1:=v9;refine⟨rows,ws,h0,rfl,rows,ws.filter (fun w=>decide (h0∈kW rows w)),o0,rfl,?_⟩
 let both:=(ws.filter fun w=>decide (h0∈kW rows w)).filter fun w=>decide (o0∈kW rows w)
 show U3 K c (fin Q) [.pu (.str h0),.pu (.str o0),.pu (kE rows ws),.pu (kE rows both),.no] fun _=>Ex;have hb:∀w∈both,bZ rows w≠ []:=fun w hw=>W2 w (zB.mp (zB.mp hw).1).1;have hbl:both.length<=200:=zN (zN (List.length_filter_le _ _) (List.length_filter_le _ _)) W1
 let f:Str ->Rat:=fun w=>((-1:Int):Rat)/ (((kW rows w).length:Nat):Rat)
 have gz:∀w∈both,GZ 27720 (f w):=fun w hw=>by
  have:=Vr (t:= -1) (B:=1) (uF L (hb w hw)).1 (uF L (hb w hw)).2 (by decide)
  rw[Nat.one_mul] at this;exact this
 have gs:∀k,GZ (200*27720) (d9 ((both.map f).take k)):=fun k=>by
  refine(Vq fun q hq=> ?_).mono (Nat.mul_le_mul_right _ (zN (by rw[List.length_take];omega) (show(both.map f).length<=200 by rw[List.length_map];exact hbl)))
  obtain⟨w,hw,rfl⟩:=zE.mp (List.mem_of_mem_take hq);exact gz w hw
 have e2:d9 (both.map f)=ao ws fun w=>if h0∈kW rows w/\o0∈kW rows w then f w else 0:=by
  rw[Vs];show ao ((ws.filter fun w=>decide (h0∈kW rows w)).filter fun w=>decide (o0∈kW rows w)) f=_;rw[xU,xU];refine gB fun w _=> ?_;by_cases q1:h0∈kW rows w
  ·by_cases q2:o0∈kW rows w<;>simp [q1,q2]
  ·simp [q1]
 have e3:(ao (ws.map (kW rows)) fun s=>if h0∈s/\o0∈s then 1/ (s.length:Rat) else 0)= - d9 (both.map f):=by
  rw[e2,vh];have: - (ao ws fun w=>if h0∈kW rows w/\o0∈kW rows w then f w else 0)=ao ws fun w=>(-1)* (if h0∈kW rows w/\o0∈kW rows w then f w else 0):=by rw[uw];grind
  rw[this];refine gB fun w _=> ?_;split
  ·show 1/ (((kW rows w).length:Nat):Rat)=(-1)* (((-1:Int):Rat)/ (((kW rows w).length:Nat):Rat));rw[Rat.div_def,Rat.div_def];have:((-1:Int):Rat)= -1:=rfl;rw[this];grind
  ·grind
 have pw:∀n,23<=n ->200*27720<2^n:=fun n hn=>zL (show 200*27720<2^23 by decide) (Nat.pow_le_pow_right (by decide) hn)
 unfold U3
 and_intros
 refine wg (vm rows) (fun w=> .tup [.int (-1),.int (((kW rows w).length:Nat):Int)]) (fun w hw P hp=> ?_) ?_
 ·refine⟨_,_,Jp rows w,by show(2:Nat)<=sizeLine;omega,?_⟩
  rw[List.length_map];exact hp
 refine⟨both.map f,?_,fun q hq=> ?_,fun k=>DK (gs k) (pw 4000 (by decide)) (by decide),?_⟩
 ·rw[List.map_map];refine congrArg (fun z=> [D.lst z]) (List.map_congr_left fun w hw=> ?_);exact(z3q (uF L (hb w hw)).1).symm
 ·obtain⟨w,hw,rfl⟩:=zE.mp hq;exact DK (gz w hw) (zK (by decide) (pw 4000 (by decide))) (by decide)
 have gt:=gs (both.map f).length;rw[List.take_length] at gt;unfold zku
 and_intros
 refine⟨by simp [jz],?_⟩
 rw[zu6];by_cases q:h0=o0
 ·subst q;rw[decide_eq_true rfl];have eb:both.length=(ws.filter fun w=>decide (h0∈kW rows w)).length:=by
   show((ws.filter fun w=>decide (h0∈kW rows w)).filter fun w=>decide (h0∈kW rows w)).length=_;rw[List.filter_filter];simp
  have ec:dW (ws.map (kW rows)) h0=((both.length:Nat):Rat):=by
   unfold dW;rw[vh,eb];have:=Dl (α:=Str) 1 (l:=ws.filter fun w=>decide (h0∈kW rows w));rw[xU] at this;rw[Rat.mul_one] at this;rw[<- this];exact gB fun w _=>by by_cases q:h0∈kW rows w<;>simp [q]
  refine⟨by show(2:Nat)<=sizeLine;omega,((both.length:Int):Rat),d9 (both.map f),?_,?_,DK gt (pw 4000 (by decide)) (by decide),?_⟩
  ·rw[Lj,List.length_map]
  ·exact z0p (iD (k:=4000) (zK (show((both.length:Nat):Int).natAbs<=200*27720 by omega) (pw 4000 (by decide)))) (by decide)
  ·have:((both.length:Int):Rat)+d9 (both.map f)=bR (ws.map (kW rows)) h0 h0:=by
    unfold bR;rw[if_pos rfl,e3,ec];show((both.length:Nat):Rat)+_=_
    grind
   rw[this];exact h
 ·rw[decide_eq_false q];have:d9 (both.map f)=bR (ws.map (kW rows)) h0 o0:=by
   unfold bR;rw[if_neg q,e3];grind
  show Q (qD (d9 (both.map f)));rw[this];exact h
theorem zyc{K:W.Frag}{c:Cls}{ds Q Ex}(h:IK c ds Q Ex):zo7 K c (fin Q) (aJ 3 ds) fun _=>Ex:=by
 obtain⟨rows,ws,m,h0,rfl,L,W,h⟩:=h;show aX _ (m.map D.str) _;refine wg D.str (fun o=>qD (bR (ws.map (kW rows)) h0 o)) (fun o ho P hp=> ?_) h;exact⟨rows,ws,h0,o,rfl,L,W,hp⟩
theorem zng{α:Type}(f:α ->Int):∀l:List α,gq (l.map fun a=> .int (f a))=some (l.map f)
 | []=>rfl
 | a::l=>by unfold List.map gq;rw[zng f l];rfl
theorem Mu{α:Type}(f:α ->Int):∀l:List α,(((l.map f).sum:Int):Rat)=ao l fun a=>(f a:Rat)
 | []=>rfl
 | a::l=>by
  rw[List.map_cons,List.sum_cons,Rat.intCast_add,Mu f l];rfl
theorem Vt{α:Type}(f:α ->Int){B:Nat}:∀{l:List α},(∀a∈l,(f a).natAbs<=B) ->((l.map f).sum).natAbs<=l.length*B
 | [],_=>by simp
 | a::l,h=>by
  have h1:=h a zW;have h2:=Vt f (l:=l) fun b hb=>h b (zV _ hb);rw[List.map_cons,List.sum_cons,List.length_cons,Nat.add_mul];omega
theorem zqp{K:W.Frag}{c:Cls}{ds Q Ex}(h:IV c ds Q Ex):zhz K c (fin Q) (aJ 1 ds) fun _=>Ex:=by
 obtain⟨rows,w,rfl,L,ne,h⟩:=h;have hp:=List.length_pos_iff.mpr ne;have h12:=L.wk w;refine⟨_,_,(bZ rows w).map (fun r=>r.2.2),Jp rows w,zng _ _,_,_,Jp rows w,_,_,rfl,?_,?_,?_⟩
 ·have:=Vt (fun r:Rw=>r.2.2) (B:=2^100) (l:=bZ rows w) fun r hr=>Nat.le_of_lt (L.mm r (aR.mp hr).1);refine zN (iD (k:=104) (zK this ?_)) (by decide)
  exact zK (Nat.mul_le_mul_right _ h12) (by decide)
 ·rw[List.length_map,Dp];exact zN (iD (k:=4) (by omega)) (by decide)
 ·rw[List.length_map,Dp,if_neg (by omega),Mu]
  exact h
theorem zze{L:List Rw}{h:Str}:eF (L.map fun r=> .inr r.2.1) (L.map fun r=> .int r.2.2) (.inr h)=(L.find? fun r=>decide (r.2.1=h)).map fun r=> .int r.2.2:=by
 induction L with
 | nil=>rfl
 | cons r L ih=>
  rw[List.map_cons,List.map_cons,List.find?_cons];unfold eF;by_cases q:r.2.1=h
  ·rw[if_pos (by rw[q]),decide_eq_true q];rfl
  ·rw[if_neg (fun z=>q (by injection z)),decide_eq_false q];exact ih
theorem zw0{rows:List Rw}(u:Uq rows){w h:Str}(hh:h∈kW rows w):∃r∈rows,r.1=w/\r.2.1=h/\eF ((kW rows w).map .inr) ((bZ rows w).map fun r=> .int r.2.2) (.inr h)=some (.int r.2.2)/\yW rows w h=(r.2.2:Rat):=by
 obtain⟨r,hr,e1,e2⟩:=fO.mp hh;refine⟨r,hr,e1,e2,?_,?_⟩
 ·unfold kW;rw[List.map_map];have:=zze (L:=bZ rows w) (h:=h);show eF ((bZ rows w).map fun r=> .inr r.2.1) _ _=_;rw[this];cases q:(bZ rows w).find? fun r=>decide (r.2.1=h) with
  | none=>
   have:=List.find?_eq_none.mp q r (aR.mpr ⟨hr,e1⟩);simp [e2] at this
  | some s=>
   have s1:=aR.mp (List.mem_of_find?_eq_some q);have s2:s.2.1=h:=by simpa using List.find?_some q
   rw[Uw u s1.1 hr (s1.2.trans e1.symm) (s2.trans e2.symm)];rfl
 ·have:=LC u hr;rw[e1,e2] at this;exact this
theorem xZ{rows:List Rw}(u:Uq rows)(w:Str):aZ (kW rows w) (yW rows w)=ao (bZ rows w) (fun r=>(r.2.2:Rat))/ ((bZ rows w).length:Rat):=by
 unfold aZ;rw[Dp,z09]
 congr 1
 refine gB fun r hr=> ?_;have:=LC u (aR.mp hr).1;rw[(aR.mp hr).2] at this;rw[this]
theorem zv5{rows:List Rw}(L:LB rows){w:Str}(ne:bZ rows w≠ []):GZ (2^104*27720) (ao (bZ rows w) (fun r=>(r.2.2:Rat))/ ((bZ rows w).length:Rat)):=by
 have hp:=List.length_pos_iff.mpr ne;have h12:=L.wk w;have:=Vt (fun r:Rw=>r.2.2) (B:=2^100) (l:=bZ rows w) fun r hr=>Nat.le_of_lt (L.mm r (aR.mp hr).1);rw[<- Mu];refine Vr hp h12 (zN this (zN (Nat.mul_le_mul_right _ h12) (by decide)))
theorem Vu{rows:List Rw}(u:Uq rows)(L:LB rows){w h:Str}(hh:h∈kW rows w):GZ (2^105*27720) (yW rows w h - aZ (kW rows w) (yW rows w)):=by
 obtain⟨r,hr,e1,e2,_,ey⟩:=zw0 u hh;rw[ey,xZ u];have ne:bZ rows w≠ []:=fun z=>by
  have:=aR.mpr ⟨hr,e1⟩;rw[z] at this;cases this
 exact((z1b (B:=2^104) (zN (Nat.le_of_lt (L.mm r hr)) (by decide))).sub (zv5 L ne)).mono (by decide)
theorem zym{K:W.Frag}{c:Cls}{ds Q Ex}(h:IW c ds Q Ex):U4 K c (fin Q) (aJ 2 ds) fun _=>Ex:=by
 obtain⟨rows,ws,h0,rfl,u,L,⟨W1,W2⟩,h⟩:=h;have s1:=v9;have pw:∀n,128<=n ->200* (2^105*27720)<2^n:=fun n hn=>zL (show 200* (2^105*27720)<2^128 by decide) (Nat.pow_le_pow_right (by decide) hn)
 let wh:=ws.filter fun w=>decide (h0∈kW rows w)
 have yc:∀w∈wh,w∈ws/\h0∈kW rows w:=fun w hw=>⟨(zB.mp hw).1,of_decide_eq_true (zB.mp hw).2⟩
 let f:Str ->Rat:=fun w=>yW rows w h0 - aZ (kW rows w) (yW rows w)
 unfold U4
 and_intros
 refine⟨rows,ws,h0,rfl,?_⟩;show aX _ (wh.map (vm rows)) _;refine wg (vm rows) (fun w=>qD (f w)) (fun w hw P hp=> ?_) ?_
 ·obtain⟨r,hr,e1,e2,lk,ey⟩:=zw0 u (yc w hw).2;refine⟨_,_,.inr h0,.int r.2.2,Jp rows w,rfl,lk,by show(2:Nat)<=sizeLine;omega,rows,w,rfl,L,W2 w (yc w hw).1,?_⟩
  refine⟨((r.2.2:Int):Rat),_,by rw[Lj],?_,DK (zv5 L (W2 w (yc w hw).1)) (zK (by decide) (pw 4000 (by decide))) (by decide),?_⟩
  ·exact z0p (zN (iD (L.mm r hr)) (by decide)) (by decide)
  ·rw[<- xZ u,<- ey];exact hp
 ·have gs:∀k,GZ (200* (2^105*27720)) (d9 ((wh.map f).take k)):=fun k=>by
   refine(Vq fun q hq=> ?_).mono (Nat.mul_le_mul_right _ (zN (by rw[List.length_take];omega) (show(wh.map f).length<=200 by rw[List.length_map];exact zN (List.length_filter_le _ _) W1)))
   obtain⟨w,hw,rfl⟩:=zE.mp (List.mem_of_mem_take hq);exact Vu u L (yc w hw).2
  refine⟨wh.map f,by rw[List.map_map];rfl,fun q hq=> ?_,fun k=>DK (gs k) (pw 4000 (by decide)) (by decide),?_⟩
  ·obtain⟨w,hw,rfl⟩:=zE.mp hq;exact DK (Vu u L (yc w hw).2) (zK (by decide) (pw 4000 (by decide))) (by decide)
  ·have:d9 (wh.map f)=fM (kW rows) (yW rows) ws h0:=by
    rw[Vs];show ao (ws.filter fun w=>decide (h0∈kW rows w)) f=_;rw[xU];unfold fM;exact gB fun w _=>by by_cases q:h0∈kW rows w<;>simp [q,f]
   rw[this];exact h
theorem Mv{α:Type}{B:Nat}{f:α ->Rat}:∀{l:List α},(∀a∈l,GZ B (f a)) ->GZ (l.length*B) (ao l f)
 | [],_=>⟨0,by unfold ao;grind,by simp⟩
 | a::l,h=>by
  refine((h a zW).add (Mv fun b hb=>h b (zV _ hb))).mono ?_;rw[List.length_cons,Nat.add_mul];omega
theorem Jq(B:Nat):GZ B 0:=⟨0,by grind,by simp⟩
theorem z03{rows:List Rw}{ws:List Str}(W:pA rows ws)(h:Str):GZ (200*27720) (dW (ws.map (kW rows)) h):=by
 unfold dW;rw[vh];refine(Mv (B:=27720) fun w _=> ?_).mono (Nat.mul_le_mul_right _ W.1);split
 ·have:=z1b (t:=1) (B:=1) (by decide)
  rw[Nat.one_mul] at this;exact this
 ·exact Jq _
theorem z0d{rows:List Rw}{ws:List Str}(L:LB rows)(W:pA rows ws)(h o:Str):GZ (400*27720) (bR (ws.map (kW rows)) h o):=by
 unfold bR;have g1:GZ (200*27720) (if h=o then dW (ws.map (kW rows)) h else 0):=by
  split
  ·exact z03 W h
  ·exact Jq _
 have g2:GZ (200*27720) (ao (ws.map (kW rows)) fun s=>if h∈s/\o∈s then 1/ (s.length:Rat) else 0):=by
  rw[vh];refine(Mv (B:=27720) fun w hw=> ?_).mono (Nat.mul_le_mul_right _ W.1);split
  ·have:=Vr (t:=1) (B:=1) (uF L (W.2 w hw)).1 (uF L (W.2 w hw)).2 (by decide)
   rw[Nat.one_mul] at this;exact this
  ·exact Jq _
 exact(g1.sub g2).mono (by decide)
theorem z2u{rows:List Rw}{ws:List Str}(u:Uq rows)(L:LB rows)(W:pA rows ws)(h:Str):GZ (200* (2^105*27720)) (fM (kW rows) (yW rows) ws h):=by
 unfold fM;refine(Mv (B:=2^105*27720) fun w _=> ?_).mono (Nat.mul_le_mul_right _ W.1);split
 ·rename_i q;exact Vu u L q
 ·exact Jq _
theorem Mw{α β:Type}[Inhabited α](g:α ->β)(l:List α):l.map g=(List.range l.length).map fun j=>g (l.getD j default):=by
 apply List.ext_getElem
 ·simp
 ·intro i h1 h2;simp only [List.getElem_map,List.getElem_range];have hi:i<l.length:=by simpa using h1
  rw[List.getD_eq_getElem?_getD,List.getElem?_eq_getElem hi];rfl
theorem zy1(x:D)(xs:List D):cutD (x::xs) (some 1) none=xs:=by
 unfold cutD HT.sIx;simp
theorem zh9{K:W.Frag}{c:Cls}{ds Q Ex}(h:Ja c ds Q Ex):zdy K c (fin Q) (aJ 5 ds) fun _=>Ex:=by
 obtain⟨rows,ws,m,rfl,S,L,W,ne,Vv,h⟩:=h;have s1:=v9;obtain⟨h0,hs,em⟩:∃h0 hs,m=h0::hs:=by
  cases m with
  | nil=>exact absurd rfl ne
  | cons a b=>exact⟨a,b,rfl⟩
 have hn:m.length=hs.length+1:=by rw[em];rfl
 have gs:∀i,m.getD (i+1) default=hs.getD i default:=fun i=>by rw[em];rfl
 have ct:cutD (m.map D.str) (some 1) none=hs.map D.str:=by rw[em];exact zy1 _ _
 let A:=gC rows ws m
 show aX _ (cutD (m.map D.str) (some 1) none) _;rw[ct];refine wg D.str (fun h=> .lst (m.map fun o=>qD (bR (ws.map (kW rows)) h o))) (fun h hh P hp=>⟨rows,ws,m,h,rfl,L,W,hp⟩) ?_;show aX _ (cutD (m.map D.str) (some 1) none) _;rw[ct];refine wg D.str (fun h=>qD (fM (kW rows) (yW rows) ws h)) (fun h hh P hp=>⟨rows,ws,h,rfl,S.u,L,W,hp⟩) ?_;have ec:∀h,dW (ws.map (kW rows)) h=(((ws.filter fun w=>decide (h∈kW rows w)).length:Int):Rat):=fun h=>by
  unfold dW;rw[vh];have:=Dl (α:=Str) 1 (l:=ws.filter fun w=>decide (h∈kW rows w));rw[xU,Rat.mul_one] at this;refine Eq.trans ?_ this;exact gB fun w _=>by by_cases q:h∈kW rows w<;>simp [q]
 show zc2 K c (fin Q) [.pu (gl m),.pu (kE rows ws),.pu (.lst (hs.map fun h=> .lst (m.map fun o=>qD (bR (ws.map (kW rows)) h o)))),.pu (.lst (hs.map fun h=>qD (fM (kW rows) (yW rows) ws h))),.no] fun _=>Ex;show aX _ (m.map D.str) _;refine wg D.str (fun h=>qD (dW (ws.map (kW rows)) h)) (fun h hh P hp=> ?_) ?_
 ·refine⟨rows,ws,h,rfl,by show(2:Nat)<=sizeLine;omega,?_⟩
  rw[ec,Lj] at hp;rw[List.length_map];exact hp
 unfold zcr
 and_intros
 have l1:hs.length<=1000:=by omega
 refine⟨by show(1:Nat)<=sizeLine;omega,by rw[List.length_map];simp;omega,by show(2:Nat)<=sizeLine;omega,by show(1:Nat)<=sizeLine;omega,by rw[List.length_map];simp;omega,?_⟩
 have Jr:∀i,i<m.length ->gO m.length (A i)= .lst (m.map fun o=>qD (if i=0 then dW (ws.map (kW rows)) o else bR (ws.map (kW rows)) (m.getD i default) o)):=fun i hi=>by
  unfold gO;rw[Mw (fun o=>qD (if i=0 then dW (ws.map (kW rows)) o else bR (ws.map (kW rows)) (m.getD i default) o)) m];refine congrArg D.lst (List.map_congr_left fun j hj=> ?_);show qD (gC rows ws m i j)=_;unfold gC;rw[if_pos (List.mem_range.mp hj)]
 have idx:∀j,j<m.length ->m.idxOf (m.getD j default)=j:=fun j hj=>by
  rw[List.getD_eq_getElem?_getD,List.getElem?_eq_getElem hj];exact S.nm.idxOf_getElem j hj
 have conv:∀(X:Nat ->Rat) i,bF m.length (fun j=>A i j*X j)=bF m.length fun j=>A i j*X (m.idxOf (m.getD j default)):=fun X i=>xQ fun j hj=>by rw[idx j hj]
 refine⟨m.length,A,⟨?_,Vv,fun i j hi hj=> ?_⟩,fun y k hk y1 hy=> ?_,fun X hX hsz=> ?_⟩
 ·have t1:uz m.length m.length A= .lst ([.lst (m.map fun h=>qD (dW (ws.map (kW rows)) h))]++hs.map fun h=> .lst (m.map fun o=>qD (bR (ws.map (kW rows)) h o))):=by
   unfold uz;rw[hn,List.range_succ_eq_map,List.map_cons,List.map_map,<- hn,Jr 0 (by omega)]
   rw[Mw (fun h=>D.lst (m.map fun o=>qD (bR (ws.map (kW rows)) h o))) hs];refine congrArg D.lst ?_;show _::_=_::_;refine List.cons_eq_cons.mpr ⟨rfl,List.map_congr_left fun i hi=> ?_⟩;have hi' :=List.mem_range.mp hi;show gO m.length (A (i+1))=_;rw[Jr (i+1) (by omega)]
   refine congrArg D.lst (List.map_congr_left fun o _=> ?_);rw[if_neg (by omega),gs]
  have t2:gO m.length (fun i=>A i m.length)= .lst ([.tup [.int 0,.int 1]]++hs.map fun h=>qD (fM (kW rows) (yW rows) ws h)):=by
   unfold gO;rw[hn,List.range_succ_eq_map,List.map_cons,List.map_map,<- hn];rw[Mw (fun h=>qD (fM (kW rows) (yW rows) ws h)) hs];have a0:A 0 m.length=((0:Int):Rat):=by
    show gC rows ws m 0 m.length=_;unfold gC;rw[if_neg (Nat.lt_irrefl _),if_pos rfl];rfl
   refine congrArg D.lst ?_;show qD (A 0 m.length)::_=_::_;rw[a0,Lj];refine List.cons_eq_cons.mpr ⟨rfl,List.map_congr_left fun i hi=> ?_⟩;show qD (gC rows ws m (i+1) m.length)=_;unfold gC;rw[if_neg (Nat.lt_irrefl _),if_neg (by omega),gs]
  rw[t1,t2]
  rfl
 ·show LR (gC rows ws m i j);unfold gC;split
  ·split
   ·exact wj (z03 W _) (n:=23) (by decide) (by decide)
   ·exact wj (z0d L W _ _) (n:=24) (by decide) (by decide)
  ·split
   ·exact wj (Jq 0) (n:=1) (by decide) (by decide)
   ·exact wj (z2u S.u L W _) (n:=128) (by decide) (by decide)
 ·have z:=S.null (fun h=>y (m.idxOf h)) (fun i hi=>by
   have:=hy i hi;rw[conv] at this;exact this) (m.getD k default) (zvf hk)
  rw[idx k hk,y1] at z;exact absurd z (by decide)
 ·have a:=S.ans (fun h=>X (m.idxOf h)) (fun i hi=>by
   have:=hX i hi;rw[conv] at this;exact this)
  have e:gO m.length X= .lst (m.map fun h=>qD (X (m.idxOf h))):=by
   unfold gO;rw[Mw (fun h=>qD (X (m.idxOf h))) m];exact congrArg D.lst (List.map_congr_left fun j hj=>by rw[idx j (List.mem_range.mp hj)])
  rw[e];refine h _ a.1 a.2 fun g hg=>hsz _ ?_;exact List.idxOf_lt_length_of_mem hg
theorem zzx{n:Nat}(a b:List Rw):jz (n+2) (aG a) (aG b):=by
 unfold aG;simp only [jz];intro i x y h1 h2;rw[List.getElem?_map] at h1 h2;cases q1:a[i]? with
 | none=>rw[q1] at h1;cases h1
 | some u=>
  cases q2:b[i]? with
  | none=>rw[q2] at h2;cases h2
  | some v=>
   rw[q1] at h1;rw[q2] at h2;cases h1;cases h2;unfold jL;simp only [jz];intro j x y g1 g2
   match j with
   | 0=>simp at g1 g2;subst g1 g2;cases n<;>simp [jz]
   | 1=>simp at g1 g2;subst g1 g2;cases n<;>simp [jz]
   | 2=>simp at g1 g2;subst g1 g2;cases n<;>simp [jz]
   | j+3=>simp at g1
theorem z2a(ms:List (List Str)):toD (.lst ((ms.map gl).map .leaf))= .lst (ms.map gl):=by unfold toD;rw[DG]
theorem rP.sys{rows:List Rw}{ms:List (List Str)}(G:rP rows ms)(u:Uq rows){m:List Str}(hm:m∈ms):(∀r∈rows,r.2.1∈m ->∀h∈kW rows r.1,h∈m)/\∀ws:List Str,ws.Nodup ->(∀w,w∈ws↔∃r∈ofM rows m,r.1=w) ->lN (ofM rows m) ws m:=by
 obtain⟨Ss,F,p⟩:=G.pi;have cl:∀r∈rows,r.2.1∈m ->∀h∈kW rows r.1,h∈m:=fun r hr hh h hk=>by
  obtain⟨S,hS,e⟩:=F.to r hr;obtain⟨f,hf,sub⟩:=p.sub S hS;have h1:r.2.1∈f:=sub _ ((e _).mpr (bH.mpr ⟨r,hr,rfl,rfl⟩));have h2:h∈f:=sub _ ((e _).mpr hk);rw[Dj p.dj hm hf hh h1];exact h2
 refine⟨cl,fun ws nw hw=>⟨u.M m,nw,fun r hr=>(hw _).mpr ⟨r,hr,rfl⟩,Bs (G.sr m hm),fun r hr=>(gb.mp hr).2,fun h hh=> ?_,fun C hC hx=> ?_⟩⟩
 ·obtain⟨S,hS,hs⟩:=(p.co h).mp ⟨m,hm,hh⟩;obtain⟨r,hr,e⟩:=F.of S hS;obtain⟨r',hr',_,e2⟩:=bH.mp ((e h).mp hs);exact⟨r',gb.mpr ⟨hr',by rw[e2];exact hh⟩,e2⟩
 ·have key:=p.min (fun x=>x∈m ->C x) (fun S hS hx y hy ym=> ?_) m hm (by
   obtain⟨x,h1,h2⟩:=hx;exact⟨x,h1,fun _=>h2⟩)
  ·exact fun x hx=>key x hx hx
  ·obtain⟨r,hr,e⟩:=F.of S hS;obtain⟨f,hf,sub⟩:=p.sub S hS;have fm:m=f:=Dj p.dj hm hf ym (sub y hy);have inm:∀z∈S,z∈m:=fun z hz=>by rw[fm];exact sub z hz
   have same:∀z,z∈S↔z∈kW (ofM rows m) r.1:=fun z=>by
    rw[fO];constructor
    ·intro hz;obtain⟨r',h1,h2,h3⟩:=bH.mp ((e z).mp hz);exact⟨r',gb.mpr ⟨h1,by rw[h3];exact inm z hz⟩,h2,h3⟩
    ·rintro⟨r',h1,h2,h3⟩;exact(e z).mpr (bH.mpr ⟨r',(gb.mp h1).1,h2,h3⟩)
   obtain⟨x,hx1,hx2⟩:=hx;obtain⟨r',h1,h2,h3⟩:=fO.mp ((same x).mp hx1);exact hC r.1 ((hw _).mpr ⟨r',h1,h2⟩) ⟨x,(same x).mp hx1,hx2 (inm x hx1)⟩ y ((same y).mp hy)
theorem z5c{rows:List Rw}{m:List Str}{w:Str}:bZ (ofM rows m) w=(bZ rows w).filter fun r=>decide (r.2.1∈m):=by
 unfold bZ ofM;rw[List.filter_filter,List.filter_filter];exact List.filter_congr fun r _=>Bool.and_comm _ _
theorem z21{rows:List Rw}{m:List Str}{w:Str}(h:∀x∈kW rows w,x∈m):bZ (ofM rows m) w=bZ rows w:=by
 rw[z5c];refine List.filter_eq_self.mpr fun r hr=>decide_eq_true (h _ ?_);exact fO.mpr ⟨r,(aR.mp hr).1,(aR.mp hr).2,rfl⟩
theorem z7h{rows:List Rw}{m:List Str}{h:Str}(hm:h∈m):jm (ofM rows m) h=jm rows h:=by
 unfold jm ofM;rw[List.filter_filter];refine List.filter_congr fun r _=> ?_;by_cases q:r.2.1=h
 ·simp [q,hm]
 ·simp [q]
theorem z63{rows:List Rw}{m:List Str}{x:Str ->Rat}(cl:∀r∈rows,r.2.1∈m ->∀h∈kW rows r.1,h∈m){h:Str}(hm:h∈m)(e:qe (ofM rows m) x h):qe rows x h:=by
 unfold qe at e⊢;rw[z7h hm] at e;rw[<- e];refine gB fun r hr=> ?_;have hr' :=dD.mp hr;rw[z21 (cl r hr'.1 (by rw[hr'.2];exact hm))]
theorem zya{rows:List Rw}{x y:Str ->Rat}{h:Str}(e:∀r∈jm rows h,∀s∈bZ rows r.1,x s.2.1=y s.2.1)(q:qe rows x h):qe rows y h:=by
 unfold qe at q⊢;rw[<- q];refine gB fun r hr=> ?_;have hr' :=dD.mp hr;have e1:=e r hr r (aR.mpr ⟨hr'.1,rfl⟩);rw[e1];have e2:ao (bZ rows r.1) (fun s=>(s.2.2:Rat) - y s.2.1)=ao (bZ rows r.1) fun s=>(s.2.2:Rat) - x s.2.1:=gB fun s hs=>by rw[e r hr s hs]
 rw[e2]
theorem LB.M{rows:List Rw}(L:LB rows)(m:List Str):LB (ofM rows m):=by
 refine⟨zN (List.length_filter_le _ _) L.few,fun r hr=>L.mm r (gb.mp hr).1,fun w=> ?_⟩;rw[z5c];exact zN (List.length_filter_le _ _) (L.wk w)
theorem z4l{rows:List Rw}{ws:List Str}{ps:List (List Str×List D)}(B:Bp rows ws ps)(u:Uq rows):ps=ws.map fun w=>(kW rows w,(bZ rows w).map fun r=> .int r.2.2):=by
 apply List.ext_getElem
 ·rw[List.length_map];exact B.len.symm
 ·intro i h1 h2;have hw:i<ws.length:=by rw[B.len];exact h1
  rw[List.getElem_map];exact B.ex u i ws[i] ps[i] (zX hw) (zX h1)
theorem z18(p:List Str×List D):toD (qT p)= .dic (p.1.map .inr) p.2:=by
 unfold qT toD;rw[DG]
structure Gm (rows:List Rw) (m:List Str) (x:Str ->Rat):Prop where
 ev:∀h∈m,qe rows x h
 em:LK rows x m
 sz:∀h∈m,Sz 8500 (x h)
theorem Gm.congr{rows:List Rw}{m:List Str}{x y:Str ->Rat}(cl:∀r∈rows,r.2.1∈m ->∀h∈kW rows r.1,h∈m)(g:Gm rows m x)(e:∀h∈m,x h=y h):Gm rows m y:=by
 refine⟨fun h hh=>zya (fun r hr s hs=>e _ ?_) (g.ev h hh),?_,fun h hh=>by rw[<- e h hh];exact g.sz h hh⟩
 ·have hr' :=dD.mp hr;have hs' :=aR.mp hs;exact cl r hr'.1 (by rw[hr'.2];exact hh) _ (fO.mpr ⟨s,hs'.1,hs'.2,rfl⟩)
 ·have:=g.em;unfold LK at this⊢;rw[<- this];exact gB fun r hr=>(e _ (gb.mp hr).2).symm
theorem ztk{hs:List Str}{x y:Str ->Rat}(e:∀h∈hs,x h=y h):gP hs x=gP hs y:=by
 unfold gP;rw[List.map_congr_left (g:=fun h=>qD (y h)) fun h hh=>by rw[e h hh]]
theorem zz1{hs:List Str}{h:Str}{x:Str ->Rat}(n:h∉hs):T.dic (eE (hs.map .inr) (.inr h)) ((cA (hs.map .inr) (hs.map fun h=>qD (x h)) (.inr h) (qD (x h))).map .leaf)=gP (hs++ [h]) x:=by
 rw[Vh];unfold fX cA gP;rw[if_neg n,xY,decide_eq_false n,if_neg Bool.false_ne_true];simp
theorem DN{α:Type}{l:List α}{i:Nat}(h:i<l.length):l.take (i+1)=l.take i++ [l[i]]:=by rw[List.take_add_one,List.getElem?_eq_getElem h];rfl
theorem rP.hand{rows:List Rw}{ms:List (List Str)}(G:rP rows ms){m:List Str}(hm:m∈ms){x:Str}(hx:x∈m):∃r∈rows,r.2.1=x:=by
 obtain⟨Ss,F,p⟩:=G.pi;obtain⟨S,hS,hs⟩:=(p.co x).mp ⟨m,hm,hx⟩;obtain⟨r,hr,e⟩:=F.of S hS;obtain⟨r',hr',_,e2⟩:=bH.mp ((e x).mp hs);exact⟨r',hr',e2⟩
theorem ztb{K:W.Frag}{c:Cls}{ds Q Ex}(h:Jb c ds Q Ex):zi9 K c (uD Q) (aJ 6 ds) fun _=>Ex:=by
 obtain⟨rows,U,rfl,u,L,hU,hr,h⟩:=h;have s1:=v9;have few:=L.few;intro as;show zgx K c (uD Q) [.pu (aG rows),.tr as (.dic [] []),.no,.no,.no,.no] fun _=>Ex;refine⟨rows,U,rfl,by omega,by omega,hr,fun ms G=> ?_⟩
 simp only [z2a];obtain⟨Ss,F,p⟩:=G.pi;have nd:ms.flatten.Nodup:=Ln p.dj fun f hf=>Bs (G.sr f hf);refine⟨fun i Γ=>∃(as:List Addr) (x:Str ->Rat) (y2 y3 y4 y5:Slot),(∀m∈ms.take i,Gm rows m x)/\Γ= [.pu (aG rows),.tr as (gP (ms.take i).flatten x),y2,y3,y4,y5],⟨as,fun _=>0,_,_,_,_,fun m hm=>by simp at hm,rfl⟩,?_,?_⟩
 ·rintro i d _ hi ⟨as,x,y2,y3,y4,y5,hg,rfl⟩;have hi' :i<ms.length:=by
   have:=(zU.mp hi).1
   rwa [List.length_map] at this
  rw[List.getElem?_map,List.getElem?_eq_getElem hi'] at hi;cases hi;have hm:ms[i]∈ms:=yX hi';have apart:∀h∈ms[i],h∉ (ms.take i).flatten:=fun h hh z=>by
   have:=nd;rw[<- List.take_append_drop i ms,List.flatten_append,List.nodup_append] at this;refine this.2.2 h z h ?_ rfl;refine List.mem_flatten.mpr ⟨ms[i],?_,hh⟩;rw[List.drop_eq_getElem_cons hi'];exact zW
  have cl:=(G.sys u hm).1;have tk:ms.take (i+1)=ms.take i++ [ms[i]]:=DN hi';have fl:(ms.take (i+1)).flatten=(ms.take i).flatten++ms[i]:=by rw[tk,List.flatten_append];simp
  generalize em:ms[i]=m at*;have sub:∀z∈m,z∈U:=fun z hz=>by
   obtain⟨r,h1,h2⟩:=G.hand hm hz;rw[<- h2];exact hr r h1
  have ndm:m.Nodup:=Bs (G.sr m hm);have Vv:m.length<=12:=zN (xP ndm sub) hU;show zf1 K c _ [.pu (aG rows),.tr as (gP (ms.take i).flatten x),.pu (gl m),y3,y4,y5] _;show aX _ (rows.map jL) _;refine xX jL jL (fun r=>decide (r.2.1∈m)) (fun r hr P hp=> ?_) ?_
  ·refine⟨.str r.2.1,vI (j:=1) rfl,rfl,Mp m,?_⟩;show if (if false then _ else inD (.str r.2.1) (m.map .str))=true then _ else _;rw[Jl];by_cases q:r.2.1∈m
   ·rw[decide_eq_true q] at hp⊢;exact hp
   ·rw[decide_eq_false q] at hp⊢;exact hp
  refine⟨ofM rows m,rfl,zN (List.length_filter_le _ _) (by omega),fun ws ps B=> ?_⟩
  have ep:=z4l B (u.M m);have ex:fC (ps.map qT)=ws.map (vm (ofM rows m)):=by
   rw[Ms,ep,List.map_map];exact List.map_congr_left fun w _=>z18 _
  refine⟨ws.map .inr,fC (ps.map qT),by simp only [toD];rfl,?_⟩
  rw[ex];have W:pA (ofM rows m) ws:=⟨zN B.lw (L.M m).few,fun w hw z=>by
   obtain⟨r,h1,h2⟩:=(B.wm w).mp hw;have:=aR.mpr ⟨h1,h2⟩;rw[z] at this;cases this⟩
  show zes K c _ [.pu (aG rows),.tr as (gP (ms.take i).flatten x),.pu (gl m),.pu (kE (ofM rows m) ws),y4,y5] _;refine⟨ofM rows m,ws,m,rfl,(G.sys u hm).2 ws B.nd B.wm,L.M m,W,p.ne m hm,Vv,fun xm ev sm sz=> ?_⟩
  let x' :Str ->Rat:=fun z=>if z∈m then xm z else x z
  have ex1:∀z∈m,x' z=xm z:=fun z hz=>if_pos hz;have ex0:∀z∈ (ms.take i).flatten,x' z=x z:=fun z hz=>if_neg fun q=>apart z q hz;have gm:Gm rows m x' :=Gm.congr cl ⟨fun z hz=>z63 cl hz (ev z hz),sm,sz⟩ fun z hz=>(ex1 z hz).symm;have gms:∀f∈ms.take (i+1),Gm rows f x' :=fun f hf=>by
   rw[tk] at hf;rcases zR.mp hf with hf | hf
   ·exact Gm.congr (G.sys u (List.mem_of_mem_take hf)).1 (hg f hf) fun z hz=>(ex0 z (List.mem_flatten.mpr ⟨f,hf,hz⟩)).symm
   ·rw[List.mem_singleton.mp hf];exact gm
  have ez:kj (m.map D.str) (m.map fun h=>qD (xm h))=m.map fun h=> .tup [.str h,qD (x' h)]:=by
   unfold kj;apply List.ext_getElem
   ·simp
   ·intro j h1 h2;simp only [List.getElem_zipWith,List.getElem_map];rw[ex1 _ (List.getElem_mem _)]
  show mR (kj (m.map D.str) (m.map fun h=>qD (xm h))) (iV 2 (aW (hName 4) (aW (hName 5) iT))) (zfu K c) _ _ [.pu (aG rows),.tr as (gP (ms.take i).flatten x),.pu (gl m),.pu (kE (ofM rows m) ws),y4,y5];rw[ez];have fll:(ms.take i).flatten.length+m.length<=1000:=by
   have h1:((ms.take (i+1)).flatten).Nodup:=by
    rw[<- List.take_append_drop (i+1) ms,List.flatten_append,List.nodup_append] at nd;exact nd.1
   have:=xP h1 (U:=U) fun z hz=>by
    obtain⟨f,hf,hzf⟩:=List.mem_flatten.mp hz;obtain⟨r,g1,g2⟩:=G.hand (List.mem_of_mem_take hf) hzf;rw[<- g2];exact hr r g1
   rw[fl,List.length_append] at this;omega
  refine⟨fun j Γ=>∃(as:List Addr) (y4 y5:Slot),Γ= [.pu (aG rows),.tr as (gP ((ms.take i).flatten++m.take j) x'),.pu (gl m),.pu (kE (ofM rows m) ws),y4,y5],⟨as,y4,y5,?_⟩,?_,?_⟩
  ·rw[List.take_zero,List.append_nil,ztk fun z hz=>ex0 z hz]
  ·rintro j d _ hj ⟨as,z4,z5,rfl⟩;have hj' :j<m.length:=by
    have:=(zU.mp hj).1
    rwa [List.length_map] at this
   rw[List.getElem?_map,List.getElem?_eq_getElem hj'] at hj;cases hj;have nn:m[j]∉ (ms.take i).flatten++m.take j:=fun z=>by
    rcases zR.mp z with z | z
    ·exact apart _ (yX hj') z
    ·have key:=List.pairwise_iff_getElem.mp ndm;obtain⟨q,hq,e⟩:=List.mem_iff_getElem.mp z;rw[List.length_take] at hq;rw[List.getElem_take] at e;exact key q j (by omega) hj' (by omega) e
   refine⟨rfl,rfl,⟨as,_,rfl⟩,.inr m[j],as,_,((ms.take i).flatten++m.take j).map fun h=>qD (x' h),rfl,rfl,?_,?_⟩
   ·rw[List.length_map,List.length_append,List.length_take];omega
   ·refine⟨as,.pu (.str m[j]),.pu (qD (x' m[j])),?_⟩;show [Slot.pu (aG rows),Slot.tr as (T.dic (eE (((ms.take i).flatten++m.take j).map .inr) (.inr m[j])) ((cA (((ms.take i).flatten++m.take j).map .inr) (((ms.take i).flatten++m.take j).map fun h=>qD (x' h)) (.inr m[j]) (qD (x' m[j]))).map .leaf)),_,_,_,_]=_;rw[zz1 nn,List.append_assoc,<- DN hj']
  ·rintro _ ⟨as,z4,z5,rfl⟩;rw[List.length_map,List.take_length,<- fl];exact⟨as,x',_,_,_,_,gms,rfl⟩
 ·rintro _ ⟨as,x,y2,y3,y4,y5,hg,rfl⟩;rw[List.length_map,List.take_length] at hg⊢;exact h ms x ⟨G,fun m hm=>(hg m hm).ev,fun m hm=>(hg m hm).em,fun m hm=>(hg m hm).sz⟩
theorem z4c{n:Nat}(a b:List Str):jz (n+1) (gl a) (gl b):=by
 unfold gl;simp only [jz];intro i x y h1 h2;rw[List.getElem?_map] at h1 h2;cases q1:a[i]? with
 | none=>rw[q1] at h1;cases h1
 | some u=>
  cases q2:b[i]? with
  | none=>rw[q2] at h2;cases h2
  | some v=>rw[q1] at h1;rw[q2] at h2;cases h1;cases h2;cases n<;>simp [jz]
theorem zq7(xs:List Str):dY (gl xs) (.lst [])=xs.isEmpty:=by
 unfold gl;cases xs with
 | nil=>rfl
 | cons x xs=>simp [dY,dG]
theorem zpg{g one:List Str}:(g.filter fun x=>decide (x∈one)).isEmpty= !aH g one:=by
 cases q:aH g one with
 | true=>
  obtain⟨x,h1,h2⟩:=cH.mp q;have:x∈g.filter fun x=>decide (x∈one):=zB.mpr ⟨h1,decide_eq_true h2⟩;cases z:g.filter fun x=>decide (x∈one) with
  | nil=>rw[z] at this;cases this
  | cons _ _=>rfl
 | false=>
  have:(g.filter fun x=>decide (x∈one))= []:=List.filter_eq_nil_iff.mpr fun x hx z=>by
   rw[cH.mpr ⟨x,hx,of_decide_eq_true z⟩] at q;cases q
  rw[this];rfl
theorem zwk{g one:List Str}{P:List D ->Prop}{ti:jT}(h:P ((g.filter fun x=>decide (x∈one)).map .str)):aX (p8 (hName 0) (cT (cB (tR false) (cV 0) (cV 1))) (cV 0) [.no,.pu (gl one)]) (g.map D.str) P:=by
 refine xX D.str D.str (fun x=>decide (x∈one)) (fun x hx P hp=> ?_) h;refine⟨rfl,Mp one,?_⟩;show if (if false then _ else inD (.str x) (one.map .str))=true then P [.str x] else P [];rw[Jl];by_cases q:x∈one
 ·rw[decide_eq_true q,if_pos rfl] at hp;simpa [q] using hp
 ·rw[decide_eq_false q,if_neg (by decide)] at hp;simpa [q] using hp
theorem zpd{one:D ->(List D ->Prop) ->Prop}:∀{fs:List (List Str)} {P:List D ->Prop},(∀f∈fs,∀P:List D ->Prop,(∀ms:List Str,ms.Pairwise (fun a b=>gD a b=true) ->(∀x,x∈f↔x∈ms) ->P [gl ms]) ->one (gl f) P) ->
  (∀gs,Alike fs gs ->(∀g∈gs,g.Pairwise fun a b=>gD a b=true) ->P (gs.map gl)) ->aX one (fs.map gl) P
 | [],_,_,h=>h [] .nil fun _ z=>by cases z
 | f::fs,P,k,h=>k f zW _ fun ms s1 s2=>zpd (fun g hg=>k g (zV _ hg)) fun gs al sr=>h (ms::gs) (.cons s2 al) fun g hg=>by
   rcases zT.mp hg with rfl | hg
   ·exact s1
   ·exact sr g hg
theorem zoe{fs:List (List Str)}{S:List Str}(d:fs.Pairwise fun a b=>∀x∈a,x∉b){gs:List (List Str)}(hg:∀g∈gs,g∈fs/\aH g S=true){f:List Str}(hf:f∈fs):aH f (S++gs.flatten)=aH f S:=by
 cases q:aH f S with
 | true=>
  obtain⟨x,h1,h2⟩:=cH.mp q;exact cH.mpr ⟨x,h1,zO _ h2⟩
 | false=>
  cases z:aH f (S++gs.flatten) with
  | false=>rfl
  | true=>
   obtain⟨x,h1,h2⟩:=cH.mp z;rcases zR.mp h2 with h2 | h2
   ·rw[cH.mpr ⟨x,h1,h2⟩] at q;cases q
   ·obtain⟨g,hg',xg⟩:=List.mem_flatten.mp h2;obtain⟨g1,g2⟩:=hg g hg';have:=Dj d hf g1 h1 xg;subst this;rw[g2] at q;cases q
theorem zlc{p:List Str ->Bool}:∀fs:List (List Str),(fs.filter p).flatten.length+ (fs.filter fun f=> !p f).flatten.length=fs.flatten.length
 | []=>by simp
 | f::fs=>by
  have:=zlc (p:=p) fs;rw[List.filter_cons,List.filter_cons];cases q:p f<;>simp only [Bool.not_true,Bool.not_false,Bool.false_eq_true,if_true,if_false,List.flatten_cons,List.length_append]<;>omega
theorem znl{K:W.Frag}{c:Cls}{ds Q Ex}(h:Jc c ds Q Ex):zgj K c (fin Q) (aJ 7 ds) fun _=>Ex:=by
 obtain⟨rows,U,m,rfl,hU,hu,hm,hl,h⟩:=h;have line:(10000:Nat)<=sizeLine:=by decide
 refine⟨Nat.zero_le _,?_⟩;have few:∀i,∀S∈ (rows.take i).map (fun r=>r.2.1::bT rows r.1),∀x∈S,x∈U:=fun i S hS x hx=>by
  obtain⟨r,hr,rfl⟩:=zE.mp hS;rcases zT.mp hx with rfl | hx
  ·exact hu r (List.mem_of_mem_take hr)
  ·obtain⟨r',h1,_,h3⟩:=bH.mp hx;exact h3 ▸ hu r' h1
 refine⟨fun i Γ=>∃fs x1 x2 x3 x4 x5,eN ((rows.take i).map fun r=>r.2.1::bT rows r.1) fs/\fs.flatten.length<=i* (1+m)/\Γ= [.pu (aG rows),.pu (.lst (fs.map gl)),x1,x2,x3,x4,x5],⟨[],_,_,_,_,_,by simpa using eN.nil,by simp,rfl⟩,?_,?_⟩
 ·rintro i d _ hi ⟨fs,x1,x2,x3,x4,x5,p,hfl,rfl⟩;have hi' :i<rows.length:=by
   have:=(zU.mp hi).1
   rwa [List.length_map] at this
  rw[List.getElem?_map,List.getElem?_eq_getElem hi'] at hi;cases hi;have tk:rows.take (i+1)=rows.take i++ [rows[i]]:=by rw[List.take_add_one,List.getElem?_eq_getElem hi'];rfl
  have hml:=hm rows[i].1;have hb:i* (1+m)+ (1+m)<4000:=by
   have h1:(i+1)* (1+m)<=rows.length* (1+m):=Nat.mul_le_mul_right _ hi';rw[Nat.succ_mul] at h1;omega
  have l3:=Jo p.ne;refine⟨rfl,rfl,by show(1:Nat)<=sizeLine;omega,?_⟩
  show aX _ (rows.map jL) _;refine xX jL (fun r=> .str r.2.1) (fun r=>decide (r.1=rows[i].1)) (fun r hr P hp=> ?_) ?_
  ·refine⟨rfl,rfl,by simp [jz],?_⟩
   show if dY (.str r.1) (.str rows[i].1)=true then P [.str r.2.1] else P [];rw[zu6];by_cases q:r.1=rows[i].1
   ·rw[decide_eq_true q,if_pos rfl] at hp⊢;exact hp
   ·rw[decide_eq_false q,if_neg (by decide)] at hp⊢;exact hp
  ·have e0:(rows.filter fun r=>decide (r.1=rows[i].1)).map (fun r=>D.str r.2.1)=(bT rows rows[i].1).map .str:=by unfold bT;rw[List.map_map];rfl
   rw[e0];refine⟨by show 1+ ((bT rows rows[i].1).map D.str).length<=sizeLine;rw[List.length_map];omega,?_⟩
   let S:=rows[i].2.1::bT rows rows[i].1
   have hS:S.length<=1+m:=by show(bT rows rows[i].1).length+1<=_;omega
   have gsm:∀j,∀g∈ (fs.take j).filter (fun f=>aH f S),g∈fs/\aH g S=true:=fun j g hg=>by
    obtain⟨h1,h2⟩:=zB.mp hg;exact⟨List.mem_of_mem_take h1,h2⟩
   refine⟨fun j Γ=>∃x,Γ= [.pu (aG rows),.pu (.lst (fs.map gl)),.pu (.str rows[i].1),.pu (.str rows[i].2.1),.pu (.int rows[i].2.2),.pu (gl (S++ ((fs.take j).filter fun f=>aH f S).flatten)),x],⟨_,by simp [S,gl];rfl⟩,?_,?_⟩
   ·rintro j d _ hj ⟨x,rfl⟩;have hj' :j<fs.length:=by
     have:=(zU.mp hj).1
     rwa [List.length_map] at this
    rw[List.getElem?_map,List.getElem?_eq_getElem hj'] at hj;cases hj;have tj:fs.take (j+1)=fs.take j++ [fs[j]]:=by rw[List.take_add_one,List.getElem?_eq_getElem hj'];rfl
    show aX (p8 (hName 0) (cT (cB (tR false) (cV 0) (cV 1))) (cV 0) [.no,.pu (gl (S++ ((fs.take j).filter fun f=>aH f S).flatten))]) (fs[j].map D.str) _;refine zwk (ti:=hName 0) ⟨Nat.zero_le _,Ve _,?_⟩;show if (!dY (gl (fs[j].filter fun x=>decide (x∈S++ ((fs.take j).filter fun f=>aH f S).flatten))) (.lst []))=true then _ else _;rw[zq7,zpg,Bool.not_not,zoe p.dj (gsm j) (List.getElem_mem hj')];by_cases q:aH fs[j] S=true
    ·rw[if_pos q];have h1:=Mr (p:=fun f=>aH f S) (fs.take j);have h2:=zh7 fs (j+1);rw[tj,List.flatten_append,List.length_append] at h2;simp only [List.flatten_cons,List.flatten_nil,List.append_nil] at h2;refine⟨?_,.pu (gl fs[j]),?_⟩
     ·show((S++_).map D.str).length+ (fs[j].map D.str).length<=sizeLine;rw[List.length_map,List.length_append,List.length_map];omega
     ·rw[tj,List.filter_append,List.flatten_append];simp only [List.filter_cons,q,if_true,List.filter_nil,List.flatten_cons,List.flatten_nil,List.append_nil];unfold gl;rw[<- List.append_assoc,List.map_append (l₂:=fs[j])]
      rfl
    ·rw[if_neg q];refine⟨.pu (gl fs[j]),?_⟩;rw[tj,List.filter_append,List.flatten_append];simp only [List.filter_cons,q,Bool.false_eq_true,if_false,List.filter_nil,List.flatten_nil,List.append_nil]
     rfl
   ·rintro _ ⟨x,rfl⟩;have e:fs.take (fs.map gl).length=fs:=by rw[List.length_map,List.take_length]
    rw[e];have gsf:=gsm fs.length;rw[List.take_length] at gsf;dsimp only;unfold zdc;show aX _ (fs.map gl) _;refine xX gl gl (fun f=> !aH f S) (fun f hf P hp=> ?_) ?_
    ·show aX (p8 (hName 0) (cT (cB (tR false) (cV 0) (cV 1))) (cV 0) [.no,.pu (gl (S++ (fs.filter fun f=>aH f S).flatten))]) (f.map D.str) _;refine zwk (ti:=hName 0) ⟨Nat.zero_le _,Ve _,?_⟩;show if dY (gl (f.filter fun x=>decide (x∈S++ (fs.filter fun f=>aH f S).flatten))) (.lst [])=true then P [gl f] else P [];rw[zq7,zpg,zoe p.dj gsf hf];exact(by
      by_cases q:(!aH f S)=true
      ·rw[if_pos q] at hp⊢;exact hp
      ·rw[if_neg q] at hp⊢;exact hp)
    ·have hlf:=List.length_filter_le (fun f=> !aH f S) fs;refine⟨by show(1:Nat)<=sizeLine;omega,by show((fs.filter fun f=> !aH f S).map gl).length+1<=sizeLine;rw[List.length_map];omega,?_⟩
     refine⟨fs.filter (fun f=> !aH f S)++ [S++ (fs.filter fun f=>aH f S).flatten],_,_,_,_,_,?_,?_,by rw[List.map_append];rfl⟩
     ·rw[tk,List.map_append];refine p.step (S:=S) (List.cons_ne_nil _ _) fun x=> ?_;rw[List.mem_append,List.mem_flatten];constructor
      ·rintro(a | ⟨f,hf,a⟩)
       ·exact .inl a
       ·obtain⟨h1,h2⟩:=zB.mp hf;exact .inr ⟨f,h1,h2,a⟩
      ·rintro(a | ⟨f,h1,h2,a⟩)
       ·exact .inl a
       ·exact .inr ⟨f,zB.mpr ⟨h1,h2⟩,a⟩
     ·have:=zlc (p:=fun f=>aH f S) fs;rw[List.flatten_append,List.length_append];simp only [List.flatten_cons,List.flatten_nil,List.append_nil,List.length_append];rw[Nat.succ_mul];omega
 ·rintro _ ⟨fs,x1,x2,x3,x4,x5,p,hfl,rfl⟩;have e:rows.take (rows.map jL).length=rows:=by rw[List.length_map,List.take_length]
  rw[e] at p;rw[List.length_map] at hfl;have uE :=few rows.length;rw[List.take_length] at uE;show aX _ (fs.map gl) _;refine zpd (fun f hf P hp=> ?_) fun gs al sr=> ?_
  ·refine(show xq [gl f] fun es=>P [.lst es] from Vk (U:=U) ?_ hU (Vn p uE f hf) fun ms s1 s2=>hp ms s1 fun x=>(s2 x).symm);have:f.length<=fs.flatten.length:=by
    obtain⟨a,b,rfl⟩:=List.append_of_mem hf;simp only [List.flatten_append,List.flatten_cons,List.length_append];omega
   omega
  ·have p' :=p.alike al;have l2:=Vo p' (fun f hf=>Bs (sr f hf)) uE;have l3:=Jo p'.ne;refine⟨gs,rfl,p'.ne,Vm p'.ne p'.dj,by omega,fun ms pm up=>h ms ⟨fun m hm=>sr m (pm.mem_iff.mp hm),up,_,⟨fun S hS=> ?_,fun r hr=> ?_⟩,p'.perm pm⟩⟩
   ·obtain⟨r,hr,rfl⟩:=zE.mp hS;refine⟨r,hr,fun x=>⟨fun hx=> ?_,fun hx=>zV _ hx⟩⟩;rcases zT.mp hx with rfl | hx
    ·exact bH.mpr ⟨r,hr,rfl,rfl⟩
    ·exact hx
   ·refine⟨_,zE.mpr ⟨r,hr,rfl⟩,fun x=>⟨fun hx=> ?_,fun hx=>zV _ hx⟩⟩;rcases zT.mp hx with rfl | hx
    ·exact bH.mpr ⟨r,hr,rfl,rfl⟩
    ·exact hx
theorem oE{n:Nat}(i j:Int):jz n (.int i) (.int j):=by cases n<;>simp [jz]
theorem znz{K:W.Frag}{c:Cls}{ds Q Ex}(h:Jd c ds Q Ex):Mf K c (fin Q) (aJ 5 ds) fun _=>Ex:=by
 obtain⟨a,b,d,e,n,rfl,he,h⟩:=h;show Mf K c (fin Q) [.pu (.int a),.pu (.int b),.pu (.int d),.pu (.int e),.pu (.int n)] fun _=>Ex;unfold Mf
 and_intros
 refine⟨oE _ _,?_⟩;split
 ·exact⟨by decide,h _⟩
 ·unfold zev
  and_intros
  refine⟨oE _ _,?_⟩;split
  ·refine⟨he,oE _ _,?_⟩;cases dY (.int d) (.int (b.fmod e)) with
   | true=>exact h true
   | false=>exact⟨he,oE _ _,h _⟩
  ·unfold ze3
   and_intros
   refine⟨oE _ _,?_⟩;split
   ·refine⟨by decide,by decide,oE _ _,?_⟩
    cases dY (.int (b.fmod 2)) (.int (d.fmod 2)) with
    | true=>exact⟨by decide,h _⟩
    | false=>exact h false
   ·exact h true
theorem yd:(Str.ofString "abcdefghijklmnopqrstuvwxyz").cps.toList= [97,98,99,100,101,102,103,104,105,106,107,108,109,110,111,112,113,114,115,116,117,118,119,120,121,122]:=by decide+kernel
theorem Bu:(Str.ofString "abcdefghijklmnopqrstuvwxyz").length=26:=by
 show(Str.ofString "abcdefghijklmnopqrstuvwxyz").cps.size=26;rw[<- Array.length_toList,yd];rfl
def vA(b:Bool):Int:=if b then 1 else 0
theorem lO{i:Int}{k:Nat}(h:i.natAbs<2^k)(hk:k<=9000:=by decide):bN i<=9000:=zN (iD h) hk
theorem z26(rs:List Rw){k:Nat}(h:k<=rs.length):cutD (rs.map jL) (some (k:Int)) none=(rs.drop k).map jL:=by
 unfold cutD HT.sIx;simp only [List.length_map];rw[if_neg (by omega),Int.toNat_natCast,Nat.min_eq_left h,<- List.map_drop,<- List.map_take,List.take_of_length_le (by rw[List.length_drop];omega)]
theorem z25(rs:List Rw){k:Nat}(h:k<=rs.length):cutD (rs.map jL) none (some (k:Int))=(rs.take k).map jL:=by
 unfold cutD HT.sIx;simp only [List.length_map];rw[if_neg (by omega),Int.toNat_natCast,Nat.min_eq_left h,List.drop_zero,Nat.sub_zero,<- List.map_take]
theorem DP{α:Type}{f:α ->D}{xs:List α}{k:Nat}(h:k<xs.length):jy (xs.map f) (k:Int)=some (f xs[k]):=vI (by rw[List.getElem?_map,List.getElem?_eq_getElem h];rfl)
theorem Js{k:Nat}(h:k<26):jy (Str.ofString "abcdefghijklmnopqrstuvwxyz").cps.toList (k:Int)=some (97+k):=by
 refine vI ?_;rw[yd];have:∀k:Fin 26,[97,98,99,100,101,102,103,104,105,106,107,108,109,110,111,112,113,114,115,116,117,118,119,120,121,122][k.1]?=some (97+k.1):=by decide
 exact this ⟨k,h⟩
theorem Jt{i:Int}(h:0<=i/\i<26):jy (Str.ofString "abcdefghijklmnopqrstuvwxyz").cps.toList i=some (97+i.toNat):=by
 have e:i=((i.toNat:Nat):Int):=by omega
 have:=Js (k:=i.toNat) (by omega)
 rw[<- e] at this;exact this
def txt(n:Nat)(f:Nat ->Nat):Str:=⟨((List.range n).map f).toArray⟩
theorem zx9(n:Nat)(f:Nat ->Nat):txt n f++ (⟨#[f n]⟩:Str)=txt (n+1) f:=by
 show(⟨((List.range n).map f).toArray++ #[f n]⟩:Str)=⟨((List.range (n+1)).map f).toArray⟩
 congr 1
 rw[List.range_succ,List.map_append];simp
theorem z3o{n m:Nat}{f g:Nat ->Nat}(h:txt n f=txt m g):n=m/\∀j,j<n ->f j=g j:=by
 have e:(List.range n).map f=(List.range m).map g:=by
  have:=congrArg (fun s:Str=>s.cps.toList) h
  simpa [txt] using this
 have l:n=m:=by simpa using congrArg List.length e
 subst l;refine⟨rfl,fun j hj=> ?_⟩;have:=congrArg (fun l=>l[j]?) e
 simpa [hj] using this
theorem z31(n:Nat)(f:Nat ->Nat):(txt n f).length=n:=by
 show((List.range n).map f).toArray.size=n;simp
theorem zu2{α:Type}{g:Nat ->α}{m:Nat}(h:∀i j,i<m ->j<m ->g i=g j ->i=j):((List.range m).map g).Nodup:=by
 refine Lz (R:=fun a b=>a≠b) List.nodup_range fun a ha b hb n e=>n (h a b (List.mem_range.mp ha) (List.mem_range.mp hb) e)
theorem zps{K:W.Frag}{c:Cls}{ds Q Ex}(h:Bq c ds Q Ex):Ma K c (fin Q) (aJ 10 ds) fun _=>Ex:=by
 obtain⟨n,m,rfl,hm,h⟩:=h;have line:(1000:Nat)<=sizeLine:=by decide
 let L:Str:=Str.ofString "abcdefghijklmnopqrstuvwxyz"
 have main:∀sz:Nat,1<=sz/\sz<=8 ->UJ K c (fin Q) [.pu (.int n),.pu (.int m),.pu (.str L),.pu (.int sz),.no,.no,.no,.no,.no,.no] fun _=>Ex:=by
  intro sz hsz;unfold UJ
  and_intros
  refine⟨⟨by decide,zN (iD (k:=5) (by decide)) (by decide)⟩,by omega,?_⟩
  obtain⟨at_,ea,hat⟩:=vp (i:=n.fdiv 24) (n:=sz) (by omega)
  rw[ea]
  let one:Bool:=decide (n.fmod 3=1)
  let num:Nat ->Int:=fun j=>(n.fdiv 24*48271+ (j:Int)* (j:Int)*69621+ (j:Int)*7).fmod 2147483647
  let f:Nat ->Nat ->Nat:=fun k j=>97+ ((num j+ (k:Int)*vA (decide ((j:Int)=(at_:Int))&& !one)).fmod 26).toNat
  let ln:Nat ->Nat:=fun k=>sz+k* (if one=true then 1 else 0)
  have Dg:∀k,k<20 ->ln k<=28:=fun k hk=>by
   show sz+k* (if one=true then 1 else 0)<=28;split<;>omega
  let nm:Nat ->Str:=fun k=>txt (ln k) (f k)
  have inj:∀i j,i<m ->j<m ->nm i=nm j ->i=j:=fun i j hi hj e=>by
   obtain⟨e1,e2⟩:=z3o e;have e1' :sz+i* (if one=true then 1 else 0)=sz+j* (if one=true then 1 else 0):=e1;by_cases o:one=true
   ·rw[if_pos o] at e1';omega
   ·have e3:=e2 at_ (by show at_<sz+_;omega)
    have e3' :97+ ((num at_+ (i:Int)*vA (decide ((at_:Int)=(at_:Int))&& !one)).fmod 26).toNat=97+ ((num at_+ (j:Int)*vA (decide ((at_:Int)=(at_:Int))&& !one)).fmod 26).toNat:=e3;rw[decide_eq_true rfl] at e3';have ob:one=false:=by simpa using o
    rw[ob] at e3';have l1:=Dy (i:=num at_+ (i:Int)*vA (true&& !false)) (m:=26) (by decide)
    have l2:=Dy (i:=num at_+ (j:Int)*vA (true&& !false)) (m:=26) (by decide)
    have b1:vA (true&& !false)=1:=rfl;rw[b1,Int.mul_one] at l1 l2;rw[b1,Int.mul_one,Int.mul_one] at e3';rw[Int.fmod_eq_emod_of_nonneg _ (by decide)] at e3' l1 l2
    rw[Int.fmod_eq_emod_of_nonneg _ (by decide)] at e3'
    omega
  unfold zfx
  and_intros
  refine⟨Nat.zero_le _,?_⟩;unfold zfq;refine⟨⟨by omega,by omega⟩,fun k Γ=>∃(x1 x2 x3 x4:Slot),Γ= [.pu (.int n),.pu (.int m),.pu (.str L),.pu (.int sz),.pu (.int at_),.ow (((List.range k).map nm).map .str),x1,x2,x3,x4],⟨_,_,_,_,rfl⟩,?_,?_⟩
  ·rintro k _ hk ⟨x1,x2,x3,x4,rfl⟩;have Vw:k<20:=by omega
   show UG K c _ [.pu (.int n),.pu (.int m),.pu (.str L),.pu (.int sz),.pu (.int at_),.ow (((List.range k).map nm).map .str),.pu (.int (0+ (k:Int))),x2,x3,x4] _;rw[Int.zero_add];unfold UG
   and_intros
   unfold zd0
   and_intros
   refine⟨by show(3:Int)≠0;decide,oE _ _,?_⟩
   and_intros
   rw[vo];have hb:(if decide (n.fmod 3=1)=true then(1:Int) else 0)=((if one=true then 1 else 0:Nat):Int):=by
    show(if one=true then(1:Int) else 0)=_;split<;>rfl
   rw[hb];refine⟨.inl (zN (iD (k:=5) (by omega)) (by decide)),?_⟩
   have hr:(sz:Int)+ (k:Int)* ((if one=true then 1 else 0:Nat):Int)=((ln k:Nat):Int):=by
    show _=((sz+k* (if one=true then 1 else 0):Nat):Int);rw[Int.natCast_add,Int.natCast_mul]
   rw[hr];have abG:=Dg k Vw;refine⟨⟨by omega,by omega⟩,fun j Γ=>∃x3 x4,Γ= [.pu (.int n),.pu (.int m),.pu (.str L),.pu (.int sz),.pu (.int at_),.ow (((List.range k).map nm).map .str),.pu (.int k),.pu (.str (txt j (f k))),x3,x4],⟨_,_,rfl⟩,?_,?_⟩
   ·rintro j _ hj ⟨y3,y4,rfl⟩;have abH:j<28:=by omega
    show Uz K c _ [.pu (.int n),.pu (.int m),.pu (.str L),.pu (.int sz),.pu (.int at_),.ow (((List.range k).map nm).map .str),.pu (.int k),.pu (.str (txt j (f k))),.pu (.int (0+ (j:Int))),y4] _;rw[Int.zero_add];have bj:bN (j:Int)<=64:=zN (iD (k:=5) (by omega)) (by decide)
    unfold Uz
    and_intros
    refine⟨⟨by decide,zN (iD (k:=5) (by decide)) (by decide)⟩,.inr (.inl (iD (by decide))),.inl bj,.inr (.inl (iD (by decide))),.inl bj,by decide,?_⟩
    show Uy K c _ [.pu (.int n),.pu (.int m),.pu (.str L),.pu (.int sz),.pu (.int at_),.ow (((List.range k).map nm).map .str),.pu (.int k),.pu (.str (txt j (f k))),.pu (.int j),.pu (.int (num j))] _;unfold Uy
    and_intros
    refine⟨oE _ _,?_⟩;have step:∀t:Bool,t=(decide ((j:Int)=(at_:Int))&& !one) ->lE (k:Int) (vA t)/\ (26:Int)≠0/\∃ch:Nat,L.length<=sizeLine/\jy L.cps.toList ((num j+ (k:Int)*vA t).fmod 26)=some ch/\ (txt j (f k)).length+ (⟨#[ch]⟩:Str).length<=sizeLine/\∃z3 z4,[Slot.pu (.int n),.pu (.int m),.pu (.str L),.pu (.int sz),.pu (.int at_),.ow (((List.range k).map nm).map .str),.pu (.int k),.pu (.str (txt j (f k)++ (⟨#[ch]⟩:Str))),.pu (.int j),.pu (.int (num j))]= [.pu (.int n),.pu (.int m),.pu (.str L),.pu (.int sz),.pu (.int at_),.ow (((List.range k).map nm).map .str),.pu (.int k),.pu (.str (txt (j+1) (f k))),z3,z4]:=fun t et=>by
     have hch:=Jt (Dy (i:=num j+ (k:Int)*vA t) (m:=26) (by decide))
     refine⟨.inl (zN (iD (k:=5) (by omega)) (by decide)),by decide,_,by rw[show L.length=26 from Bu];omega,hch,by rw[z31];show j+1<=sizeLine;omega,.pu (.int j),.pu (.int (num j)),?_⟩
     subst et;rw[show(97+ ((num j+ (k:Int)*vA (decide ((j:Int)=(at_:Int))&& !one)).fmod 26).toNat)=f k j from rfl,zx9]
    rw[vo];by_cases q:(j:Int)=(at_:Int)
    ·rw[decide_eq_true q];rw[decide_eq_true q] at step;refine⟨by decide,oE _ _,?_⟩
     rw[vo];exact step _ rfl
    ·rw[decide_eq_false q];rw[decide_eq_false q] at step;exact step false rfl
   ·rintro _ ⟨y3,y4,rfl⟩;rw[Int.toNat_natCast];refine⟨⟨_,rfl⟩,by rw[List.length_map,List.length_map,List.length_range];omega,.pu (.int k),.pu (.str (txt (ln k) (f k))),y3,y4,?_⟩
    rw[List.range_succ,List.map_append,List.map_append]
    rfl
  ·rintro _ ⟨x1,x2,x3,x4,rfl⟩;rw[Int.toNat_natCast];exact h _ (by simp) (zu2 inj)
 show Ma K c (fin Q) [.pu (.int n),.pu (.int m),.no,.no,.no,.no,.no,.no,.no,.no] fun _=>Ex;unfold Ma
 and_intros
 unfold zfp
 and_intros
 refine⟨⟨by decide,zN (iD (k:=2) (by decide)) (by decide)⟩,by decide,?_⟩
 obtain⟨t8,e8,h8⟩:=vp (i:=n.fdiv 3) (n:=8) (by decide)
 rw[show(n.fdiv 3).fmod 8=(t8:Int) from e8];unfold zfs
 and_intros
 refine⟨by decide,oE _ _,?_⟩
 split
 ·exact main 1 (by omega)
 ·have:=main (1+t8) (by omega)
  rw[Int.natCast_add] at this;exact this
theorem zxc{a b:List Rw}(p:a.Perm b)(u:Uq b):Uq a:=(List.Perm.pairwise_iff (R:=fun(a b:Rw)=>¬(a.1=b.1/\a.2.1=b.2.1)) (fun h z=>h ⟨z.1.symm,z.2.symm⟩) p).mpr u
theorem ztj{K:W.Frag}{c:Cls}{ds Q Ex}(h:Je c ds Q Ex):Mg K c (fin Q) (aJ 12 ds) fun _=>Ex:=by
 obtain⟨ns,hands,works,rfl,hl,h1,h5,h8,h⟩:=h;have line:(1000:Nat)<=sizeLine:=by decide
 let S:D:= .lst (ns.map .int)
 have main:∀(way most:Int),0<most ->most<=10^12 ->U0 K c (fin Q) [.pu S,.pu (.int hands),.pu (.int works),.pu (.int way),.pu (.int most),.no,.no,.no,.no,.no,.no,.no] fun _=>Ex:=by
  intro way most hm0 hm1;have Ju:most≠0:=by omega
  unfold U0
  and_intros
  refine⟨ns,4,rfl,hl,by omega,_,works,rfl,by omega,fun nms hnm nnd=> ?_⟩
  unfold zhb
  and_intros
  refine⟨ns,5,rfl,hl,by omega,_,hands,rfl,by omega,fun jB hpp Vx=> ?_⟩
  unfold zgu
  and_intros
  refine⟨Nat.zero_le _,?_⟩;unfold zgy;refine⟨⟨by omega,by omega⟩,fun w Γ=>∃(rows:List Rw) (x8 x9 x10:Slot),rows.length<=w*hands/\ (∀r∈rows,r.2.1∈jB)/\ (Uq rows/\ (∀r∈rows,r.2.2.natAbs<2^40)/\∀r∈rows,∃v,v<w/\nms[v]?=some r.1)/\Γ= [.pu S,.pu (.int hands),.pu (.int works),.pu (.int way),.pu (.int most),.pu (.lst (nms.map .str)),.pu (.lst (jB.map .str)),.ow (rows.map jL),x8,x9,x10,.no],⟨[],_,_,_,by simp,fun r hr=>by(cases hr),⟨List.Pairwise.nil,fun r hr=>by(cases hr),fun r hr=>by(cases hr)⟩,rfl⟩,?_,?_⟩
  ·rintro w _ hw ⟨rows,x8,x9,x10,hrl,yg,⟨uq,mk,wv⟩,rfl⟩;have hw8:w<works:=by omega
   have yc:w*hands<=8*5:=Nat.mul_le_mul (by omega) h5
   show UW K c _ [.pu S,.pu (.int hands),.pu (.int works),.pu (.int way),.pu (.int most),.pu (.lst (nms.map .str)),.pu (.lst (jB.map .str)),.ow (rows.map jL),.pu (.int (0+ (w:Int))),x9,x10,.no] _;rw[Int.zero_add];unfold UW;refine⟨⟨by omega,by omega⟩,fun q Γ=>∃(rows:List Rw) (x9 x10:Slot),rows.length<=w*hands+q/\ (∀r∈rows,r.2.1∈jB)/\ (Uq rows/\ (∀r∈rows,r.2.2.natAbs<2^40)/\∀r∈rows,∃v,nms[v]?=some r.1/\ (v<w\/v=w/\∃o,o<q/\jB[o]?=some r.2.1))/\Γ= [.pu S,.pu (.int hands),.pu (.int works),.pu (.int way),.pu (.int most),.pu (.lst (nms.map .str)),.pu (.lst (jB.map .str)),.ow (rows.map jL),.pu (.int (w:Int)),x9,x10,.no],⟨rows,_,_,hrl,yg,⟨uq,mk,fun r hr=>by obtain⟨v,h1,h2⟩:=wv r hr;exact⟨v,h2,.inl h1⟩⟩,rfl⟩,?_,?_⟩
   ·rintro q _ hq ⟨rows,x9,x10,hrl,yg,⟨uq,mk,wv⟩,rfl⟩;have uX:q<hands:=by omega
    show UL K c _ [.pu S,.pu (.int hands),.pu (.int works),.pu (.int way),.pu (.int most),.pu (.lst (nms.map .str)),.pu (.lst (jB.map .str)),.ow (rows.map jL),.pu (.int (w:Int)),.pu (.int (0+ (q:Int))),x10,.no] _;rw[Int.zero_add];unfold UL
    and_intros
    refine⟨.inl (zN (iD (k:=4) (by omega)) (by decide)),ns,6+w*hands+q,?_,hl,by omega,?_⟩
    ·rw[Int.natCast_add,Int.natCast_add,Int.natCast_mul];rfl
    generalize dX ns (6+w*hands+q)=cv;unfold zel
    and_intros
    refine⟨way,(w:Int),(q:Int),(hands:Int),cv,rfl,by omega,fun t=> ?_⟩
    cases t with
    | false=>exact⟨rows,_,_,by omega,yg,⟨uq,mk,fun r hr=>by obtain⟨v,h1,h2⟩:=wv r hr;exact⟨v,h1,h2.imp id fun⟨a,o,b,c⟩=>⟨a,o,by omega,c⟩⟩⟩,rfl⟩
    | true=>
     refine⟨⟨_,rfl⟩,_,DP (by omega),_,DP (by omega),⟨by decide,lO (k:=4) (by decide)⟩,Ju,?_⟩
     refine⟨by show(3:Nat)<=sizeLine;omega,by rw[List.length_map];omega,rows++ [(nms[w],jB[q],(cv.fdiv 12).fmod most)],_,_,by rw[List.length_append,List.length_singleton];omega,fun r hr=> ?_,⟨?_,fun r hr=> ?_,fun r hr=> ?_⟩,by rw[List.map_append];rfl⟩
     ·rcases zR.mp hr with hr | hr
      ·exact yg r hr
      ·rw[List.mem_singleton.mp hr];exact yX _
     ·refine List.pairwise_append.mpr ⟨uq,List.pairwise_singleton _ _,fun a ha b hb z=> ?_⟩;rw[List.mem_singleton.mp hb] at z;obtain⟨v,h1,h2⟩:=wv a ha;rw[z.1] at h1;obtain⟨hv,ev⟩:=zU.mp h1;have evw:v=w:=Jm nnd hv (by omega) ev
      rcases h2 with h2 | ⟨_,o,ho,h3⟩
      ·omega
      ·rw[z.2] at h3;obtain⟨hv',ev'⟩:=zU.mp h3;have:=Jm Vx hv' (by omega) ev'
       omega
     ·rcases zR.mp hr with hr | hr
      ·exact mk r hr
      ·rw[List.mem_singleton.mp hr];have l:=Dy (i:=cv.fdiv 12) (m:=most) hm0;show((cv.fdiv 12).fmod most).natAbs<2^40;omega
     ·rcases zR.mp hr with hr | hr
      ·obtain⟨v,h1,h2⟩:=wv r hr;exact⟨v,h1,h2.imp id fun⟨a,o,b,c⟩=>⟨a,o,by omega,c⟩⟩
      ·rw[List.mem_singleton.mp hr];exact⟨w,zX _,.inr ⟨rfl,q,by omega,zX _⟩⟩
   ·rintro _ ⟨rows,x9,x10,hrl,yg,⟨uq,mk,wv⟩,rfl⟩;refine⟨rows,_,_,_,?_,yg,⟨uq,mk,fun r hr=> ?_⟩,rfl⟩
    ·rw[Nat.succ_mul];omega
    ·obtain⟨v,h1,h2⟩:=wv r hr;exact⟨v,by rcases h2 with h2 | h2<;>omega,h1⟩
  ·rintro _ ⟨rows,x8,x9,x10,hrl,yg,⟨uq,mk,wv⟩,rfl⟩;have yc:works*hands<=8*5:=Nat.mul_le_mul h8 h5;have abI:rows.length<=40:=zN hrl (by simpa using yc)
   dsimp only;unfold zg0
   and_intros
   refine⟨ns,3,rfl,hl,by omega,⟨by decide,lO (k:=3) (by decide)⟩,trivial,?_,?_⟩
   ·rw[List.length_map];omega
   obtain⟨t,et,ht⟩:=vp (i:=(dX ns 3).fdiv 4) (n:=rows.length+1) (Nat.succ_pos _);rw[show(((rows.map jL).length:Nat):Int)+1=((rows.length+1:Nat):Int) by rw[List.length_map];rfl,et]
   unfold zhd
   and_intros
   rw[z26 rows (by omega),z25 rows (by omega)]
   refine⟨by rw[List.length_map,List.length_map,List.length_drop,List.length_take];omega,?_⟩
   rw[<- List.map_append];have pm:(rows.drop t++rows.take t).Perm rows:=by
    have:=List.perm_append_comm (l₁:=rows.drop t) (l₂:=rows.take t)
    rwa [List.take_append_drop] at this
   refine h (rows.drop t++rows.take t) jB (by rw[List.length_append,List.length_drop,List.length_take];omega) (by omega) (fun r hr=>yg r (pm.mem_iff.mp hr)) (zxc pm uq) fun r hr=>mk r (pm.mem_iff.mp hr)
 show Mg K c (fin Q) [.pu S,.pu (.int hands),.pu (.int works),.no,.no,.no,.no,.no,.no,.no,.no,.no] fun _=>Ex;unfold Mg
 and_intros
 refine⟨ns,2,rfl,hl,by omega,by decide,?_⟩
 unfold zg3
 and_intros
 refine⟨show yH 10 12 from ⟨by decide,by decide,by decide⟩,by show(4:Nat)<=sizeLine;omega,ns,3,rfl,hl,by omega,by decide,?_⟩
 obtain⟨t,et,ht⟩:=vp (i:=dX ns 3) (n:=4) (by decide)
 rw[show(4:Int)=((4:Nat):Int) from rfl,et]
 match t,ht with
 | 0,_=>exact⟨_,rfl,main _ _ (by decide) (by decide)⟩
 | 1,_=>exact⟨_,rfl,main _ _ (by decide) (by decide)⟩
 | 2,_=>exact⟨_,rfl,main _ _ (by decide) (by decide)⟩
 | 3,_=>exact⟨_,rfl,main _ _ (by decide) (by decide)⟩
theorem yh:(Str.ofString "abcdefghij").cps.toList= [97,98,99,100,101,102,103,104,105,106]:=by decide+kernel
theorem Bv:(Str.ofString "abcdefghij").length=10:=by
 show(Str.ofString "abcdefghij").cps.size=10;rw[<- Array.length_toList,yh];rfl
theorem Jv{k:Nat}(h:k<10):jy (Str.ofString "abcdefghij").cps.toList (k:Int)=some (97+k):=by
 refine vI ?_;rw[yh]
 match k,h with
 | 0,_=>rfl
 | 1,_=>rfl
 | 2,_=>rfl
 | 3,_=>rfl
 | 4,_=>rfl
 | 5,_=>rfl
 | 6,_=>rfl
 | 7,_=>rfl
 | 8,_=>rfl
 | 9,_=>rfl
def Wk(k:Nat):Str:=(⟨#[97+k % 10]⟩:Str)++ (⟨#[97+k/10]⟩:Str)
theorem z05{i j:Nat}(h:Wk i=Wk j):i=j:=by
 have e:(#[97+i % 10]++ #[97+i/10]:Array Nat)= #[97+j % 10]++ #[97+j/10]:=congrArg Str.cps h;have e2: [97+i % 10,97+i/10]= [97+j % 10,97+j/10]:=congrArg Array.toList e;injection e2 with e3 e4;injection e4 with e4 _;omega
theorem zob{rows:List Rw}{w:Str}(h:∀r∈rows,r.1≠w):bT rows w= []:=by
 unfold bT;rw[List.filter_eq_nil_iff.mpr fun r hr=>by simpa using h r hr]
 rfl
def zlb(rows:List Rw)(w p:Str)(m:Int):List D:=rows.map jL++ [jL (w,p,m)]
theorem qg(i:Int):(i.fmod 4).natAbs<2^40:=by
 have:=Dy (i:=i) (m:=4) (by decide)
 omega
theorem zjg{K:W.Frag}{c:Cls}{ds Q Ex}(h:Jf c ds Q Ex):Mh K c (fin Q) (aJ 10 ds) fun _=>Ex:=by
 obtain⟨ns,hands,works,rfl,hl,h1,h12,h60,h⟩:=h;have line:(1000:Nat)<=sizeLine:=by decide
 let S:D:= .lst (ns.map .int)
 show Mh K c (fin Q) [.pu S,.pu (.int hands),.pu (.int works),.no,.no,.no,.no,.no,.no,.no] fun _=>Ex;unfold Mh
 and_intros
 refine⟨ns,5,rfl,hl,by omega,⟨by decide,lO (k:=2) (by decide)⟩,.inr (.inl (iD (by decide))),_,hands,rfl,by omega,fun jB hpp Vx=> ?_⟩
 unfold zde
 and_intros
 refine⟨Nat.zero_le _,?_⟩;unfold zc6;refine⟨⟨by omega,by omega⟩,fun k Γ=>∃x5:Slot,Γ= [.pu S,.pu (.int hands),.pu (.int works),.pu (.lst (jB.map .str)),.ow (((List.range k).map Wk).map .str),x5,.no,.no,.no,.no],⟨_,rfl⟩,?_,?_⟩
 ·rintro k _ hk ⟨x5,rfl⟩;have Jw:k<works:=by omega
  show U5 K c _ [.pu S,.pu (.int hands),.pu (.int works),.pu (.lst (jB.map .str)),.ow (((List.range k).map Wk).map .str),.pu (.int (0+ (k:Int))),.no,.no,.no,.no] _;rw[Int.zero_add];have e1:(k:Int).fmod 10=((k % 10:Nat):Int):=by rw[Int.fmod_eq_emod_of_nonneg _ (by decide)];omega
  have e2:(k:Int).fdiv 10=((k/10:Nat):Int):=by rw[Int.fdiv_eq_ediv_of_nonneg _ (by decide)];omega
  unfold U5
  and_intros
  refine⟨⟨_,rfl⟩,by decide,?_⟩
  rw[e1,e2];have l10:(Str.ofString "abcdefghij").length<=sizeLine:=by rw[Bv];omega
  refine⟨97+k % 10,l10,Jv (by omega),⟨by decide,lO (k:=4) (by decide)⟩,97+k/10,l10,Jv (by omega),by show(1+1:Nat)<=sizeLine;omega,by rw[List.length_map,List.length_map,List.length_range];omega,.pu (.int k),?_⟩
  rw[List.range_succ,List.map_append,List.map_append]
  rfl
 rintro _ ⟨x5,rfl⟩;rw[show(works:Int).toNat=works from Int.toNat_natCast works];dsimp only;unfold zc8
 and_intros
 refine⟨ns,6,rfl,hl,by omega,?_⟩
 generalize dX ns 6=cv;unfold zda
 and_intros
 refine⟨Nat.zero_le _,?_⟩;have fin2:∀(rows:List Rw) x5 x8 x9,rows.length<=2*works ->(∀r∈rows,r.2.1∈jB) ->(∀w,(bT rows w).length<=2) ->Uq rows ->(∀r∈rows,r.2.2.natAbs<2^40) ->
   U7 K c (fin Q) [.pu S,.pu (.int hands),.pu (.int works),.pu (.lst (jB.map .str)),.ow (((List.range works).map Wk).map .str),x5,.pu (.int cv),.ow (rows.map jL),x8,x9] fun _=>Ex:=by
  intro rows x5 x8 x9 b1 b2 b3 b5 b6;unfold U7
  and_intros
  refine⟨⟨by decide,lO (k:=8) (by decide)⟩,by decide,oE _ _,?_⟩
  split
  ·show Q (.lst (rows.map jL).reverse);rw[<- List.map_reverse];refine h rows.reverse jB (by rw[List.length_reverse];exact b1) (by omega) (fun r hr=>b2 r (List.mem_reverse.mp hr)) (fun w=> ?_) (zxc (List.reverse_perm rows) b5) fun r hr=>b6 r (List.mem_reverse.mp hr)
   have:bT rows.reverse w=(bT rows w).reverse:=by unfold bT;rw[List.filter_reverse,List.map_reverse]
   rw[this,List.length_reverse];exact b3 w
  ·exact h rows jB b1 (by omega) b2 b3 b5 b6
 unfold zdb;refine⟨⟨by omega,by omega⟩,fun k Γ=>∃(rows:List Rw) (x5 x8 x9:Slot),rows.length<=2*k/\ (∀r∈rows,r.2.1∈jB)/\ (∀r∈rows,∃j,j<k/\r.1=Wk j)/\ (∀w,(bT rows w).length<=2)/\Uq rows/\ (∀r∈rows,r.2.2.natAbs<2^40)/\
  Γ= [.pu S,.pu (.int hands),.pu (.int works),.pu (.lst (jB.map .str)),.ow (((List.range works).map Wk).map .str),x5,.pu (.int cv),.ow (rows.map jL),x8,x9],⟨[],_,_,_,by simp,fun r hr=>by(cases hr),fun r hr=>by(cases hr),fun w=>by simp [bT],List.Pairwise.nil,fun r hr=>by(cases hr),rfl⟩,?_,?_⟩
 ·rintro k _ hk ⟨rows,x5,x8,x9,b1,b2,b3,b4,b5,b6,rfl⟩;have Jw:k<works:=by omega
  have hkw:k< ((List.range works).map Wk).length:=by rw[List.length_map,List.length_range];exact Jw
  have hwk:((List.range works).map Wk)[k]=Wk k:=by simp
  show U6 K c _ [.pu S,.pu (.int hands),.pu (.int works),.pu (.lst (jB.map .str)),.ow (((List.range works).map Wk).map .str),.pu (.int (0+ (k:Int))),.pu (.int cv),.ow (rows.map jL),x8,x9] _;rw[Int.zero_add];have Vy:bT rows (Wk k)= []:=zob fun r hr z=>by
   obtain⟨j,hj,e⟩:=b3 r hr;have:=z05 (e.symm.trans z);omega
  have done:∀(more:List Rw),more.length<=2 ->Uq more ->(∀r∈more,r.1=Wk k/\r.2.1∈jB/\r.2.2.natAbs<2^40) ->(rows++more).length<=2* (k+1)/\ (∀r∈rows++more,r.2.1∈jB)/\ (∀r∈rows++more,∃j,j<k+1/\r.1=Wk j)/\ (∀w,(bT (rows++more) w).length<=2)/\Uq (rows++more)/\∀r∈rows++more,r.2.2.natAbs<2^40:=by
   intro more m1 mu m2;refine⟨by rw[List.length_append];omega,fun r hr=> ?_,fun r hr=> ?_,fun w=> ?_,List.pairwise_append.mpr ⟨b5,mu,fun a ha b hb z=> ?_⟩,fun r hr=>by
    rcases zR.mp hr with hr | hr
    ·exact b6 r hr
    ·exact(m2 r hr).2.2⟩
   ·rcases zR.mp hr with hr | hr
    ·exact b2 r hr
    ·exact(m2 r hr).2.1
   ·rcases zR.mp hr with hr | hr
    ·obtain⟨j,hj,e⟩:=b3 r hr;exact⟨j,by omega,e⟩
    ·exact⟨k,by omega,(m2 r hr).1⟩
   ·have e:bT (rows++more) w=bT rows w++bT more w:=by unfold bT;rw[List.filter_append,List.map_append]
    rw[e,List.length_append];by_cases hw:w=Wk k
    ·subst hw;rw[Vy];have:(bT more (Wk k)).length<=more.length:=by unfold bT;rw[List.length_map];exact List.length_filter_le _ _
     simp only [List.length_nil];omega
    ·rw[zob (rows:=more) fun r hr z=>hw (by rw[<- z];exact(m2 r hr).1)]
     have:=b4 w;simp only [List.length_nil];omega
   ·obtain⟨j,hj,e⟩:=b3 a ha;have:=z05 (e.symm.trans (z.1.trans (m2 b hb).1));omega
  obtain⟨t,et,ht⟩:=vp (i:=cv) (n:=3) (by decide)
  have et' :cv.fmod 3=(t:Int):=et;have ix3:∀a b d:Int,∃v:Int,jy [D.int a,.int b,.int d] (t:Int)=some (.int v):=fun a b d=>by
   match t,ht with
   | 0,_=>exact⟨a,rfl⟩
   | 1,_=>exact⟨b,rfl⟩
   | 2,_=>exact⟨d,rfl⟩
  unfold U6
  and_intros
  refine⟨by show(3:Nat)<=sizeLine;omega,by decide,?_⟩
  rw[et'];obtain⟨v1,hv1⟩:=ix3 (k:Int) (k:Int) 0;refine⟨_,hv1,by omega,?_⟩
  obtain⟨f,ef,hf⟩:=vp (i:=v1) (n:=hands) (by omega)
  rw[ef];unfold zcc
  and_intros
  refine⟨by show(3:Nat)<=sizeLine;omega,by decide,?_⟩
  rw[et'];obtain⟨v2,hv2⟩:=ix3 ((f:Int)+1) ((hands:Int) - 1 - (f:Int)) ((k:Int)+1);refine⟨_,hv2,by omega,?_⟩
  obtain⟨o,eo,ho⟩:=vp (i:=v2) (n:=hands) (by omega)
  rw[eo];unfold zce
  and_intros
  refine⟨⟨_,rfl⟩,⟨_,rfl⟩,_,DP hkw,_,DP (k:=f) (by omega),ns,7+k,by rw[Int.natCast_add];rfl,hl,by omega,by decide,by show(3:Nat)<=sizeLine;omega,by rw[List.length_map];omega,?_⟩
  rw[hwk];have DQ:=done [(Wk k,jB[f],(dX ns (7+k)).fmod 4)] (by simp) (List.pairwise_singleton _ _) (fun r hr=>by rw[List.mem_singleton.mp hr];exact⟨rfl,yX _,qg _⟩)
  unfold zcd
  and_intros
  refine⟨oE _ _,?_⟩;have stop:∃(rs:List Rw) (x5 x8 x9:Slot),rs.length<=2* (k+1)/\ (∀r∈rs,r.2.1∈jB)/\ (∀r∈rs,∃j,j<k+1/\r.1=Wk j)/\ (∀w,(bT rs w).length<=2)/\Uq rs/\ (∀r∈rs,r.2.2.natAbs<2^40)/\
    [Slot.pu S,.pu (.int hands),.pu (.int works),.pu (.lst (jB.map .str)),.ow (((List.range works).map Wk).map .str),.pu (.int k),.pu (.int cv),.ow (zlb rows (Wk k) jB[f] ((dX ns (7+k)).fmod 4)),.pu (.int f),.pu (.int o)]= [.pu S,.pu (.int hands),.pu (.int works),.pu (.lst (jB.map .str)),.ow (((List.range works).map Wk).map .str),x5,.pu (.int cv),.ow (rs.map jL),x8,x9]:=
   ⟨_,_,_,_,DQ.1,DQ.2.1,DQ.2.2.1,DQ.2.2.2.1,DQ.2.2.2.2.1,DQ.2.2.2.2.2,by unfold zlb;rw[List.map_append];rfl⟩
  rw[vo];split
  ·rename_i hne;have fo:f≠o:=fun z=>by rw[z] at hne;simp at hne
   refine⟨⟨by decide,lO (k:=2) (by decide)⟩,by decide,oE _ _,?_⟩
   split
   ·refine⟨⟨_,rfl⟩,⟨_,rfl⟩,_,DP hkw,_,DP (k:=o) (by omega),ns,30+k,by rw[Int.natCast_add];rfl,hl,by omega,by decide,by show(3:Nat)<=sizeLine;omega,by rw[List.length_append,List.length_map];simp;omega,?_⟩
    rw[hwk];have DR:=done [(Wk k,jB[f],(dX ns (7+k)).fmod 4),(Wk k,jB[o],(dX ns (30+k)).fmod 4)] (by simp) (List.pairwise_pair.mpr fun z=>fo (Jm Vx (by omega) (by omega) z.2)) (fun r hr=>by
     rcases zT.mp hr with rfl | hr
     ·exact⟨rfl,yX _,qg _⟩
     ·rw[List.mem_singleton.mp hr];exact⟨rfl,yX _,qg _⟩)
    exact⟨_,_,_,_,DR.1,DR.2.1,DR.2.2.1,DR.2.2.2.1,DR.2.2.2.2.1,DR.2.2.2.2.2,by rw[List.map_append,List.append_assoc];rfl⟩
   ·exact stop
  ·rw[if_neg (by decide)];exact stop
 ·rintro _ ⟨rows,x5,x8,x9,b1,b2,b3,b4,b5,b6,rfl⟩;exact fin2 rows x5 x8 x9 (by omega) b2 b4 b5 b6
theorem zm4{K:W.Frag}{c:Cls}{ds Q Ex}(h:Dv c ds Q Ex):zf0 K c (fin Q) (aJ 2 ds) fun _=>Ex:=by
 obtain⟨i,j,rfl,h⟩:=h;refine⟨fun m Γ=>∃a b:Int,Γ= [.pu (.int a),.pu (.int b)]/\0<=a/\0<=b/\m=b.natAbs/\Int.gcd a b=Int.gcd i j,⟨_,(if i<0 then -i else i),(if j<0 then -j else j),rfl,by split<;>omega,by split<;>omega,rfl,?_⟩,?_⟩
 ·have e1:(if i<0 then -i else i)=(i.natAbs:Int):=by split<;>omega
  have e2:(if j<0 then -j else j)=(j.natAbs:Int):=by split<;>omega
  rw[e1,e2];rfl
 rintro m _ ⟨a,b,rfl,ha,hb,rfl,hg⟩;show if decide (0<b)=true then _ else _;by_cases hz:0<b
 ·rw[if_pos (by simpa using hz)]
  have h0:b≠0:=by omega
  refine⟨h0,_,Ud h0,b,a.fmod b,rfl,hb,?_,rfl,by rw[zsg,hg]⟩
  rw[Int.fmod_eq_emod_of_nonneg _ hb];exact Int.emod_nonneg _ h0
 ·rw[if_neg (by simpa using hz)]
  have:b=0:=by omega
  subst this;rw[Int.gcd_zero_right] at hg;show Q (.int a);have e:a=((Int.gcd i j:Nat):Int):=by omega
  rw[e];exact h
theorem DW{x:Str ->D}{h:Str}:∀{hs:List Str},eF (hs.map .inr) (hs.map x) (.inr h)=if h∈hs then some (x h) else none
 | []=>rfl
 | g::hs=>by
  rw[List.map_cons,List.map_cons];unfold eF;by_cases q:g=h
  ·rw[if_pos (by rw[q]),if_pos (by rw[q];exact List.mem_cons_self),q]
  ·rw[if_neg (fun z=>q (by injection z)),DW (hs:=hs)]
   by_cases p:h∈hs
   ·rw[if_pos p,if_pos (List.mem_cons_of_mem _ p)]
   ·rw[if_neg p,if_neg fun z=>by
     rcases zT.mp z with z | z
     ·exact q z.symm
     ·exact p z]
theorem wu{hs:List Str}{x:Str ->Rat}{h:Str}(hh:h∈hs){P:D ->Prop}(hp:P (qD (x h))):eG (aP hs x) (.str h) P:=
 ⟨_,_,.inr h,_,rfl,rfl,by rw[DW (x:=fun h=>qD (x h)),if_pos hh],hp⟩
theorem zra(hs:List Str):(hs.map (Sum.inr:Str ->Key)).map cG=hs.map .str:=by rw[List.map_map];rfl
theorem zno{K:W.Frag}{c:Cls}{ds Q Ex}(h:Dw c ds Q Ex):zg6 K c (fin Q) (aJ 3 ds) fun _=>Ex:=by
 obtain⟨hs,x,rfl,nd,hl,sz,h⟩:=h;show zfb K c (fin Q) [.pu (aP hs x),.pu (.int 1),.no] fun _=>Ex;show mR ((hs.map (Sum.inr:Str ->Key)).map cG) (hName 2) (zen K c) _ _ _;rw[zra];refine⟨fun i Γ=>∃(μ:Int) (y:Slot),Γ= [.pu (aP hs x),.pu (.int μ),y]/\0<μ/\bN μ<=8500*i+1/\∀h∈hs.take i,((x h).den:Int)∣μ,⟨1,_,rfl,by decide,by decide,fun h hh=>by simp at hh⟩,?_,?_⟩
 ·rintro i d _ hi ⟨μ,y,rfl,hμ,bμ,hd⟩;have hi' :i<hs.length:=by
   have:=(zU.mp hi).1
   rwa [List.length_map] at this
  rw[List.getElem?_map,List.getElem?_eq_getElem hi'] at hi;cases hi;have hm:hs[i]∈hs:=yX hi';have dp:(0:Int)< (x hs[i]).den:=by have:=(x hs[i]).den_pos;omega
  obtain⟨g0,p1,p2,p3,p4,p5⟩:=zrq hμ dp;have zi:=(sz _ hm).2;have b4:=zN (sO p4) zi;have b5:=zN (sO p5) zi;have bm:=Kd μ ((x hs[i]).den.cast (R:=Int) |>.fdiv (Int.gcd μ (x hs[i]).den:Int))
  show eG (aP hs x) (.str hs[i]) _;refine wu hm ⟨_,at1,?_⟩;show eG (aP hs x) (.str hs[i]) _;refine wu hm ⟨_,at1,μ,(x hs[i]).den,rfl,⟨g0,by omega⟩,.inr (.inr (by omega)),_,_,rfl,p1,by omega,fun h hh=> ?_⟩
  rw[DN hi'] at hh;rcases zR.mp hh with hh | hh
  ·exact Int.dvd_trans (hd h hh) p2
  ·rw[List.mem_singleton.mp hh];exact p3
 ·rintro _ ⟨μ,y,rfl,hμ,bμ,hd⟩;rw[List.length_map,List.take_length] at hd;rw[List.length_map] at bμ;exact h μ hμ hd (by omega)
theorem z3l(ks:List Key)(xs:List D):jE (.nq ks xs) "dict" =some true:=by unfold jE Ab;show W.kitOne [] _ _=_;decide+kernel
theorem zue(xs:List D):jE (.tup xs) "tuple" =some true:=by unfold jE Ab;show W.kitOne [] _ _=_;decide+kernel
theorem zw3(i:Int):jE (.int i) "int" =some true:=by unfold jE Ab;show W.kitOne [] _ _=_;decide+kernel
theorem zyh(i:Int):jE (.int i) "bool" =some false:=by unfold jE Ab;show W.kitOne [] _ _=_;decide+kernel
theorem zq4{K:W.Frag}{c:Cls}{ds Q Ex}(h:Ji c ds Q Ex):zh3 K c (fin Q) (aJ 6 ds) fun _=>Ex:=by
 obtain⟨rows,hs,x,rfl,nd,hl,few,mem,h⟩:=h;have s1:=v9;show aX _ (rows.map jL) _;refine wg jL (fun r=> .str r.2.1) (fun r hr P hp=>⟨rfl,rfl,hp⟩) ?_;have e0:(rows.map fun r=>D.str r.2.1)=(rows.map fun r=>r.2.1).map .str:=by rw[List.map_map];rfl
 rw[e0];show xq [gl (rows.map fun r=>r.2.1)] fun es=>Mi K c (fin Q) [.pu (aP hs x),.pu (aG rows),.pu (.lst es),.no,.no,.no] fun _=>Ex;refine Vk (xs:=rows.map fun r=>r.2.1) (U:=hs) (by rw[List.length_map];omega) hl (fun y hy=> ?_) fun ms pw hm=> ?_
 ·obtain⟨r,hr,rfl⟩:=zE.mp hy;exact(mem _).mpr ⟨r,hr,rfl⟩
 have hm' :∀y,y∈ms↔y∈hs:=fun y=>by
  rw[hm,mem,List.mem_map]
 show Mi K c (fin Q) [.pu (aP hs x),.pu (aG rows),.pu (.lst (ms.map .str)),.no,.no,.no] fun _=>Ex;unfold Mi
 and_intros
 rw[show jE (aP hs x) "dict" =some true from z3l _ _]
 and_intros
 simp only [Bool.not_true,Bool.false_eq_true,if_false];refine⟨hs,_,rfl,nd,by omega,fun jM pm pw' => ?_⟩
 have em:jM =ms:=Lk Vl pw' pw fun y=>by rw[hm',pm.mem_iff]
 subst em;refine⟨z4c _ _,?_⟩;rw[Ck];simp only [Bool.not_true,Bool.false_eq_true,if_false];show zfw K c (fin Q) [.pu (aP hs x),.pu (aG rows),.pu (.lst (jM.map .str)),.no,.no,.no] fun _=>Ex;refine⟨fun i Γ=>∃y3 y4 y5:Slot,Γ= [.pu (aP hs x),.pu (aG rows),.pu (.lst (jM.map .str)),y3,y4,y5],⟨_,_,_,rfl⟩,?_,?_⟩
 ·rintro i d _ hi ⟨y3,y4,y5,rfl⟩;have hi' :i<jM.length:=by
   have:=(zU.mp hi).1
   rwa [List.length_map] at this
  rw[List.getElem?_map,List.getElem?_eq_getElem hi'] at hi;cases hi;have hh:jM[i]∈hs:=(hm' _).mp (yX hi');generalize jM[i]=g at hh;show eG (aP hs x) (.str g) _;refine wu hh ?_;show U9 K c _ [.pu (aP hs x),.pu (aG rows),.pu (.lst (jM.map .str)),.pu (.str g),.pu (qD (x g)),y5] _;unfold U9
  and_intros
  rw[show jE (qD (x g)) "tuple" =some true from zue _]
  and_intros
  simp only [Bool.not_true,Bool.false_eq_true,if_false];refine⟨oE _ _,?_⟩;rw[show dY (D.int ([D.int (x g).num,D.int (x g).den].length:Int)) (D.int 2)=true from by rw[vo];rfl]
  simp only [Bool.not_true,Bool.false_eq_true,if_false];refine⟨fun j Γ=>∃y5:Slot,Γ= [.pu (aP hs x),.pu (aG rows),.pu (.lst (jM.map .str)),.pu (.str g),.pu (qD (x g)),y5],⟨_,rfl⟩,?_,?_⟩
  ·rintro j d _ hj ⟨z5,rfl⟩;have ei:∃i:Int,d= .int i:=by
    match j,hj with
    | 0,hj=>exact⟨(x g).num,by simpa using hj.symm⟩
    | 1,hj=>exact⟨(x g).den,by simpa using hj.symm⟩
    | j+2,hj=>simp at hj
   obtain⟨i,rfl⟩:=ei;show U8 K c _ [.pu (aP hs x),.pu (aG rows),.pu (.lst (jM.map .str)),.pu (.str g),.pu (qD (x g)),.pu (.int i)] _;unfold U8
   and_intros
   rw[zw3,zyh];exact⟨_,rfl⟩
  ·rintro _ ⟨z5,rfl⟩;show zdz K c _ [.pu (aP hs x),.pu (aG rows),.pu (.lst (jM.map .str)),.pu (.str g),.pu (qD (x g)),z5] _;have dp:=(x g).den_pos;have gc:Int.gcd (x g).num (x g).den=1:=by
    have:=(x g).reduced;unfold Nat.Coprime at this
    simpa [Int.gcd] using this
   refine⟨_,at1,?_⟩;show if decide (((x g).den:Int)<1)=true then _ else _;rw[decide_eq_false (by omega)]
   refine⟨_,at0,_,at1,_,_,rfl,oE _ _,?_⟩;rw[gc,vo];exact⟨_,_,_,rfl⟩
 ·rintro _ ⟨y3,y4,y5,rfl⟩;exact h
def Mz(x:Str ->Rat)(B:Int)(h:Str):Int:=(x h).num*B.fdiv ((x h).den:Int)
theorem Vz{x:Str ->Rat}{B:Int}{h:Str}(d:((x h).den:Int)∣B):(Mz x B h:Rat)=x h* (B:Rat):=by
 have e:=xO d;obtain⟨n1,n2⟩:=zxt (x h);have e' :(B:Rat)=((x h).den:Int)* (B.fdiv ((x h).den:Int):Int):=by exact_mod_cast e.symm
 unfold Mz;rw[Rat.intCast_mul,n1,e']
 grind
theorem VB{B d:Int}(h:d∣B)(h0:d≠0):(B.fdiv d).natAbs<=B.natAbs:=by
 have e:=congrArg Int.natAbs (xO h);rw[Int.natAbs_mul] at e;rw[<- e];exact Nat.le_mul_of_pos_left _ (by omega)
theorem zvz{ws:List Str}{f g:Str ->D}{w:Str}(e:∀v∈ws,v≠w ->f v=g v):cA (ws.map .inr) (ws.map f) (.inr w) (g w)=(fX ws w).map g:=by
 unfold cA fX;rw[xY];by_cases q:w∈ws
 ·rw[decide_eq_true q,if_pos rfl,if_pos q];clear q;induction ws with
  | nil=>rfl
  | cons v ws ih=>
   rw[List.map_cons,List.map_cons,List.map_cons,List.zipWith_cons_cons,ih fun u hu=>e u (List.mem_cons_of_mem _ hu)]
   congr 1
   by_cases p:v=w
   ·rw[if_pos (by rw[p]),p]
   ·rw[if_neg fun z=>p (by injection z)]
    exact e v zW p
 ·rw[decide_eq_false q,if_neg Bool.false_ne_true,if_neg q,List.map_append]
  congr 1
  exact List.map_congr_left fun v hv=>e v hv fun z=>q (z ▸ hv)
def nJ(ws:List Str)(f:Str ->Int):T:= .dic (ws.map .inr) ((ws.map fun w=> .int (f w)).map .leaf)
theorem Jx(ws:List Str)(f:Str ->Int):toD (nJ ws f)= .dic (ws.map .inr) (ws.map fun w=> .int (f w)):=by
 unfold nJ toD;rw[DG]
theorem VD{ws:List Str}{f g:Str ->Int}{w:Str}(e:∀v∈ws,v≠w ->f v=g v):T.dic (eE (ws.map .inr) (.inr w)) ((cA (ws.map .inr) (ws.map fun w=> .int (f w)) (.inr w) (.int (g w))).map .leaf)=nJ (fX ws w) g:=by
 rw[Vh,zvz (f:=fun w=> .int (f w)) (g:=fun w=> .int (g w)) fun v hv n=>by rw[e v hv n]]
 rfl
def fG{α:Type}(l:List α)(f:α ->Int):Int:=(l.map f).sum
theorem VF{α:Type}(l:List α)(a:α)(f:α ->Int):fG (l++ [a]) f=fG l f+f a:=by
 unfold fG;rw[List.map_append,List.sum_append];simp
theorem VG{α:Type}(l:List α)(f:α ->Int):(fG l f:Rat)=ao l fun a=>(f a:Rat):=Mu f l
theorem zsh{rows:List Rw}{r:Rw}{w:Str}:jm (rows++ [r]) w=jm rows w++ (if r.2.1=w then [r] else []):=by
 unfold jm;rw[List.filter_append]
 congr 1
 by_cases q:r.2.1=w<;>simp [q]
theorem zyt{rows:List Rw}{w:Str}(h:¬∃r∈rows,r.2.1=w):jm rows w= []:=by
 unfold jm;exact List.filter_eq_nil_iff.mpr fun r hr z=>h ⟨r,hr,of_decide_eq_true z⟩
structure Met (rows:List Rw) (k:Rw ->Str) (ws:List Str):Prop where
 nd:ws.Nodup
 mem:∀w,w∈ws↔∃r∈rows,k r=w
 len:ws.length<=rows.length
theorem Met.nil(k:Rw ->Str):Met [] k []:=⟨List.nodup_nil,fun w=>⟨fun z=>by(cases z),fun⟨r,hr,_⟩=>by(cases hr)⟩,zM _⟩
theorem Met.add{rows:List Rw}{k:Rw ->Str}{ws:List Str}(M:Met rows k ws)(r:Rw):Met (rows++ [r]) k (fX ws (k r)):=by
 refine⟨zk8 M.nd,fun w=> ?_,zN zrw (by rw[List.length_append,List.length_singleton];exact Nat.add_le_add_right M.len 1)⟩
 rw[zrm,M.mem];constructor
 ·rintro(⟨s,hs,e⟩ | rfl)
  ·exact⟨s,zO _ hs,e⟩
  ·exact⟨r,by simp,rfl⟩
 ·rintro⟨s,hs,e⟩;rcases zR.mp hs with hs | hs
  ·exact .inl ⟨s,hs,e⟩
  ·rw[List.mem_singleton.mp hs] at e;exact .inr e.symm
theorem VH{ws:List Str}{f:Str ->Int}{w:Str}(z:w∉ws ->f w=0):(eF (ws.map .inr) (ws.map fun w=> .int (f w)) (.inr w)).getD (.int 0)= .int (f w):=by
 rw[DW (x:=fun w=> .int (f w))];by_cases q:w∈ws
 ·rw[if_pos q];rfl
 ·rw[if_neg q,z q];rfl
theorem zs3{K:W.Frag}{c:Cls}{ds Q Ex}(h:Jg c ds Q Ex):zj9 K c (fin Q) (aJ 10 ds) fun _=>Ex:=by
 obtain⟨rows,hs,x,rfl,nd,hl,sz,L,hh,d60,ev,h⟩:=h;have s1:=v9;have few:=L.few;refine⟨hs,x,rfl,nd,hl,sz,fun B B0 dv bB=> ?_⟩
 let le:Str ->Int:=Mz x B
 let sm:List Rw ->Str ->Int:=fun l w=>fG (bZ l w) fun r=>r.2.2*B - le r.2.1
 let mn:List Rw ->Str ->Int:=fun l w=>((bZ l w).length:Int)
 have qW:∀h∈hs,((x h).den:Int)≠0/\bN ((x h).den:Int)<=9000/\lE (x h).num (B.fdiv ((x h).den:Int)):=fun g hg=>by
  have dp:=(x g).den_pos;have z:=sz g hg;refine⟨by omega,zN z.2 (by decide),.inr (.inr ?_)⟩
  have:=sO (VB (dv g hg) (by omega))
  have:=z.1;omega
 show zgt K c (fin Q) [.pu (aG rows),.pu (aP hs x),.pu (.int B),.no,.no,.no,.no,.no,.no,.no] fun _=>Ex;intro a3;show zg4 K c (fin Q) [.pu (aG rows),.pu (aP hs x),.pu (.int B),.tr a3 (.dic [] []),.no,.no,.no,.no,.no,.no] fun _=>Ex;intro a4;show zha K c (fin Q) [.pu (aG rows),.pu (aP hs x),.pu (.int B),.tr a3 (.dic [] []),.tr a4 (.dic [] []),.no,.no,.no,.no,.no] fun _=>Ex;refine⟨fun i Γ=>∃(a3 a4:List Addr) (ws:List Str) (y5 y6 y7 y8:Slot),Met (rows.take i) (·.1) ws/\Γ= [.pu (aG rows),.pu (aP hs x),.pu (.int B),.tr a3 (nJ ws (sm (rows.take i))),.tr a4 (nJ ws (mn (rows.take i))),y5,y6,y7,y8,.no],⟨a3,a4,[],_,_,_,_,Met.nil _,rfl⟩,?_,?_⟩
 ·rintro i d _ hi ⟨a3,a4,ws,y5,y6,y7,y8,M,rfl⟩;have hi' :i<rows.length:=by
   have:=(zU.mp hi).1
   rwa [List.length_map] at this
  rw[List.getElem?_map,List.getElem?_eq_getElem hi'] at hi;cases hi;have tk:=DN hi';have hr:rows[i]∈rows:=yX hi';generalize rows[i]=r at hr tk⊢;have lt:(rows.take i).length<=200:=by rw[List.length_take];omega
  generalize rows.take i=l at M lt tk⊢;have hm:=hh r hr;obtain⟨l1,l2,l3⟩:=qW _ hm;refine⟨rfl,rfl,?_⟩;show eG (aP hs x) (.str r.2.1) _;refine wu hm ⟨_,at0,?_⟩;show eG (aP hs x) (.str r.2.1) _;refine wu hm ⟨_,at1,⟨l1,l2⟩,l3,?_⟩;show zet K c _ [.pu (aG rows),.pu (aP hs x),.pu (.int B),.tr a3 (nJ ws (sm l)),.tr a4 (nJ ws (mn l)),.pu (.str r.1),.pu (.str r.2.1),.pu (.int r.2.2),.pu (.int (le r.2.1)),.no] _;refine⟨_,_,by rw[Jx];rfl,.inr r.1,rfl,?_⟩
  rw[VH fun q=>by
   show fG (bZ l r.1) _=0;rw[Vi fun z=>q ((M.mem _).mpr z)];rfl]
  have mB:lE r.2.2 B:= .inr (.inr (by have:=iD (L.mm r hr);omega))
  have wl:ws.length<=200:=zN M.len lt;refine⟨mB,trivial,⟨a3,_,rfl⟩,.inr r.1,a3,ws.map .inr,ws.map fun w=> .int (sm l w),rfl,rfl,by rw[List.length_map];omega,?_⟩
  have es:sm l r.1+r.2.2*B - le r.2.1=sm (l++ [r]) r.1:=by
   show _=fG (bZ (l++ [r]) r.1) _;rw[Br,if_pos rfl,VF];show fG (bZ l r.1) _+_ - _=_;omega
  have esv:∀v∈ws,v≠r.1 ->sm l v=sm (l++ [r]) v:=fun v _ n=>by
   show fG (bZ l v) _=fG (bZ (l++ [r]) v) _;rw[Br,if_neg (fun z=>n z.symm),List.append_nil]
  have emv:∀v∈ws,v≠r.1 ->mn l v=mn (l++ [r]) v:=fun v _ n=>by
   show((bZ l v).length:Int)=((bZ (l++ [r]) v).length:Int);rw[Br,if_neg (fun z=>n z.symm),List.append_nil]
  show zeq K c _ [.pu (aG rows),.pu (aP hs x),.pu (.int B),.tr a3 (T.dic (eE (ws.map .inr) (.inr r.1)) ((cA (ws.map .inr) (ws.map fun w=> .int (sm l w)) (.inr r.1) (.int (sm l r.1+r.2.2*B - le r.2.1))).map .leaf)),.tr a4 (nJ ws (mn l)),.pu (.str r.1),.pu (.str r.2.1),.pu (.int r.2.2),.pu (.int (le r.2.1)),.no] _;rw[es,VD esv];refine⟨_,_,by rw[Jx];rfl,.inr r.1,rfl,?_⟩
  rw[VH fun q=>by
   show((bZ l r.1).length:Int)=0;rw[Vi fun z=>q ((M.mem _).mpr z)];rfl]
  refine⟨trivial,⟨a4,_,rfl⟩,.inr r.1,a4,ws.map .inr,ws.map fun w=> .int (mn l w),rfl,rfl,by rw[List.length_map];omega,?_⟩
  have em:mn l r.1+1=mn (l++ [r]) r.1:=by
   show _=((bZ (l++ [r]) r.1).length:Int);rw[Br,if_pos rfl,List.length_append]
   rfl
  refine⟨a3,a4,fX ws r.1,.pu (.str r.1),.pu (.str r.2.1),.pu (.int r.2.2),.pu (.int (le r.2.1)),by rw[tk];exact M.add r,?_⟩
  rw[tk,<- VD (w:=r.1) emv,<- em]
  rfl
 ·rintro _ ⟨a3,a4,ws,y5,y6,y7,y8,M,rfl⟩;rw[List.length_map,List.take_length] at M⊢;intro a9;show zgs K c (fin Q) [.pu (aG rows),.pu (aP hs x),.pu (.int B),.tr a3 (nJ ws (sm rows)),.tr a4 (nJ ws (mn rows)),y5,y6,y7,y8,.tr a9 (.dic [] [])] fun _=>Ex
  let Jy:Str ->Int:=fun w=>(60:Int).fdiv (mn rows w)
  let od:List Rw ->Str ->Int:=fun l g=>fG (jm l g) fun r=>60* (r.2.2*B - le r.2.1) - Jy r.1*sm rows r.1
  have pos:∀r∈rows,0< (bZ rows r.1).length:=fun r hr=>List.length_pos_iff.mpr fun z=>by
   have:=aR.mpr ⟨hr,(rfl:r.1=r.1)⟩;rw[z] at this;cases this
  have yj:∀r∈rows,mn rows r.1∣60:=fun r hr=>by
   have:=d60 r hr;show((bZ rows r.1).length:Int)∣60;exact Int.natCast_dvd_natCast.mpr this
  have od0:∀g∈hs,od rows g=0:=fun g hg=>by
   have e:=ev g hg;unfold qe at e;have key:(od rows g:Rat)=(60* (B:Rat))*ao (jm rows g) (fun r=>((r.2.2:Rat) - x r.2.1) - ao (bZ rows r.1) (fun s=>(s.2.2:Rat) - x s.2.1)/ ((bZ rows r.1).length:Rat)):=by
    show(fG (jm rows g) _:Rat)=_;rw[VG,<- uw];refine gB fun r hr=> ?_;have hr' :=(dD.mp hr).1;have es:(sm rows r.1:Rat)=(B:Rat)*ao (bZ rows r.1) (fun s=>(s.2.2:Rat) - x s.2.1):=by
     show(fG (bZ rows r.1) _:Rat)=_;rw[VG,<- uw];refine gB fun s hs' => ?_;have hs2:=hh s (aR.mp hs').1;rw[Rat.intCast_sub,Rat.intCast_mul,Vz (dv _ hs2)]
     grind
    have n0:((bZ rows r.1).length:Rat)≠0:=fun z=>by
     have h1:=pos r hr';have:(bZ rows r.1).length=0:=by exact_mod_cast z
     omega
    have eq:(Jy r.1:Rat)=60/ ((bZ rows r.1).length:Rat):=by
     have h1:=xO (yj r hr');have h2:((bZ rows r.1).length:Rat)* (Jy r.1:Rat)=60:=by exact_mod_cast h1
     rw[<- h2,Rat.div_def,Rat.mul_comm ((bZ rows r.1).length:Rat),Rat.mul_assoc,Rat.mul_inv_cancel _ n0,Rat.mul_one]
    rw[Rat.intCast_sub,Rat.intCast_mul,Rat.intCast_mul,Rat.intCast_sub,Rat.intCast_mul,Vz (dv _ (hh r hr')),es,eq,Rat.div_def,Rat.div_def];show(60:Rat)*_ - _=_
    grind
   rw[e,Rat.mul_zero] at key
   exact_mod_cast key
  refine⟨fun i Γ=>∃(a3 a4 a9:List Addr) (gs:List Str) (y5 y6 y7 y8:Slot),Met (rows.take i) (·.2.1) gs/\Γ= [.pu (aG rows),.pu (aP hs x),.pu (.int B),.tr a3 (nJ ws (sm rows)),.tr a4 (nJ ws (mn rows)),y5,y6,y7,y8,.tr a9 (nJ gs (od (rows.take i)))],⟨a3,a4,a9,[],_,_,_,_,Met.nil _,rfl⟩,?_,?_⟩
  ·rintro i d _ hi ⟨a3,a4,a9,gs,y5,y6,y7,y8,N,rfl⟩;have hi' :i<rows.length:=by
    have:=(zU.mp hi).1
    rwa [List.length_map] at this
   rw[List.getElem?_map,List.getElem?_eq_getElem hi'] at hi;cases hi;have tk:=DN hi';have hr:rows[i]∈rows:=yX hi';generalize rows[i]=r at hr tk⊢;have lt:(rows.take i).length<=200:=by rw[List.length_take];omega
   generalize rows.take i=l at N lt tk⊢;have hm:=hh r hr;have mB:lE r.2.2 B:= .inr (.inr (by have:=iD (L.mm r hr);omega))
   have gl2:gs.length<=200:=zN N.len lt;have hw:r.1∈ws:=(M.mem _).mpr ⟨r,hr,rfl⟩;have m0:mn rows r.1≠0/\ (mn rows r.1).natAbs<2^10:=by
    have h1:0< (bZ rows r.1).length:=List.length_pos_iff.mpr fun z=>by
     have:=aR.mpr ⟨hr,(rfl:r.1=r.1)⟩;rw[z] at this;cases this
    have h2:=L.wk r.1;show((bZ rows r.1).length:Int)≠0/\ ((bZ rows r.1).length:Int).natAbs<2^10;omega
   obtain⟨l1,l2,l3⟩:=qW _ hm;refine⟨rfl,rfl,?_⟩;show eG (aP hs x) (.str r.2.1) _;refine wu hm ⟨_,at0,?_⟩;show eG (aP hs x) (.str r.2.1) _;refine wu hm ⟨_,at1,⟨l1,l2⟩,l3,?_⟩;show zer K c _ [.pu (aG rows),.pu (aP hs x),.pu (.int B),.tr a3 (nJ ws (sm rows)),.tr a4 (nJ ws (mn rows)),.pu (.str r.1),.pu (.str r.2.1),.pu (.int r.2.2),.pu (.int (le r.2.1)),.tr a9 (nJ gs (od l))] _;refine⟨_,_,by rw[Jx];rfl,.inr r.2.1,rfl,?_⟩
   rw[VH fun q=>by
    show fG (jm l r.2.1) _=0;rw[zyt fun z=>q ((N.mem _).mpr z)];rfl]
   refine⟨mB,.inl (iD (by decide)),?_⟩
   refine⟨_,_,.inr r.1,.int (mn rows r.1),by rw[Jx];rfl,rfl,by rw[DW (x:=fun w=> .int (mn rows w)),if_pos hw],⟨m0.1,zN (iD m0.2) (by decide)⟩,?_⟩
   refine⟨_,_,.inr r.1,.int (sm rows r.1),by rw[Jx];rfl,rfl,by rw[DW (x:=fun w=> .int (sm rows w)),if_pos hw],?_⟩
   have b60:bN (Jy r.1)<=64:=by
    have h1:=VB (yj r hr) m0.1;exact zN (iD (k:=6) (zK h1 (by decide))) (by decide)
   refine⟨.inl b60,trivial,⟨a9,_,rfl⟩,.inr r.2.1,a9,gs.map .inr,gs.map fun g=> .int (od l g),rfl,rfl,by rw[List.length_map];omega,?_⟩
   have eo:od l r.2.1+60* (r.2.2*B - le r.2.1) - Jy r.1*sm rows r.1=od (l++ [r]) r.2.1:=by
    show _=fG (jm (l++ [r]) r.2.1) _;rw[zsh,if_pos rfl,VF];show fG (jm l r.2.1) _+_ - _=_;omega
   have eov:∀v∈gs,v≠r.2.1 ->od l v=od (l++ [r]) v:=fun v _ n=>by
    show fG (jm l v) _=fG (jm (l++ [r]) v) _;rw[zsh,if_neg (fun z=>n z.symm),List.append_nil]
   refine⟨a3,a4,a9,fX gs r.2.1,.pu (.str r.1),.pu (.str r.2.1),.pu (.int r.2.2),.pu (.int (le r.2.1)),by rw[tk];exact N.add r,?_⟩
   rw[tk,<- VD (w:=r.2.1) eov,<- eo]
   rfl
  ·rintro _ ⟨a3,a4,a9,gs,y5,y6,y7,y8,N,rfl⟩;rw[List.length_map,List.take_length] at N⊢;show zg5 K c (fin Q) [.pu (aG rows),.pu (aP hs x),.pu (.int B),.tr a3 (nJ ws (sm rows)),.tr a4 (nJ ws (mn rows)),y5,y6,y7,y8,.tr a9 (nJ gs (od rows))] fun _=>Ex;refine⟨a9,_,_,rfl,?_⟩;rw[DG];show aX _ ((gs.map (Sum.inr:Str ->Key)).map cG) _;rw[zra];refine xX D.str D.str (fun _=>false) (fun g hg P hp=> ?_) ?_
   ·have hgs:g∈hs:=by
     obtain⟨r,hr,e⟩:=(N.mem g).mp hg;rw[<- e];exact hh r hr
    refine⟨_,_,.inr g,.int (od rows g),rfl,rfl,by rw[DW (x:=fun w=> .int (od rows w)),if_pos hg],?_⟩
    rw[od0 g hgs];refine⟨oE _ _,?_⟩;rw[vo];exact hp
   ·rw[show gs.filter (fun _=>false)= [] from List.filter_eq_nil_iff.mpr fun _ _=>Bool.false_ne_true];exact⟨Nat.zero_le _,Ve [],h⟩
theorem zlw{K:W.Frag}{c:Cls}{ds Q Ex}(h:Jh c ds Q Ex):zfv K c (fin Q) (aJ 8 ds) fun _=>Ex:=by
 obtain⟨rows,ms,x,U,m,rfl,G,nd,hl,L,hh,b2,b3,b4,b5,h⟩:=h;have s1:=v9;have few:=L.few;have sz:∀g∈ms.flatten,Sz 8500 (x g):=fun g hg=>by
  obtain⟨f,hf,hg⟩:=List.mem_flatten.mp hg;exact G.sz f hf g hg
 refine⟨ms.flatten,x,rfl,nd,hl,sz,fun B B0 dv bB=> ?_⟩
 let le:Str ->Int:=Mz x B
 have qW:∀h∈ms.flatten,((x h).den:Int)≠0/\bN ((x h).den:Int)<=9000/\lE (x h).num (B.fdiv ((x h).den:Int)):=fun g hg=>by
  have dp:=(x g).den_pos;have z:=sz g hg;refine⟨by omega,zN z.2 (by decide),.inr (.inr ?_)⟩
  have:=sO (VB (dv g hg) (by omega))
  have:=z.1;omega
 show zem K c (fin Q) [.pu (aG rows),.pu (aP ms.flatten x),.pu (.int B),.no,.no,.no,.no,.no] fun _=>Ex;refine⟨rows,U,m,rfl,b2,b3,b4,b5,fun jM G' => ?_⟩;obtain rfl:=G'.uniq G.g fun r=>Iff.rfl;refine⟨fun i Γ=>∃y3 y4 y5 y6 y7:Slot,Γ= [.pu (aG rows),.pu (aP jM.flatten x),.pu (.int B),y3,y4,y5,y6,y7],⟨_,_,_,_,_,rfl⟩,?_,?_⟩
 ·rintro i d _ hi ⟨y3,y4,y5,y6,y7,rfl⟩;have hi' :i<jM.length:=by
   have:=(zU.mp hi).1
   rwa [List.length_map] at this
  rw[List.getElem?_map,List.getElem?_eq_getElem hi'] at hi;cases hi;have hm:jM[i]∈jM :=yX hi';generalize jM[i]=g at hm⊢
  let su:List Rw ->Int:=fun l=>fG (ofM l g) fun r=>le r.2.1
  have su0:su rows=0:=by
   have e:=G.em g hm;unfold LK at e;have key:(su rows:Rat)=(B:Rat)*ao (ofM rows g) (fun r=>x r.2.1):=by
    show(fG (ofM rows g) _:Rat)=_;rw[VG,<- uw];refine gB fun r hr=> ?_;rw[Vz (dv _ (hh r (gb.mp hr).1))]
    grind
   rw[e,Rat.mul_zero] at key
   exact_mod_cast key
  show zcz K c _ [.pu (aG rows),.pu (aP jM.flatten x),.pu (.int B),.pu (gl g),.pu (.int 0),y5,y6,y7] _;refine⟨fun j Γ=>∃y5 y6 y7:Slot,Γ= [.pu (aG rows),.pu (aP jM.flatten x),.pu (.int B),.pu (gl g),.pu (.int (su (rows.take j))),y5,y6,y7],⟨_,_,_,rfl⟩,?_,?_⟩
  ·rintro j d _ hj ⟨z5,z6,z7,rfl⟩;have hj' :j<rows.length:=by
    have:=(zU.mp hj).1
    rwa [List.length_map] at this
   rw[List.getElem?_map,List.getElem?_eq_getElem hj'] at hj;cases hj;have tk:=DN hj';have hr:rows[j]∈rows:=yX hj';generalize rows[j]=r at hr tk⊢;generalize rows.take j=l at tk⊢;have hm:=hh r hr;obtain⟨l1,l2,l3⟩:=qW _ hm;have sn:su (l++ [r])=su l+ (if r.2.1∈g then le r.2.1 else 0):=by
    show fG (ofM (l++ [r]) g) _=fG (ofM l g) _+_;unfold ofM;rw[List.filter_append];by_cases q:r.2.1∈g
    ·rw[if_pos q,show([r]:List Rw).filter (fun r=>decide (r.2.1∈g))= [r] by simp [q],VF]
    ·rw[if_neg q,show([r]:List Rw).filter (fun r=>decide (r.2.1∈g))= [] by simp [q],List.append_nil,Int.add_zero]
   refine⟨rfl,rfl,?_⟩;show zdw K c _ [.pu (aG rows),.pu (aP jM.flatten x),.pu (.int B),.pu (gl g),.pu (.int (su l)),.pu (.str r.1),.pu (.str r.2.1),.pu (.int r.2.2)] _;refine⟨rfl,Mp g,?_⟩;show if (if false then _ else inD (.str r.2.1) (g.map .str))=true then _ else _;rw[Jl];by_cases q:r.2.1∈g
   ·rw[if_pos q] at sn;rw[decide_eq_true q];show eG (aP jM.flatten x) (.str r.2.1) _;refine wu hm ⟨_,at0,?_⟩;show eG (aP jM.flatten x) (.str r.2.1) _;refine wu hm ⟨_,at1,⟨l1,l2⟩,l3,?_⟩;refine⟨.pu (.str r.1),.pu (.str r.2.1),.pu (.int r.2.2),?_⟩;rw[tk,sn];rfl
   ·rw[if_neg q,Int.add_zero] at sn;rw[decide_eq_false q];refine⟨.pu (.str r.1),.pu (.str r.2.1),.pu (.int r.2.2),?_⟩;rw[tk,sn]
  ·rintro _ ⟨z5,z6,z7,rfl⟩;rw[List.length_map,List.take_length,su0];refine⟨oE _ _,?_⟩;rw[vo];exact⟨_,_,_,_,_,rfl⟩
 ·rintro _ ⟨y3,y4,y5,y6,y7,rfl⟩;exact h
theorem z66{K:W.Frag}{c:Cls}{ds Q Ex}(h:LQ c ds Q Ex):Jj K c (fin Q) (aJ 4 ds) fun _=>Ex:=by
 obtain⟨ns,rfl,hl,h⟩:=h
 let S:D:= .lst (ns.map .int)
 have main:∀(rows:List Rw) (U:List Str) (m:Nat),rows.length<=100 ->U.length<=12 ->(∀r∈rows,r.2.1∈U) ->Uq rows ->(∀r∈rows,r.2.2.natAbs<2^40) ->(∀w,(bT rows w).length<=m) ->m<=5 ->
   Vb K c (fin Q) [.pu S,.pu (aG rows),.no,.no] fun _=>Ex:=by
  intro rows U m b1 b2 b3 uq mk b4 b5;have wk:∀w,(bZ rows w).length<=5:=fun w=>by
   have:=b4 w;have e:(bT rows w).length=(bZ rows w).length:=Dp rows w;omega
  have L:LB rows:=⟨by omega,fun r hr=>zL (mk r hr) (Nat.pow_le_pow_right (by decide) (by decide)),fun w=>by have:=wk w;omega⟩
  unfold Vb
  and_intros
  show zsk K c (fin Q) [.pu S,.pu (aG rows),.pu (aG rows),.no] fun _=>Ex;refine⟨rows,U,rfl,uq,L,b2,b3,fun ms x G=> ?_⟩;obtain⟨Ss,F,p⟩:=G.g.pi;have nd:ms.flatten.Nodup:=Ln p.dj fun f hf=>Bs (G.g.sr f hf);have mem:∀g,g∈ms.flatten↔∃r∈rows,r.2.1=g:=fun g=>by
   constructor
   ·intro hg;obtain⟨f,hf,hg⟩:=List.mem_flatten.mp hg;exact G.g.hand hf hg
   ·rintro⟨r,hr,rfl⟩;obtain⟨T,hT,e⟩:=F.to r hr;obtain⟨f,hf,hx⟩:=(p.co r.2.1).mpr ⟨T,hT,(e _).mpr (bH.mpr ⟨r,hr,rfl,rfl⟩)⟩;exact List.mem_flatten.mpr ⟨f,hf,hx⟩
  have fl:ms.flatten.length<=12:=zN (xP nd fun z hz=>by
   obtain⟨r,hr,e⟩:=(mem z).mp hz;rw[<- e];exact b3 r hr) b2
  have sz:∀g∈ms.flatten,Sz 8500 (x g):=fun g hg=>by
   obtain⟨f,hf,hg⟩:=List.mem_flatten.mp hg;exact G.sz f hf g hg
  have ev:∀g∈ms.flatten,qe rows x g:=fun g hg=>by
   obtain⟨f,hf,hg⟩:=List.mem_flatten.mp hg;exact G.ev f hf g hg
  have hh:∀r∈rows,r.2.1∈ms.flatten:=fun r hr=>(mem _).mpr ⟨r,hr,rfl⟩;have et:fC ((ms.flatten.map fun h=>qD (x h)).map .leaf)=ms.flatten.map fun h=>qD (x h):=DG _;show Va K c (fin Q) [.pu S,.pu (aG rows),.pu (aG rows),.pu (.nq (ms.flatten.map .inr) (fC ((ms.flatten.map fun h=>qD (x h)).map .leaf)))] fun _=>Ex;rw[et];show Va K c (fin Q) [.pu S,.pu (aG rows),.pu (aG rows),.pu (aP ms.flatten x)] fun _=>Ex;refine⟨zzx rows rows,?_⟩;rw[Ck];refine⟨rows,ms.flatten,x,rfl,nd,by omega,by omega,mem,?_⟩
  show zr7 K c (fin Q) [.pu S,.pu (aG rows),.pu (aG rows),.pu (aP ms.flatten x)] fun _=>Ex;refine⟨rows,ms.flatten,x,rfl,nd,by omega,sz,L,hh,fun r hr=> ?_,ev,?_⟩
  ·have h1:0< (bZ rows r.1).length:=List.length_pos_iff.mpr fun z=>by
    have:=aR.mpr ⟨hr,(rfl:r.1=r.1)⟩;rw[z] at this;cases this
   have h2:=wk r.1;have key:∀n:Nat,0<n ->n<=5 ->n∣60:=fun n h1 h2=>by
    match n,h1,h2 with
    | 1,_,_=>decide
    | 2,_,_=>decide
    | 3,_,_=>decide
    | 4,_,_=>decide
    | 5,_,_=>decide
   exact key _ h1 h2
  ·refine⟨rows,ms,x,U,m,rfl,G,nd,by omega,L,hh,by omega,b3,b4,?_,h⟩
   have:rows.length* (1+m)<=100*6:=Nat.mul_le_mul b1 (by omega)
   omega
 show Jj K c (fin Q) [.pu S,.no,.no,.no] fun _=>Ex;unfold Jj
 and_intros
 obtain⟨t5,e5,h5⟩:=vp (i:=dX ns 0) (n:=5) (by decide)
 obtain⟨t9,e9,h9⟩:=vp (i:=dX ns 1) (n:=9) (by decide)
 refine⟨ns,0,rfl,hl,by omega,by decide,ns,1,rfl,hl,by omega,by decide,ns,1+t5,t9,?_,hl,by omega,by omega,by omega,fun rows U c1 c2 c3 cu ck=> ?_⟩
 ·rw[show(dX ns 0).fmod 5=(t5:Int) from e5,show(dX ns 1).fmod 9=(t9:Int) from e9,Int.natCast_add];rfl
 unfold zr5
 and_intros
 refine⟨ns,0,rfl,hl,by omega,⟨by decide,lO (k:=3) (by decide)⟩,by decide,oE _ _,?_⟩
 split
 ·obtain⟨t3,e3,h3⟩:=vp (i:=dX ns 1) (n:=3) (by decide)
  refine⟨ns,1,rfl,hl,by omega,by decide,ns,12,11+t3,?_,hl,by omega,by omega,by omega,fun rows U c1 c2 c3 c4 cu ck=> ?_⟩
  ·rw[show(dX ns 1).fmod 3=(t3:Int) from e3,Int.natCast_add];rfl
  ·exact main rows U 2 (by omega) (by omega) c3 cu ck c4 (by omega)
 ·refine main rows U 5 (by omega) (by omega) c3 cu ck (fun w=> ?_) (by omega)
  exact zN (xP (Uv cu w) fun y hy=>by
   obtain⟨r,hr,_,e⟩:=fO.mp hy;rw[<- e];exact c3 r hr) c2
end L3
local macro_rules | `(#[$x])=> `(by exact $x)
local macro_rules | `(#[$x,_])=> `(fun _ _ _ _ _ _=>by exact $x)
local macro_rules | `(tactic| symm_saturate)=> `(tactic| exact⟨rfl,by decide+kernel,by decide+kernel,by decide+kernel,rfl,by decide+kernel⟩)
local macro_rules | `(tactic| trivial)=> `(tactic| first | exact Or.inl rfl | exact Or.inr (Or.inl rfl) | exact Or.inr (Or.inr rfl) | exact Or.inr rfl)
local macro_rules | `(tactic| nofun)=> `(tactic| exact ⟨rfl,rfl,rfl,by decide+kernel,rfl,by decide+kernel,by decide+kernel⟩)
namespace Lw
open PySem PySem.Spec PyProof.Rows L2 L3
def top(i:Nat):Stmt:=PySem.Challenge.pw_hall_k32_whole_leanings_even.main.body.getD i (.Pass ⟨0,0,0,0⟩)
theorem cN{k:Nat}{A:Around}{e:Env}(hr:fB k (A.deeper e)):(A.deeper e).units+21<cLine:=by have:=hr.units;omega
theorem len1{us:List Value}(h:us.length=1):∃a0,us= [a0]:=by
 match us,h with | [a0],_=>exact⟨a0,rfl⟩
theorem len2{us:List Value}(h:us.length=2):∃a0 a1,us= [a0,a1]:=by
 match us,h with | [a0,a1],_=>exact⟨a0,a1,rfl⟩
theorem rW{us:List Value}(h:us.length=3):∃a0 a1 a2,us= [a0,a1,a2]:=by
 match us,h with | [a0,a1,a2],_=>exact⟨a0,a1,a2,rfl⟩
theorem VJ{us:List Value}(h:us.length=4):∃a0 a1 a2 a3,us= [a0,a1,a2,a3]:=by
 match us,h with | [a0,a1,a2,a3],_=>exact⟨a0,a1,a2,a3,rfl⟩
theorem VL{us:List Value}(h:us.length=5):∃a0 a1 a2 a3 a4,us= [a0,a1,a2,a3,a4]:=by
 match us,h with | [a0,a1,a2,a3,a4],_=>exact⟨a0,a1,a2,a3,a4,rfl⟩
section
variable(P:Program)(w:World)(K:W.Frag)(mg:Str ->Option Value)(base:Heap)(c:Cls)
abbrev zh1:Prop:=cR P w K mg base "_law_names" 1 ["_law_cell_here","_law_many"] (Bq c)
abbrev Jz:Prop:=cR P w K mg base "_law_cell" 1 ["_law_script","_law_k"] (oA c)
abbrev VN:Prop:=cR P w K mg base "_law_rows" 2 ["_law_script","_law_hands","_law_works"] (Je c)
abbrev zky:Prop:=nG P w K mg base "by_work" 1 ["rows"] (Dt c)
abbrev zlh:Prop:=cR P w K mg base "divisor" 1 ["one","other"] (Dq c)
abbrev MF:Prop:=cR P w K mg base "fraction" 2 ["top","bottom"] (xV c)
abbrev VP:Prop:=cR P w K mg base "sheets_with" 1 ["hand","sheets"] (xW c)
abbrev zwr:Prop:=cR P w K mg base "plus" 3 ["one","other"] (Dr c)
abbrev zrl:Prop:=cR P w K mg base "total" 4 ["some"] (Ds c)
abbrev VR:Prop:=nG P w K mg base "leanings" 8 ["rows"] (Jb c)
abbrev V0:Prop:=cR P w K mg base "_law_long_rows" 2 ["_law_script","_law_hands","_law_works"] (Jf c)
abbrev zfr:Prop:=cR P w K mg base "_law_divisor" 1 ["_law_one","_law_other"] (Dv c)
abbrev zgv:Prop:=cR P w K mg base "_law_common" 2 ["_law_told"] (Dw c)
abbrev V1:Prop:=cR P w K mg base "_law_even" 3 ["_law_rows_here","_law_told"] (Jg c)
abbrev V2:Prop:=cR P w K mg base "_law_grouped" 3 ["_law_rows_here","_law_told"] (Jh c)
abbrev V3:Prop:=cR P w K mg base "_law_kinds" 2 ["_law_told","_law_rows_here"] (Ji c)
end
section
variable{P:Program}{w:World}{K:W.Frag}{mg:Str ->Option Value}{base:Heap}{f:Addr}{fd:FuncData}{cdv:Value}{A:Around}{outer:List Env}{s:Shared}{H:Hp}{E:XK}{F0:Hp}(c:Cls)
abbrev V4:Stmt:=top 34
theorem jo:aD ["_law_cell_here","_law_many","_law_letters","_law_size","_law_at","_law_names_here","_law_k","_law_name","_law_j","_law_number"] ["_law_cell_here","_law_many"] (bV V4):=by nofun
theorem zoq(F:fP K "_law_names" "_law_names" V4 f fd)(hm:mg "_law_names" =some (.ref f))(bC:mg "range" =none)(lQ:mg "int" =none):cR P w K mg base "_law_names" 1 ["_law_cell_here","_law_many"] (Bq c):=
 ⟨f,fd,iW F jo (fun _ _ _ h=>zp8 h) fun cdv A outer s H E hr F0=>⟨Ma K c,by
  have nd:=jo.nd;have hu:=cN hr;exact(bx #[dF (i:=2) nd rfl (by trivial) #[Ci]]
   #[bx #[dF (i:=3) nd rfl (by trivial) #[aU (fun _=>kO) aM (aU (fun _=>gJ) (aU (fun _=>mU) (qv 0) aM) aM)]]
   #[bx #[lD #[iR (fun _=>gK hu) (aU (fun _=>gJ) (qv 0) aM) aM (aL _)]
   #[bM #[dF (i:=3) nd rfl (by trivial) #[aM]]]
   #[lC]]
   #[bx #[dF (i:=4) nd rfl (by trivial) #[aU (fun _=>gJ) (aU (fun _=>mU) (qv 0) aM) (qv 3)]]
   #[bx #[zj (i:=5) nd rfl (by trivial) #[oh aN]]
   #[bx #[zp rfl rfl bC #[aA (qv 1) aN] #[cQ (i:=6) nd rfl (by trivial)]
   #[bx #[dF (i:=7) nd rfl (by trivial) #[Ci]]
   #[bx #[zp rfl rfl bC #[aA (aU (fun _=>kO) (qv 3) (aU (fun _=>iY) (qv 6) (YQ (fun _=>Y7) rfl lQ boot_int (aA (uW (fun _=>gK hu) (aU (fun _=>gJ) (qv 0) aM) aM (aL _)) aN)))) aN] #[cQ (i:=8) nd rfl (by trivial)]
   #[bx #[dF (i:=9) nd rfl (by trivial) #[aU (fun _=>gJ) (aU (fun _=>kO) (aU (fun _=>kO) (aU (fun _=>iY) (aU (fun _=>mU) (qv 0) aM) aM) (aU (fun _=>iY) (aU (fun _=>iY) (qv 8) (qv 8)) aM)) (aU (fun _=>iY) (qv 8) aM)) aM]]
   #[bM #[dF (i:=7) nd rfl (by trivial) #[aU (fun _=>kO) (qv 7) (d8 (qv 2) (aU (fun _=>gJ) (aU (fun _=>kO) (qv 9) (aU (fun _=>iY) (qv 6) (YQ (fun _=>Y7) rfl lQ boot_int (aA (PX (uW (fun _=>gK hu) (qv 8) (qv 4) (aL _)) (J8 (uW (fun _=>kh hu) (aU (fun _=>gJ) (qv 0) aM) aM (aL _)))) aN)))) aM) (fun _ _=>rfl))]]]]]
   #[bM #[CN (i:=5) (fun _=>GJ) PySem.F.slot_list_append PySem.F.type_list_append rfl (by trivial) #[aA (qv 7) aN]]]]]]
   #[bM #[fV #[qv 5]]]]]]]]),fun ds Q Ex h=>zps h⟩,hm,F.kp,F.binds fun _ _ _ _ _ _ us hl=>by obtain⟨_,_,rfl⟩:=len2 hl;exact rfl⟩
abbrev V5:Stmt:=top 32
theorem jW:aD ["_law_script","_law_k","_law_number"] ["_law_script","_law_k"] (bV V5):=by nofun
theorem zpr(F:fP K "_law_cell" "_law_cell" V5 f fd)(hm:mg "_law_cell" =some (.ref f))(bO:mg "len" =none):cR P w K mg base "_law_cell" 1 ["_law_script","_law_k"] (oA c):=
 ⟨f,fd,iW F jW (fun _ _ _ h=>ztn h) fun cdv A outer s H E hr F0=>⟨zjw K c,by
  have nd:=jW.nd;have hu:=cN hr;exact(bx #[lD #[iR (fun _=>zy) (qv 1) (p7 (fun _=>vQ) rfl bO boot_len (aA (qv 0) aN)) (aL _)]
   #[bM #[fV #[d8 (qv 0) (qv 1) (fun _ _=>rfl)]]]
   #[lC]]
   #[bx #[dF (i:=2) nd rfl (by trivial) #[aU (fun _=>kO) (aU (fun _=>iY) (qv 1) aM) aM]]
   #[bx #[lD #[iR (fun _=>vP) (p7 (fun _=>vQ) rfl bO boot_len (aA (qv 0) aN)) aM (aL _)]
   #[bM #[dF (i:=2) nd rfl (by trivial) #[aU (fun _=>gJ) (aU (fun _=>kO) (aU (fun _=>iY) (d8 (qv 0) (aU (fun _=>gJ) (aU (fun _=>iY) (qv 1) aM) (p7 (fun _=>vQ) rfl bO boot_len (aA (qv 0) aN))) (fun _ _=>rfl)) aM) (aU (fun _=>iY) (qv 1) aM)) aM]]]
   #[lC]]
   #[bM #[fV #[aU (fun _=>gJ) (aU (fun _=>iY) (qv 2) (qv 2)) aM]]]]]),fun ds Q Ex h=>ztd h⟩,hm,F.kp,F.binds fun _ _ _ _ _ _ us hl=>by obtain⟨_,_,rfl⟩:=len2 hl;exact rfl⟩
abbrev V6:Stmt:=top 35
theorem iK:aD ["_law_way","_law_w","_law_h","_law_hands","_law_cell_here"] ["_law_way","_law_w","_law_h","_law_hands","_law_cell_here"] (bV V6):=by nofun
theorem zlp(F:fP K "_law_marked" "_law_marked" V6 f fd)(hm:mg "_law_marked" =some (.ref f)):cR P w K mg base "_law_marked" 1 ["_law_way","_law_w","_law_h","_law_hands","_law_cell_here"] (Jd c):=
 ⟨f,fd,iW F iK (fun _ _ _ h=>zny h) fun cdv A outer s H E hr F0=>⟨Mf K c,by
  have nd:=iK.nd;have hu:=cN hr;exact(bx #[lD #[iR (fun _=>gK hu) (qv 0) aM (aL _)]
   #[bM #[fV #[uW (fun _=>vP) (aU (fun _=>gJ) (qv 4) aM) aM (aL _)]]]
   #[lC]]
   #[bx #[lD #[iR (fun _=>gK hu) (qv 0) aM (aL _)]
   #[bM #[fV #[z6z (uW (fun _=>gK hu) (qv 2) (aU (fun _=>gJ) (qv 1) (qv 3)) (aL _)) (J8 (uW (fun _=>gK hu) (qv 2) (aU (fun _=>gJ) (aU (fun _=>kO) (qv 1) aM) (qv 3)) (aL _)))]]]
   #[lC]]
   #[bx #[lD #[iR (fun _=>gK hu) (qv 0) aM (aL _)]
   #[bM #[fV #[PX (uW (fun _=>gK hu) (aU (fun _=>gJ) (qv 1) aM) (aU (fun _=>gJ) (qv 2) aM) (aL _)) (J8 (uW (fun _=>vP) (aU (fun _=>gJ) (qv 4) aM) aM (aL _)))]]]
   #[lC]]
   #[bM #[fV #[vN]]]]]),fun ds Q Ex h=>znz h⟩,hm,F.kp,F.binds fun _ _ _ _ _ _ us hl=>by obtain⟨_,_,_,_,_,rfl⟩:=VL hl;exact rfl⟩
abbrev V7:Stmt:=top 36
theorem jX:aD ["_law_script","_law_hands","_law_works","_law_way","_law_most","_law_names_here","_law_people","_law_rows_here","_law_w","_law_h","_law_cell_here","_law_turn"] ["_law_script","_law_hands","_law_works"] (bV V7):=by nofun
theorem zqi(F:fP K "_law_rows" "_law_rows" V7 f fd)(hm:mg "_law_rows" =some (.ref f))(cD:zh1 P w K mg base c)(aC:Jz P w K mg base c)(gh:cR P w K mg base "_law_marked" 1 ["_law_way","_law_w","_law_h","_law_hands","_law_cell_here"] (Jd c))(bC:mg "range" =none)(bO:mg "len" =none):cR P w K mg base "_law_rows" 2 ["_law_script","_law_hands","_law_works"] (Je c):=
 ⟨f,fd,iW F jX (fun _ _ _ h=>zte h) fun cdv A outer s H E hr F0=>⟨Mg K c,by
  have nd:=jX.nd;have hu:=cN hr;exact(bx #[dF (i:=3) nd rfl (by trivial) #[aU (fun _=>gJ) (dh aC (hr.mono (by decide)) rfl (aA (qv 0) (aA aM aN))) aM]]
   #[bx #[dF (i:=4) nd rfl (by trivial) #[d8 (dZ #[oh (aA aM (aA aM (aA aM (aA (aU (fun _=>z68) aM aM) aN))))]) (aU (fun _=>gJ) (dh aC (hr.mono (by decide)) rfl (aA (qv 0) (aA aM aN))) aM) (fun _ _=>rfl)]]
   #[bx #[dF (i:=5) nd rfl (by trivial) #[dh cD (hr.mono (by decide)) rfl (aA (dh aC (hr.mono (by decide)) rfl (aA (qv 0) (aA aM aN))) (aA (qv 2) aN))]]
   #[bx #[dF (i:=6) nd rfl (by trivial) #[dh cD (hr.mono (by decide)) rfl (aA (dh aC (hr.mono (by decide)) rfl (aA (qv 0) (aA aM aN))) (aA (qv 1) aN))]]
   #[bx #[zj (i:=7) nd rfl (by trivial) #[oh aN]]
   #[bx #[zp rfl rfl bC #[aA (qv 2) aN] #[cQ (i:=8) nd rfl (by trivial)]
   #[bM #[zp rfl rfl bC #[aA (qv 1) aN] #[cQ (i:=9) nd rfl (by trivial)]
   #[bx #[dF (i:=10) nd rfl (by trivial) #[dh aC (hr.mono (by decide)) rfl (aA (qv 0) (aA (aU (fun _=>kO) (aU (fun _=>kO) aM (aU (fun _=>iY) (qv 8) (qv 1))) (qv 9)) aN))]]
   #[bM #[lD #[wK (dh gh (hr.mono (by decide)) rfl (aA (qv 3) (aA (qv 8) (aA (qv 9) (aA (qv 1) (aA (qv 10) aN))))))]
   #[bM #[CN (i:=7) (fun _=>GJ) PySem.F.slot_list_append PySem.F.type_list_append rfl (by trivial) #[aA (uY (aA (d8 (qv 5) (qv 8) (fun _ _=>rfl)) (aA (d8 (qv 6) (qv 9) (fun _ _=>rfl)) (aA (aU (fun _=>gJ) (aU (fun _=>mU) (qv 10) aM) (qv 4)) aN)))) aN]]]
   #[lC]]]]]]]
   #[bx #[dF (i:=11) nd rfl (by trivial) #[aU (fun _=>gJ) (aU (fun _=>mU) (dh aC (hr.mono (by decide)) rfl (aA (qv 0) (aA aM aN))) aM) (aU (fun _=>kO) (Kz (fun F0 H0=>by exact(p7 (fun _=>vQ) rfl bO boot_len (aA (qv 7) aN)))) aM)]]
   #[bM #[fV #[dZ #[wV (dZ #[Ky (qv 7) (Kw (qv 11)) Kv]) (dZ #[Ky (qv 7) Kv (Kw (qv 11))])]]]]]]]]]]),fun ds Q Ex h=>ztj h⟩,hm,F.kp,F.binds fun _ _ _ _ _ _ us hl=>by obtain⟨_,_,_,rfl⟩:=rW hl;exact rfl⟩
abbrev MJ:Stmt:=top 15
theorem qX:aD ["group","hands"] ["group","hands"] (bV MJ):=by nofun
theorem z1j(F:fP K "meet" "meet" MJ f fd)(hm:mg "meet" =some (.ref f))(uG:mg "any" =none):cR P w K mg base "meet" 1 ["group","hands"] (Du c):=
 ⟨f,fd,iW F qX (fun _ _ _ h=>z5u h) fun cdv A outer s H E hr F0=>⟨zwe K c,by
  have nd:=qX.nd;have hu:=cN hr;exact(bM (by exact(fV (by exact(p7 (fun _=>z6w rfl) rfl uG boot_any (aA (dZ (by exact(oU (own:= ["hand"]) (N' := ["hand","group"]) (by show dw ["group","hands"] _ ["hand"] [0] (bV MJ) ["hand","group"];symm_saturate) rfl #[mD (oO (qv 1))] #[cQ (i:=0) (show(["hand","group"]:List Str).Nodup by decide+kernel) rfl (by trivial),_] #[qN,_] #[uW (fun _=>tU) (qv 0) (qv 1) (by with_unfolding_all rfl),_]))) aN)))))),fun ds Q Ex h=>z5a h⟩,hm,F.kp,F.binds fun _ _ _ _ _ _ us hl=>by obtain⟨_,_,rfl⟩:=len2 hl;exact rfl⟩
abbrev MK:Stmt:=top 14
theorem mY:aD ["found","hands","apart","together","group"] ["found","hands"] (bV MK):=by nofun
theorem zu5(F:fP K "joined" "joined" MK f fd)(hm:mg "joined" =some (.ref f))(nM:cR P w K mg base "meet" 1 ["group","hands"] (Du c))(bU:mg "list" =none)(bI:mg "sorted" =none)(jq:mg "set" =none):cR P w K mg base "joined" 2 ["found","hands"] (Iv c):=
 ⟨f,fd,iW F mY (fun _ _ _ h=>zzc h) fun cdv A outer s H E hr F0=>⟨zoz K c,by
  have nd:=mY.nd;have hu:=cN hr;exact(bx (by exact(GK (by exact(GD (i:=2) nd rfl rfl (own:= ["group"]) (N' := ["group","hands"]) (by show dw ["found","hands","apart","together","group"] _ ["group"] [1] (bV MK) ["group","hands"];symm_saturate) rfl #[mD (oO (qv 0))] #[cQ (i:=0) (show(["group","hands"]:List Str).Nodup by decide+kernel) rfl (by trivial),_] #[wQ (Gi (wK (dh nM (hr.mono (by decide)) rfl (aA (qv 0) (aA (qv 1) aN))))),_] #[qv 0,_]))))
   #[bx #[zj (i:=3) nd rfl (by trivial) #[Ku (fun _=>Ro) rfl bU boot_list (aA (qv 1) aN)]]
   #[bx #[rF rfl #[qv 0] #[cQ (i:=4) nd rfl (by trivial)]
   #[bM #[lD #[wK (dh nM (hr.mono (by decide)) rfl (aA (qv 4) (aA (qv 1) aN)))]
   #[bM #[CN (i:=3) (fun _=>zvu) PySem.F.slot_list_extend PySem.F.type_list_extend rfl (by trivial) #[aA (qv 4) aN]]]
   #[lC]]]]
   #[bM #[fV #[dZ #[wV (qv 2) (dZ #[oh (aA (dZ #[Tj rfl rfl bI rfl jq (aA (qv 3) aN)]) aN)])]]]]]]),fun ds Q Ex h=>zxz h⟩,hm,F.kp,F.binds fun _ _ _ _ _ _ us hl=>by obtain⟨_,_,rfl⟩:=len2 hl;exact rfl⟩
abbrev V8:Stmt:=top 11
theorem lR:aD ["rows","sheets","work","hand","mark"] ["rows"] (bV V8):=by nofun
theorem ztc(F:fP K "by_work" "by_work" V8 f fd)(hm:mg "by_work" =some (.ref f)):nG P w K mg base "by_work" 1 ["rows"] (Dt c):=
 ⟨f,fd,Ax F lR (fun _ _ _ h=>zvw h) fun cdv A outer s H E hr F0=>⟨zlg K c,by
  have nd:=lR.nd;have hu:=cN hr;exact(bx #[Hh (i:=1) nd rfl (by trivial) #[CZ]]
   #[bx #[rF rfl #[qv 0] #[sJ rfl (iU (cQ (i:=2) nd rfl (by trivial)) (iU (cQ (i:=3) nd rfl (by trivial)) (iU (cQ (i:=4) nd rfl (by trivial)) sI)))]
   #[bx #[lD #[z51 (i:=1) (hu1 hu) #[qv 2] rfl (by trivial)]
   #[bM #[z55 (i:=1) (j:=2) (hu1 hu) rfl (by trivial) rfl (by trivial) #[CZ]]]
   #[lC]]
   #[bM #[z4x (i:=1) (j:=2) (l:=3) (hu1 hu) rfl (by trivial) rfl (by trivial) rfl (by trivial) #[qv 4]]]]]
   #[bM #[SN #[Z0 (i:=1) rfl (by trivial)]]]]),fun ds Q Ex h=>zxr h⟩,hm,F.kp,F.binds fun _ _ _ _ _ _ us hl=>by obtain⟨_,rfl⟩:=len1 hl;exact rfl⟩
abbrev V9:Stmt:=top 13
theorem mZ:aD ["rows","found","sheet"] ["rows"] (bV V9):=by nofun
theorem zxh(F:fP K "groups" "groups" V9 f fd)(hm:mg "groups" =some (.ref f))(lU:cR P w K mg base "joined" 2 ["found","hands"] (Iv c))(eU:zky P w K mg base c)(bI:mg "sorted" =none)(bU:mg "list" =none):nG P w K mg base "groups" 3 ["rows"] (Iw c):=
 ⟨f,fd,Ax F mZ (fun _ _ _ h=>zx0 h) fun cdv A outer s H E hr F0=>⟨zox K c,by
  have nd:=mZ.nd;have hu:=cN hr;exact(bx #[dF (i:=1) nd rfl (by trivial) #[dZ #[oh aN]]]
   #[bx #[Rm rfl #[zui #[Z4 eU (hr.mono (by decide)) rfl (aA (qv 0) aN)]] #[cQ (i:=2) nd rfl (by trivial)]
   #[bM #[dF (i:=1) nd rfl (by trivial) #[dh lU (hr.mono (by decide)) rfl (aA (qv 1) (aA (dZ #[Ku (fun _=>z1m rfl) rfl bU boot_list (aA (qv 2) aN)]) aN))]]]]
   #[bM #[SN #[z6p #[YM (fun _=>z0n hu) rfl bI boot_sorted (aA (qv 1) aN)]]]]]),fun ds Q Ex h=>zyr h⟩,hm,F.kp,F.binds fun _ _ _ _ _ _ us hl=>by obtain⟨_,rfl⟩:=len1 hl;exact rfl⟩
abbrev Wa:Stmt:=top 5
theorem lV:aD ["one","other","rest"] ["one","other"] (bV Wa):=by nofun
theorem zs1(F:fP K "divisor" "divisor" Wa f fd)(hm:mg "divisor" =some (.ref f))(lW:mg "abs" =none):cR P w K mg base "divisor" 1 ["one","other"] (Dq c):=
 ⟨f,fd,iW F lV (fun _ _ _ h=>zww h) fun cdv A outer s H E hr F0=>⟨zk4 K c,by
  have nd:=lV.nd;have hu:=cN hr;exact(bx #[Yg #[iR (fun _=>kh hu) (qv 1) aM (aL _)]
   #[bx #[dF (i:=2) nd rfl (by trivial) #[aU (fun _=>gJ) (qv 0) (qv 1)]]
   #[bx #[dF (i:=0) nd rfl (by trivial) #[qv 1]]
   #[bM #[dF (i:=1) nd rfl (by trivial) #[qv 2]]]]]]
   #[bM #[fV #[p7 (fun _=>QD) rfl lW boot_abs (aA (qv 0) aN)]]]),fun ds Q Ex h=>zv8 h⟩,hm,F.kp,F.binds fun _ _ _ _ _ _ us hl=>by obtain⟨_,_,rfl⟩:=len2 hl;exact rfl⟩
abbrev MN:Stmt:=top 18
theorem jr:aD ["row","multiple","part"] ["row"] (bV MN):=by nofun
theorem zn5(F:fP K "whole_row" "whole_row" MN f fd)(hm:mg "whole_row" =some (.ref f))(eV:zlh P w K mg base c):cR P w K mg base "whole_row" 2 ["row"] (Il c):=
 ⟨f,fd,iW F jr (fun _ _ _ h=>zqm h) fun cdv A outer s H E hr F0=>⟨zh5 K c,by
  have nd:=jr.nd;have hu:=cN hr;exact(bx #[dF (i:=1) nd rfl (by trivial) #[aM]]
   (by exact(bx #[rF rfl #[qv 0] #[cQ (i:=2) nd rfl (by trivial)]
   #[bM #[dF (i:=1) nd rfl (by trivial) #[aU (fun _=>iY) (qv 1) (aU (fun _=>mU) (d8 (qv 2) aM (fun _ _=>rfl)) (dh eV (hr.mono (by decide)) rfl (aA (qv 1) (aA (d8 (qv 2) aM (fun _ _=>rfl)) aN))))]]]]
   (by exact(bM (by exact(fV (by exact(dZ (by exact(oU (own:= ["part"]) (N' := ["part","multiple"]) (by show dw ["row","multiple","part"] _ ["part"] [1] (bV MN) ["part","multiple"];symm_saturate) rfl #[mD (oO (qv 0))] #[cQ (i:=0) (show(["part","multiple"]:List Str).Nodup by decide+kernel) rfl (by trivial),_] #[qN,_] #[aU (fun _=>iY) (d8 (qv 0) aM (fun _ _=>rfl)) (aU (fun _=>mU) (qv 1) (d8 (qv 0) aM (fun _ _=>rfl))),_]))))))))))),fun ds Q Ex h=>zqn h⟩,hm,F.kp,F.binds fun _ _ _ _ _ _ us hl=>by obtain⟨_,rfl⟩:=len1 hl;exact rfl⟩
abbrev MP:Stmt:=top 22
theorem lX:aD ["row","lead","place","ahead"] ["row","lead","place","ahead"] (bV MP):=by nofun
theorem zto(F:fP K "without" "without" MP f fd)(hm:mg "without" =some (.ref f))(jt:mg "zip" =none):cR P w K mg base "without" 1 ["row","lead","place","ahead"] (Im c):=
 ⟨f,fd,iW F lX (fun _ _ _ h=>zuq h) fun cdv A outer s H E hr F0=>⟨zkq K c,by
  have nd:=lX.nd;have hu:=cN hr;exact(bM (by exact(fV (by exact(dZ (by exact(oU (own:= ["part","head"]) (N' := ["part","head","row","lead","place","ahead"]) (by show dw ["row","lead","place","ahead"] _ ["part","head"] [0,1,2,3] (bV MP) ["part","head","row","lead","place","ahead"];symm_saturate) rfl #[mD (RT rfl rfl jt (aA (qv 0) (aA (qv 1) aN)))] #[sJ rfl (iU (cQ (i:=0) (show(["part","head","row","lead","place","ahead"]:List Str).Nodup by decide+kernel) rfl (by trivial)) (iU (cQ (i:=1) (show(["part","head","row","lead","place","ahead"]:List Str).Nodup by decide+kernel) rfl (by trivial)) sI)),_] #[qN,_] #[aU (fun _=>mU) (aU (fun _=>zu) (aU (fun _=>iY) (d8 (qv 3) (qv 4) (fun _ _=>rfl)) (qv 0)) (aU (fun _=>iY) (d8 (qv 2) (qv 4) (fun _ _=>rfl)) (qv 1))) (qv 5),_]))))))),fun ds Q Ex h=>zus h⟩,hm,F.kp,F.binds fun _ _ _ _ _ _ us hl=>by obtain⟨_,_,_,_,rfl⟩:=VJ hl;exact rfl⟩
abbrev M4:Stmt:=top 21
theorem lY:aD ["table","place","ahead","lead"] ["table","place","ahead"] (bV M4):=by nofun
theorem ztw(F:fP K "cleared" "cleared" M4 f fd)(hm:mg "cleared" =some (.ref f))(jN:cR P w K mg base "without" 1 ["row","lead","place","ahead"] (Im c))(cZ:mg "enumerate" =none):cR P w K mg base "cleared" 2 ["table","place","ahead"] (Io c):=
 ⟨f,fd,iW F lY (fun _ _ _ h=>zxg h) fun cdv A outer s H E hr F0=>⟨zkr K c,by
  have nd:=lY.nd;have hu:=cN hr;exact(bx #[dF (i:=3) nd rfl (by trivial) #[d8 (qv 0) (qv 1) (fun _ _=>rfl)]]
   (by exact(bM (by exact(fV (by exact(dZ (by exact(oU (own:= ["spot","row"]) (N' := ["spot","row","place","ahead","lead"]) (by show dw ["table","place","ahead","lead"] _ ["spot","row"] [1,2,3] (bV M4) ["spot","row","place","ahead","lead"];symm_saturate) rfl #[mD (Y6 rfl rfl cZ (aA (qv 0) aN))] #[sJ rfl (iU (cQ (i:=0) (show(["spot","row","place","ahead","lead"]:List Str).Nodup by decide+kernel) rfl (by trivial)) (iU (cQ (i:=1) (show(["spot","row","place","ahead","lead"]:List Str).Nodup by decide+kernel) rfl (by trivial)) sI)),_] #[qN,_] #[Yd (iR (fun _=>gK hu) (qv 0) (qv 2) (aL _)) (qv 1) (dh jN (hr.mono (by decide)) rfl (aA (qv 1) (aA (qv 4) (aA (qv 2) (aA (qv 3) aN))))),_]))))))))),fun ds Q Ex h=>zuf h⟩,hm,F.kp,F.binds fun _ _ _ _ _ _ us hl=>by obtain⟨_,_,_,rfl⟩:=rW hl;exact rfl⟩
abbrev Wb:Stmt:=top 6
theorem jY:aD ["top","bottom","common"] ["top","bottom"] (bV Wb):=by nofun
theorem zqh(F:fP K "fraction" "fraction" Wb f fd)(hm:mg "fraction" =some (.ref f))(eV:zlh P w K mg base c)(eO:mg "NoFraction" =some (.ref c.bQ)/\oJ K c.bQ):cR P w K mg base "fraction" 2 ["top","bottom"] (xV c):=
 ⟨f,fd,iW F jY (fun _ _ _ h=>zs4 h) fun cdv A outer s H E hr F0=>⟨zje K c,by
  have nd:=jY.nd;have hu:=cN hr;exact(bx #[lD #[iR (fun _=>gK hu) (qv 1) aM (aL _)]
   #[bM #[Yt rfl rfl eO.1 eO.2 (aA Ci aN)]]
   #[lC]]
   #[bx #[dF (i:=2) nd rfl (by trivial) #[dh eV (hr.mono (by decide)) rfl (aA (qv 0) (aA (qv 1) aN))]]
   #[bx #[lD #[iR (fun _=>zy) (qv 1) aM (aL _)]
   #[bM #[dF (i:=2) nd rfl (by trivial) #[QC (qv 2)]]]
   #[lC]]
   #[bM #[fV #[uY (aA (aU (fun _=>mU) (qv 0) (qv 2)) (aA (aU (fun _=>mU) (qv 1) (qv 2)) aN))]]]]]),fun ds Q Ex h=>ztt h⟩,hm,F.kp,F.binds fun _ _ _ _ _ _ us hl=>by obtain⟨_,_,rfl⟩:=len2 hl;exact rfl⟩
abbrev Wc:Stmt:=top 20
theorem ju:aD ["table","place","spot","other"] ["table","place","spot"] (bV Wc):=by nofun
theorem zoa(F:fP K "exchanged" "exchanged" Wc f fd)(hm:mg "exchanged" =some (.ref f))(bU:mg "list" =none):cR P w K mg base "exchanged" 1 ["table","place","spot"] (Ip c):=
 ⟨f,fd,iW F ju (fun _ _ _ h=>zqx h) fun cdv A outer s H E hr F0=>⟨zhx K c,by
  have nd:=ju.nd;have hu:=cN hr;exact(bx #[zj (i:=3) nd rfl (by trivial) #[Ku (fun _=>Ro) rfl bU boot_list (aA (qv 0) aN)]]
   #[bx #[Zj (i:=3) rfl (by trivial) #[qv 1] #[d8 (qv 0) (qv 2) (fun _ _=>rfl)]]
   #[bx #[Zj (i:=3) rfl (by trivial) #[qv 2] #[d8 (qv 0) (qv 1) (fun _ _=>rfl)]]
   #[bM #[fV #[qv 3]]]]]),fun ds Q Ex h=>zqz h⟩,hm,F.kp,F.binds fun _ _ _ _ _ _ us hl=>by obtain⟨_,_,_,rfl⟩:=rW hl;exact rfl⟩
abbrev Wd:Stmt:=top 19
theorem uH:aD ["table","place","spot"] ["table","place"] (bV Wd):=by nofun
theorem z42(F:fP K "led" "led" Wd f fd)(hm:mg "led" =some (.ref f))(gQ:cR P w K mg base "exchanged" 1 ["table","place","spot"] (Ip c))(bC:mg "range" =none)(bO:mg "len" =none)(gj:mg "NoAnswer" =some (.ref c.dU)/\oJ K c.dU):cR P w K mg base "led" 2 ["table","place"] (Ir c):=
 ⟨f,fd,iW F uH (fun _ _ _ h=>z7b h) fun cdv A outer s H E hr F0=>⟨z08 K c,by
  have nd:=uH.nd;have hu:=cN hr;exact(bx #[z3j rfl rfl bC #[aA (qv 1) (aA (p7 (fun _=>vQ) rfl bO boot_len (aA (qv 0) aN)) aN)] #[cQ (i:=2) nd rfl (by trivial)]
   #[bM #[lD #[iR (fun _=>kh hu) (d8 (d8 (qv 0) (qv 2) (fun _ _=>rfl)) (qv 1) (fun _ _=>rfl)) aM (aL _)]
   #[bM #[fV #[dh gQ (hr.mono (by decide)) rfl (aA (qv 0) (aA (qv 1) (aA (qv 2) aN)))]]]
   #[lC]]]]
   #[bM #[Yt rfl rfl gj.1 gj.2 (aA Ci aN)]]),fun ds Q Ex h=>z7c h⟩,hm,F.kp,F.binds fun _ _ _ _ _ _ us hl=>by obtain⟨_,_,rfl⟩:=len2 hl;exact rfl⟩
abbrev JB:Stmt:=top 17
theorem m5:aD ["rows","rights","table","ahead","place"] ["rows","rights"] (bV JB):=by nofun
theorem zxb(F:fP K "solved" "solved" JB f fd)(hm:mg "solved" =some (.ref f))(gR:cR P w K mg base "whole_row" 2 ["row"] (Il c))(jO:cR P w K mg base "cleared" 2 ["table","place","ahead"] (Io c))(bh:MF P w K mg base c)(uI:cR P w K mg base "led" 2 ["table","place"] (Ir c))(bC:mg "range" =none)(bO:mg "len" =none)(jt:mg "zip" =none)(cZ:mg "enumerate" =none):cR P w K mg base "solved" 3 ["rows","rights"] (Iu c):=
 ⟨f,fd,iW F m5 (fun _ _ _ h=>zzk h) fun cdv A outer s H E hr F0=>⟨zo5 K c,by
  have nd:=m5.nd;have hu:=cN hr;exact(bx (by exact(GK (by exact(GD (i:=2) nd rfl rfl (own:= ["row","right"]) (N' := ["row","right"]) (by show dw ["rows","rights","table","ahead","place"] _ ["row","right"] [] (bV JB) ["row","right"];symm_saturate) rfl #[mD (RT rfl rfl jt (aA (qv 0) (aA (qv 1) aN)))] #[sJ rfl (iU (cQ (i:=0) (show(["row","right"]:List Str).Nodup by decide+kernel) rfl (by trivial)) (iU (cQ (i:=1) (show(["row","right"]:List Str).Nodup by decide+kernel) rfl (by trivial)) sI)),_] #[qN,_] #[dh gR (hr.mono (by decide)) rfl (aA (dZ #[wV (qv 0) (dZ #[oh (aA (qv 1) aN)])]) aN),_]))))
   (by exact(bx #[dF (i:=3) nd rfl (by trivial) #[aM]]
   (by exact(bx #[zp rfl rfl bC #[aA (p7 (fun _=>vQ) rfl bO boot_len (aA (qv 2) aN)) aN] #[cQ (i:=4) nd rfl (by trivial)]
   #[bx #[dF (i:=2) nd rfl (by trivial) #[dh jO (hr.mono (by decide)) rfl (aA (dh uI (hr.mono (by decide)) rfl (aA (qv 2) (aA (qv 4) aN))) (aA (qv 4) (aA (qv 3) aN)))]]
   #[bM #[dF (i:=3) nd rfl (by trivial) #[d8 (d8 (qv 2) (qv 4) (fun _ _=>rfl)) (qv 4) (fun _ _=>rfl)]]]]]
   (by exact(bM (by exact(fV (by exact(dZ (by exact(oU (own:= ["place","row"]) (N' := ["place","row"]) (by show dw ["rows","rights","table","ahead","place"] _ ["place","row"] [] (bV JB) ["place","row"];symm_saturate) rfl #[mD (Y6 rfl rfl cZ (aA (qv 2) aN))] #[sJ rfl (iU (cQ (i:=0) (show(["place","row"]:List Str).Nodup by decide+kernel) rfl (by trivial)) (iU (cQ (i:=1) (show(["place","row"]:List Str).Nodup by decide+kernel) rfl (by trivial)) sI)),_] #[qN,_] #[dh bh (hr.mono (by decide)) rfl (aA (d8 (qv 1) (QC aM) (fun _ _=>rfl)) (aA (d8 (qv 1) (qv 0) (fun _ _=>rfl)) aN)),_]))))))))))))),fun ds Q Ex h=>zxy h⟩,hm,F.kp,F.binds fun _ _ _ _ _ _ us hl=>by obtain⟨_,_,rfl⟩:=len2 hl;exact rfl⟩
abbrev M5:Stmt:=top 26
theorem gU:aD ["hand","sheets"] ["hand","sheets"] (bV M5):=by nofun
theorem zkf(F:fP K "sheets_with" "sheets_with" M5 f fd)(hm:mg "sheets_with" =some (.ref f)):cR P w K mg base "sheets_with" 1 ["hand","sheets"] (xW c):=
 ⟨f,fd,iW F gU (fun _ _ _ h=>zm5 h) fun cdv A outer s H E hr F0=>⟨zfz K c,by
  have nd:=gU.nd;have hu:=cN hr;exact(bM (by exact(fV (by exact(dZ (by exact(oU (own:= ["sheet"]) (N' := ["sheet","hand"]) (by show dw ["hand","sheets"] _ ["sheet"] [0] (bV M5) ["sheet","hand"];symm_saturate) rfl #[mD (oO (qv 1))] #[cQ (i:=0) (show(["sheet","hand"]:List Str).Nodup by decide+kernel) rfl (by trivial),_] #[wQ (z5v (hu1 hu) (qv 1) (qv 0) (by with_unfolding_all rfl)),_] #[qv 0,_]))))))),fun ds Q Ex h=>zmi h⟩,hm,F.kp,F.binds fun _ _ _ _ _ _ us hl=>by obtain⟨_,_,rfl⟩:=len2 hl;exact rfl⟩
abbrev Wf:Stmt:=top 7
theorem qY:aD ["one","other"] ["one","other"] (bV Wf):=by nofun
theorem z11(F:fP K "plus" "plus" Wf f fd)(hm:mg "plus" =some (.ref f))(bh:MF P w K mg base c):cR P w K mg base "plus" 3 ["one","other"] (Dr c):=
 ⟨f,fd,iW F qY (fun _ _ _ h=>z4n h) fun cdv A outer s H E hr F0=>⟨zvs K c,by
  have nd:=qY.nd;have hu:=cN hr;exact(bM #[fV #[dh bh (hr.mono (by decide)) rfl (aA (aU (fun _=>kO) (aU (fun _=>iY) (d8 (qv 0) aM (fun _ _=>rfl)) (d8 (qv 1) aM (fun _ _=>rfl))) (aU (fun _=>iY) (d8 (qv 1) aM (fun _ _=>rfl)) (d8 (qv 0) aM (fun _ _=>rfl)))) (aA (aU (fun _=>iY) (d8 (qv 0) aM (fun _ _=>rfl)) (d8 (qv 1) aM (fun _ _=>rfl))) aN))]]),fun ds Q Ex h=>z49 h⟩,hm,F.kp,F.binds fun _ _ _ _ _ _ us hl=>by obtain⟨_,_,rfl⟩:=len2 hl;exact rfl⟩
abbrev Wg:Stmt:=top 9
theorem pB:aD ["some","reached","part"] ["some"] (bV Wg):=by nofun
theorem zyj(F:fP K "total" "total" Wg f fd)(hm:mg "total" =some (.ref f))(jP:zwr P w K mg base c):cR P w K mg base "total" 4 ["some"] (Ds c):=
 ⟨f,fd,iW F pB (fun _ _ _ h=>z1r h) fun cdv A outer s H E hr F0=>⟨zrk K c,by
  have nd:=pB.nd;have hu:=cN hr;exact(bx #[dF (i:=1) nd rfl (by trivial) #[uY (aA aM (aA aM aN))]]
   #[bx #[rF rfl #[qv 0] #[cQ (i:=2) nd rfl (by trivial)]
   #[bM #[dF (i:=1) nd rfl (by trivial) #[dh jP (hr.mono (by decide)) rfl (aA (qv 1) (aA (qv 2) aN))]]]]
   #[bM #[fV #[qv 1]]]]),fun ds Q Ex h=>z3t h⟩,hm,F.kp,F.binds fun _ _ _ _ _ _ us hl=>by obtain⟨_,rfl⟩:=len1 hl;exact rfl⟩
abbrev M6:Stmt:=top 28
theorem pC:aD ["hand","other","sheets","both","through_works"] ["hand","other","sheets"] (bV M6):=by nofun
theorem zy4(F:fP K "share" "share" M6 f fd)(hm:mg "share" =some (.ref f))(aQ:VP P w K mg base c)(iy:zrl P w K mg base c)(jP:zwr P w K mg base c)(bO:mg "len" =none):cR P w K mg base "share" 5 ["hand","other","sheets"] (Iz c):=
 ⟨f,fd,iW F pC (fun _ _ _ h=>z2l h) fun cdv A outer s H E hr F0=>⟨zsv K c,by
  have nd:=pC.nd;have hu:=cN hr;exact(bx #[dF (i:=3) nd rfl (by trivial) #[dh aQ (hr.mono (by decide)) rfl (aA (qv 1) (aA (dh aQ (hr.mono (by decide)) rfl (aA (qv 0) (aA (qv 2) aN))) aN))]]
   (by exact(bx (by exact(dF (i:=4) nd rfl (by trivial) (by exact(dh iy (hr.mono (by decide)) rfl (aA (dZ (by exact(oU (own:= ["sheet"]) (N' := ["sheet"]) (by show dw ["hand","other","sheets","both","through_works"] _ ["sheet"] [] (bV M6) ["sheet"];symm_saturate) rfl #[mD (oO (qv 3))] #[cQ (i:=0) (show(["sheet"]:List Str).Nodup by decide+kernel) rfl (by trivial),_] #[qN,_] #[uY (aA (QC aM) (aA (p7 (fun _=>z07) rfl bO boot_len (aA (qv 0) aN)) aN)),_]))) aN)))))
   #[bM #[fV #[Yd (iR (fun _=>gK hu) (qv 0) (qv 1) (aL _)) (dh jP (hr.mono (by decide)) rfl (aA (uY (aA (p7 (fun _=>vQ) rfl bO boot_len (aA (qv 3) aN)) (aA aM aN))) (aA (qv 4) aN))) (qv 4)]]]))),fun ds Q Ex h=>z2k h⟩,hm,F.kp,F.binds fun _ _ _ _ _ _ us hl=>by obtain⟨_,_,_,rfl⟩:=rW hl;exact rfl⟩
abbrev M7:Stmt:=top 27
theorem m7:aD ["hand","hands","sheets"] ["hand","hands","sheets"] (bV M7):=by nofun
theorem zt0(F:fP K "shares" "shares" M7 f fd)(hm:mg "shares" =some (.ref f))(nO:cR P w K mg base "share" 5 ["hand","other","sheets"] (Iz c)):cR P w K mg base "shares" 6 ["hand","hands","sheets"] (IK c):=
 ⟨f,fd,iW F m7 (fun _ _ _ h=>zzs h) fun cdv A outer s H E hr F0=>⟨zo7 K c,by
  have nd:=m7.nd;have hu:=cN hr;exact(bM (by exact(fV (by exact(dZ (by exact(oU (own:= ["other"]) (N' := ["other","hand","sheets"]) (by show dw ["hand","hands","sheets"] _ ["other"] [0,2] (bV M7) ["other","hand","sheets"];symm_saturate) rfl #[mD (oO (qv 1))] #[cQ (i:=0) (show(["other","hand","sheets"]:List Str).Nodup by decide+kernel) rfl (by trivial),_] #[qN,_] #[dh nO (hr.mono (by decide)) rfl (aA (qv 1) (aA (qv 0) (aA (qv 2) aN))),_]))))))),fun ds Q Ex h=>zyc h⟩,hm,F.kp,F.binds fun _ _ _ _ _ _ us hl=>by obtain⟨_,_,_,rfl⟩:=rW hl;exact rfl⟩
abbrev Wh:Stmt:=top 8
theorem pD:aD ["one","other"] ["one","other"] (bV Wh):=by nofun
theorem zzt(F:fP K "minus" "minus" Wh f fd)(hm:mg "minus" =some (.ref f))(bh:MF P w K mg base c):cR P w K mg base "minus" 3 ["one","other"] (Ij c):=
 ⟨f,fd,iW F pD (fun _ _ _ h=>z3i h) fun cdv A outer s H E hr F0=>⟨zr3 K c,by
  have nd:=pD.nd;have hu:=cN hr;exact(bM #[fV #[dh bh (hr.mono (by decide)) rfl (aA (aU (fun _=>zu) (aU (fun _=>iY) (d8 (qv 0) aM (fun _ _=>rfl)) (d8 (qv 1) aM (fun _ _=>rfl))) (aU (fun _=>iY) (d8 (qv 1) aM (fun _ _=>rfl)) (d8 (qv 0) aM (fun _ _=>rfl)))) (aA (aU (fun _=>iY) (d8 (qv 0) aM (fun _ _=>rfl)) (d8 (qv 1) aM (fun _ _=>rfl))) aN))]]),fun ds Q Ex h=>z3b h⟩,hm,F.kp,F.binds fun _ _ _ _ _ _ us hl=>by obtain⟨_,_,rfl⟩:=len2 hl;exact rfl⟩
abbrev Wi:Stmt:=top 30
theorem jw:aD ["sheet"] ["sheet"] (bV Wi):=by nofun
theorem zod(F:fP K "mean_mark" "mean_mark" Wi f fd)(hm:mg "mean_mark" =some (.ref f))(bh:MF P w K mg base c)(uJ:mg "sum" =none)(bO:mg "len" =none):cR P w K mg base "mean_mark" 3 ["sheet"] (IV c):=
 ⟨f,fd,iW F jw (fun _ _ _ h=>zpk h) fun cdv A outer s H E hr F0=>⟨zhz K c,by
  have nd:=jw.nd;have hu:=cN hr;exact(bM #[fV #[dh bh (hr.mono (by decide)) rfl (aA (z2v rfl rfl uJ (qv 0)) (aA (p7 (fun _=>z07) rfl bO boot_len (aA (qv 0) aN)) aN))]]),fun ds Q Ex h=>zqp h⟩,hm,F.kp,F.binds fun _ _ _ _ _ _ us hl=>by obtain⟨_,rfl⟩:=len1 hl;exact rfl⟩
abbrev M8:Stmt:=top 29
theorem m8:aD ["hand","sheets"] ["hand","sheets"] (bV M8):=by nofun
theorem zwn(F:fP K "excess" "excess" M8 f fd)(hm:mg "excess" =some (.ref f))(iy:zrl P w K mg base c)(nP:cR P w K mg base "minus" 3 ["one","other"] (Ij c))(gW:cR P w K mg base "mean_mark" 3 ["sheet"] (IV c))(aQ:VP P w K mg base c):cR P w K mg base "excess" 5 ["hand","sheets"] (IW c):=
 ⟨f,fd,iW F m8 (fun _ _ _ h=>zyq h) fun cdv A outer s H E hr F0=>⟨U4 K c,by
  have nd:=m8.nd;have hu:=cN hr;exact(bM (by exact(fV (by exact(dh iy (hr.mono (by decide)) rfl (aA (dZ (by exact(oU (own:= ["sheet"]) (N' := ["sheet","hand"]) (by show dw ["hand","sheets"] _ ["sheet"] [0] (bV M8) ["sheet","hand"];symm_saturate) rfl #[mD (oO (dh aQ (hr.mono (by decide)) rfl (aA (qv 0) (aA (qv 1) aN))))] #[cQ (i:=0) (show(["sheet","hand"]:List Str).Nodup by decide+kernel) rfl (by trivial),_] #[qN,_] #[dh nP (hr.mono (by decide)) rfl (aA (uY (aA (zdt (hu1 hu) (qv 0) (qv 1)) (aA aM aN))) (aA (dh gW (hr.mono (by decide)) rfl (aA (qv 0) aN)) aN)),_]))) aN)))))),fun ds Q Ex h=>zym h⟩,hm,F.kp,F.binds fun _ _ _ _ _ _ us hl=>by obtain⟨_,_,rfl⟩:=len2 hl;exact rfl⟩
abbrev DX:Stmt:=top 25
theorem fJ:aD ["hands","sheets","lefts","rights","numbers"] ["hands","sheets"] (bV DX):=by nofun
theorem zhg(F:fP K "group_leanings" "group_leanings" DX f fd)(hm:mg "group_leanings" =some (.ref f))(lZ:cR P w K mg base "solved" 3 ["rows","rights"] (Iu c))(mj:cR P w K mg base "shares" 6 ["hand","hands","sheets"] (IK c))(mq:cR P w K mg base "excess" 5 ["hand","sheets"] (IW c))(aQ:VP P w K mg base c)(bO:mg "len" =none):cR P w K mg base "group_leanings" 7 ["hands","sheets"] (Ja c):=
 ⟨f,fd,iW F fJ (fun _ _ _ h=>zif h) fun cdv A outer s H E hr F0=>⟨zdy K c,by
  have nd:=fJ.nd;have hu:=cN hr;exact(bx (by exact(GK (by exact(GD (i:=2) nd rfl rfl (own:= ["hand"]) (N' := ["hand","hands","sheets"]) (by show dw ["hands","sheets","lefts","rights","numbers"] _ ["hand"] [0,1] (bV DX) ["hand","hands","sheets"];symm_saturate) rfl #[mD (oO (dZ #[Ky (qv 0) (Kw aM) Kv]))] #[cQ (i:=0) (show(["hand","hands","sheets"]:List Str).Nodup by decide+kernel) rfl (by trivial),_] #[qN,_] #[dh mj (hr.mono (by decide)) rfl (aA (qv 0) (aA (qv 1) (aA (qv 2) aN))),_]))))
   (by exact(bx (by exact(GK (by exact(GD (i:=3) nd rfl rfl (own:= ["hand"]) (N' := ["hand","sheets"]) (by show dw ["hands","sheets","lefts","rights","numbers"] _ ["hand"] [1] (bV DX) ["hand","sheets"];symm_saturate) rfl #[mD (oO (dZ #[Ky (qv 0) (Kw aM) Kv]))] #[cQ (i:=0) (show(["hand","sheets"]:List Str).Nodup by decide+kernel) rfl (by trivial),_] #[qN,_] #[dh mq (hr.mono (by decide)) rfl (aA (qv 0) (aA (qv 1) aN)),_]))))
   (by exact(bx (by exact(GK (by exact(GD (i:=4) nd rfl rfl (own:= ["hand"]) (N' := ["hand","sheets"]) (by show dw ["hands","sheets","lefts","rights","numbers"] _ ["hand"] [1] (bV DX) ["hand","sheets"];symm_saturate) rfl #[mD (oO (qv 0))] #[cQ (i:=0) (show(["hand","sheets"]:List Str).Nodup by decide+kernel) rfl (by trivial),_] #[qN,_] #[uY (aA (p7 (fun _=>vQ) rfl bO boot_len (aA (dh aQ (hr.mono (by decide)) rfl (aA (qv 0) (aA (qv 1) aN))) aN)) (aA aM aN)),_]))))
   #[bM #[fV #[dh lZ (hr.mono (by decide)) rfl (aA (dZ #[wV (dZ #[oh (aA (qv 4) aN)]) (qv 2)]) (aA (dZ #[wV (dZ #[oh (aA (uY (aA aM (aA aM aN))) aN)]) (qv 3)]) aN))]]]))))),fun ds Q Ex h=>zh9 h⟩,hm,F.kp,F.binds fun _ _ _ _ _ _ us hl=>by obtain⟨_,_,rfl⟩:=len2 hl;exact rfl⟩
abbrev M9:Stmt:=top 24
theorem jZ:aD ["rows","found","hands","sheets","hand","leaning"] ["rows"] (bV M9):=by nofun
theorem zph(F:fP K "leanings" "leanings" M9 f fd)(hm:mg "leanings" =some (.ref f))(mz:nG P w K mg base "groups" 3 ["rows"] (Iw c))(dO:cR P w K mg base "group_leanings" 7 ["hands","sheets"] (Ja c))(eU:zky P w K mg base c)(bU:mg "list" =none)(jt:mg "zip" =none):nG P w K mg base "leanings" 8 ["rows"] (Jb c):=
 ⟨f,fd,Ax F jZ (fun _ _ _ h=>zs7 h) fun cdv A outer s H E hr F0=>⟨zi9 K c,by
  have nd:=jZ.nd;have hu:=cN hr;exact(bx #[Hh (i:=1) nd rfl (by trivial) #[CZ]]
   (by exact(bx (by exact(rF rfl #[dh mz.fn (hr.mono (by decide)) rfl (aA (qv 0) aN)] #[cQ (i:=2) nd rfl (by trivial)]
   (by exact(bx (by exact(dF (i:=3) nd rfl (by trivial) (by exact(dZ (by exact(zz6 rfl rfl bU (dh eU.fn (hr.mono (by decide)) rfl (aA (dZ (by exact(oU (own:= ["row"]) (N' := ["row","hands"]) (by show dw ["rows","found","hands","sheets","hand","leaning"] _ ["row"] [2] (bV M9) ["row","hands"];symm_saturate) rfl #[mD (oO (qv 0))] #[cQ (i:=0) (show(["row","hands"]:List Str).Nodup by decide+kernel) rfl (by trivial),_] #[wQ (iR (fun _=>tU) (d8 (qv 0) aM (fun _ _=>rfl)) (qv 1) (by with_unfolding_all rfl)),_] #[qv 0,_]))) aN))))))))
   #[bM #[Rm rfl #[RT rfl rfl jt (aA (qv 2) (aA (dh dO (hr.mono (by decide)) rfl (aA (qv 2) (aA (qv 3) aN))) aN))] #[sJ rfl (iU (cQ (i:=4) nd rfl (by trivial)) (iU (cQ (i:=5) nd rfl (by trivial)) sI))]
   #[bM #[Le (i:=1) (hu1 hu) rfl (by trivial) #[qv 4] #[qv 5]]]]]))))
   #[bM #[SN #[Z0 (i:=1) rfl (by trivial)]]]))),fun ds Q Ex h=>ztb h⟩,hm,F.kp,F.binds fun _ _ _ _ _ _ us hl=>by obtain⟨_,rfl⟩:=len1 hl;exact rfl⟩
abbrev Wj:Stmt:=top 42
theorem fY:aD ["_law_script","_law_hands","_law_works","_law_people","_law_names_here","_law_k","_law_cell_here","_law_rows_here","_law_first","_law_other"] ["_law_script","_law_hands","_law_works"] (bV Wj):=by nofun
theorem zid(F:fP K "_law_long_rows" "_law_long_rows" Wj f fd)(hm:mg "_law_long_rows" =some (.ref f))(cD:zh1 P w K mg base c)(aC:Jz P w K mg base c)(bC:mg "range" =none):cR P w K mg base "_law_long_rows" 2 ["_law_script","_law_hands","_law_works"] (Jf c):=
 ⟨f,fd,iW F fY (fun _ _ _ h=>zi3 h) fun cdv A outer s H E hr F0=>⟨Mh K c,by
  have nd:=fY.nd;have hu:=cN hr;exact(bx #[dF (i:=3) nd rfl (by trivial) #[dh cD (hr.mono (by decide)) rfl (aA (aU (fun _=>iY) (aU (fun _=>mU) (dh aC (hr.mono (by decide)) rfl (aA (qv 0) (aA aM aN))) aM) aM) (aA (qv 1) aN))]]
   #[bx #[zj (i:=4) nd rfl (by trivial) #[oh aN]]
   #[bx #[zp rfl rfl bC #[aA (qv 2) aN] #[cQ (i:=5) nd rfl (by trivial)]
   #[bM #[CN (i:=4) (fun _=>GJ) PySem.F.slot_list_append PySem.F.type_list_append rfl (by trivial) #[aA (aU (fun _=>kO) (d8 Ci (aU (fun _=>gJ) (qv 5) aM) (fun _ _=>rfl)) (d8 Ci (aU (fun _=>mU) (qv 5) aM) (fun _ _=>rfl))) aN]]]]
   #[bx #[dF (i:=6) nd rfl (by trivial) #[dh aC (hr.mono (by decide)) rfl (aA (qv 0) (aA aM aN))]]
   #[bx #[zj (i:=7) nd rfl (by trivial) #[oh aN]]
   #[bx #[zp rfl rfl bC #[aA (qv 2) aN] #[cQ (i:=5) nd rfl (by trivial)]
   #[bx #[dF (i:=8) nd rfl (by trivial) #[aU (fun _=>gJ) (d8 (dZ #[oh (aA (qv 5) (aA (qv 5) (aA aM aN)))]) (aU (fun _=>gJ) (qv 6) aM) (fun _ _=>rfl)) (qv 1)]]
   #[bx #[dF (i:=9) nd rfl (by trivial) #[aU (fun _=>gJ) (d8 (dZ #[oh (aA (aU (fun _=>kO) (qv 8) aM) (aA (aU (fun _=>zu) (aU (fun _=>zu) (qv 1) aM) (qv 8)) (aA (aU (fun _=>kO) (qv 5) aM) aN)))]) (aU (fun _=>gJ) (qv 6) aM) (fun _ _=>rfl)) (qv 1)]]
   #[bx #[CN (i:=7) (fun _=>GJ) PySem.F.slot_list_append PySem.F.type_list_append rfl (by trivial) #[aA (uY (aA (Y4 (i:=4) rfl (by trivial) (qv 5) (fun _ _=>rfl)) (aA (d8 (qv 3) (qv 8) (fun _ _=>rfl)) (aA (aU (fun _=>gJ) (dh aC (hr.mono (by decide)) rfl (aA (qv 0) (aA (aU (fun _=>kO) aM (qv 5)) aN))) aM) aN)))) aN]]
   #[bM #[lD #[rE (z4i (iR (fun _=>kh hu) (qv 9) (qv 8) (aL _)) (z2p (iR (fun _=>kh hu) (qv 5) (aU (fun _=>gJ) (aU (fun _=>mU) (qv 6) aM) aM) (aL _))))]
   #[bM #[CN (i:=7) (fun _=>GJ) PySem.F.slot_list_append PySem.F.type_list_append rfl (by trivial) #[aA (uY (aA (Y4 (i:=4) rfl (by trivial) (qv 5) (fun _ _=>rfl)) (aA (d8 (qv 3) (qv 9) (fun _ _=>rfl)) (aA (aU (fun _=>gJ) (dh aC (hr.mono (by decide)) rfl (aA (qv 0) (aA (aU (fun _=>kO) aM (qv 5)) aN))) aM) aN)))) aN]]]
   #[lC]]]]]]]
   #[bx #[lD #[iR (fun _=>gK hu) (aU (fun _=>gJ) (aU (fun _=>mU) (qv 6) aM) aM) aM (aL _)]
   #[bM #[zj (i:=7) nd rfl (by trivial) #[z53 (qv 7)]]]
   #[lC]]
   #[bM #[fV #[qv 7]]]]]]]]]),fun ds Q Ex h=>zjg h⟩,hm,F.kp,F.binds fun _ _ _ _ _ _ us hl=>by obtain⟨_,_,_,rfl⟩:=rW hl;exact rfl⟩
abbrev Wl:Stmt:=top 33
theorem gY:aD ["_law_one","_law_other"] ["_law_one","_law_other"] (bV Wl):=by nofun
theorem zka(F:fP K "_law_divisor" "_law_divisor" Wl f fd)(hm:mg "_law_divisor" =some (.ref f))(lW:mg "abs" =none):cR P w K mg base "_law_divisor" 1 ["_law_one","_law_other"] (Dv c):=
 ⟨f,fd,iW F gY (fun _ _ _ h=>zm7 h) fun cdv A outer s H E hr F0=>⟨zf0 K c,by
  have nd:=gY.nd;have hu:=cN hr;exact(bx #[dF (i:=0) nd rfl (by trivial) #[p7 (fun _=>QD) rfl lW boot_abs (aA (qv 0) aN)]]
   #[bx #[dF (i:=1) nd rfl (by trivial) #[p7 (fun _=>QD) rfl lW boot_abs (aA (qv 1) aN)]]
   #[bx #[Yg #[iR (fun _=>vP) (qv 1) aM (aL _)]
   #[bM #[z5d (i:=0) (j:=1) rfl nd rfl rfl (by decide) rfl rfl (aA (qv 1) (aA (aU (fun _=>gJ) (qv 0) (qv 1)) aN)) rfl]]]
   #[bM #[fV #[qv 0]]]]]),fun ds Q Ex h=>zm4 h⟩,hm,F.kp,F.binds fun _ _ _ _ _ _ us hl=>by obtain⟨_,_,rfl⟩:=len2 hl;exact rfl⟩
abbrev Wm:Stmt:=top 39
theorem iM:aD ["_law_told","_law_bottom","_law_hand"] ["_law_told"] (bV Wm):=by nofun
theorem zll(F:fP K "_law_common" "_law_common" Wm f fd)(hm:mg "_law_common" =some (.ref f))(cg:zfr P w K mg base c):cR P w K mg base "_law_common" 2 ["_law_told"] (Dw c):=
 ⟨f,fd,iW F iM (fun _ _ _ h=>zof h) fun cdv A outer s H E hr F0=>⟨zg6 K c,by
  have nd:=iM.nd;have hu:=cN hr;exact(bx #[dF (i:=1) nd rfl (by trivial) #[aM]]
   #[bx #[Rm rfl #[zty (qv 0)] #[cQ (i:=2) nd rfl (by trivial)]
   #[bM #[dF (i:=1) nd rfl (by trivial) #[aU (fun _=>iY) (qv 1) (aU (fun _=>mU) (d8 (zdt (hu1 hu) (qv 0) (qv 2)) aM (fun _ _=>rfl)) (dh cg (hr.mono (by decide)) rfl (aA (qv 1) (aA (d8 (zdt (hu1 hu) (qv 0) (qv 2)) aM (fun _ _=>rfl)) aN))))]]]]
   #[bM #[fV #[qv 1]]]]),fun ds Q Ex h=>zno h⟩,hm,F.kp,F.binds fun _ _ _ _ _ _ us hl=>by obtain⟨_,rfl⟩:=len1 hl;exact rfl⟩
abbrev Nb:Stmt:=top 40
theorem j4:aD ["_law_rows_here","_law_told","_law_bottom","_law_sums","_law_many","_law_work","_law_hand","_law_mark","_law_lean","_law_odd"] ["_law_rows_here","_law_told"] (bV Nb):=by nofun
theorem zq1(F:fP K "_law_even" "_law_even" Nb f fd)(hm:mg "_law_even" =some (.ref f))(cJ:zgv P w K mg base c):cR P w K mg base "_law_even" 3 ["_law_rows_here","_law_told"] (Jg c):=
 ⟨f,fd,iW F j4 (fun _ _ _ h=>zta h) fun cdv A outer s H E hr F0=>⟨zj9 K c,by
  have nd:=j4.nd;have hu:=cN hr;exact(bx #[dF (i:=2) nd rfl (by trivial) #[dh cJ (hr.mono (by decide)) rfl (aA (qv 1) aN)]]
   (by exact(bx #[Hh (i:=3) nd rfl (by trivial) #[CZ]]
   (by exact(bx #[Hh (i:=4) nd rfl (by trivial) #[CZ]]
   (by exact(bx #[rF rfl #[qv 0] #[sJ rfl (iU (cQ (i:=5) nd rfl (by trivial)) (iU (cQ (i:=6) nd rfl (by trivial)) (iU (cQ (i:=7) nd rfl (by trivial)) sI)))]
   #[bx #[dF (i:=8) nd rfl (by trivial) #[aU (fun _=>iY) (d8 (zdt (hu1 hu) (qv 1) (qv 6)) aM (fun _ _=>rfl)) (aU (fun _=>mU) (qv 2) (d8 (zdt (hu1 hu) (qv 1) (qv 6)) aM (fun _ _=>rfl)))]]
   #[bx #[Le (i:=3) (hu1 hu) rfl (by trivial) #[qv 5] #[Kz (fun F0 H0=>by exact(aU (fun _=>zu) (aU (fun _=>kO) (T6 (hu1 hu) (qv 3) (qv 5) aM ⟨rfl,rfl,rfl,rfl⟩) (aU (fun _=>iY) (qv 7) (qv 2))) (qv 8)))]]
   #[bM #[Le (i:=4) (hu1 hu) rfl (by trivial) #[qv 5] #[Kz (fun F0 H0=>by exact(aU (fun _=>kO) (T6 (hu1 hu) (qv 4) (qv 5) aM ⟨rfl,rfl,rfl,rfl⟩) aM))]]]]]]
   (by exact(bx #[Hh (i:=9) nd rfl (by trivial) #[CZ]]
   (by exact(bx #[rF rfl #[qv 0] #[sJ rfl (iU (cQ (i:=5) nd rfl (by trivial)) (iU (cQ (i:=6) nd rfl (by trivial)) (iU (cQ (i:=7) nd rfl (by trivial)) sI)))]
   #[bx #[dF (i:=8) nd rfl (by trivial) #[aU (fun _=>iY) (d8 (zdt (hu1 hu) (qv 1) (qv 6)) aM (fun _ _=>rfl)) (aU (fun _=>mU) (qv 2) (d8 (zdt (hu1 hu) (qv 1) (qv 6)) aM (fun _ _=>rfl)))]]
   #[bM #[Le (i:=9) (hu1 hu) rfl (by trivial) #[qv 6] #[Kz (fun F0 H0=>by exact(aU (fun _=>zu) (aU (fun _=>kO) (T6 (hu1 hu) (qv 9) (qv 6) aM ⟨rfl,rfl,rfl,rfl⟩) (aU (fun _=>iY) aM (aU (fun _=>zu) (aU (fun _=>iY) (qv 7) (qv 2)) (qv 8)))) (aU (fun _=>iY) (aU (fun _=>mU) aM (zdt (hu1 hu) (qv 4) (qv 5))) (zdt (hu1 hu) (qv 3) (qv 5)))))]]]]]
   (by exact(bM (by exact(z2z 9 (by exact(fV (by exact(uW (fun _=>gK hu) (dZ (by exact(oU (own:= ["_law_hand"]) (N' := ["_law_hand","_law_odd"]) (by show dw ["_law_rows_here","_law_told","_law_bottom","_law_sums","_law_many","_law_work","_law_hand","_law_mark","_law_lean","_law_odd"] _ ["_law_hand"] [9] (bV Nb) ["_law_hand","_law_odd"];symm_saturate) rfl #[mD (zty (qv 9))] #[cQ (i:=0) (show(["_law_hand","_law_odd"]:List Str).Nodup by decide+kernel) rfl (by trivial),_] #[wQ (iR (fun _=>kh hu) (zdt (hu1 hu) (qv 1) (qv 0)) aM (aL _)),_] #[qv 0,_]))) (dZ #[oh aN]) (aL _)))))))))))))))))))),fun ds Q Ex h=>zs3 h⟩,hm,F.kp,F.binds fun _ _ _ _ _ _ us hl=>by obtain⟨_,_,rfl⟩:=len2 hl;exact rfl⟩
abbrev yp:Stmt:=top 37
theorem iQ:aD ["_law_rows_here","_law_found","_law_work","_law_hand","_law_mark","_law_one","_law_group"] ["_law_rows_here"] (bV yp):=by nofun
theorem zmx(F:fP K "_law_groups" "_law_groups" yp f fd)(hm:mg "_law_groups" =some (.ref f))(bI:mg "sorted" =none)(jq:mg "set" =none):cR P w K mg base "_law_groups" 1 ["_law_rows_here"] (Jc c):=
 ⟨f,fd,iW F iQ (fun _ _ _ h=>zok h) fun cdv A outer s H E hr F0=>⟨zgj K c,by
  have nd:=iQ.nd;have hu:=cN hr;exact(bx #[dF (i:=1) nd rfl (by trivial) #[dZ #[oh aN]]]
   (by exact(bx (by exact(rF rfl #[qv 0] #[sJ rfl (iU (cQ (i:=2) nd rfl (by trivial)) (iU (cQ (i:=3) nd rfl (by trivial)) (iU (cQ (i:=4) nd rfl (by trivial)) sI)))]
   (by exact(bx (by exact(dF (i:=5) nd rfl (by trivial) (by exact(dZ (by exact(wV (dZ #[oh (aA (qv 3) aN)]) (dZ (by exact(oU (own:= ["_law_name","_law_other","_law_more"]) (N' := ["_law_name","_law_other","_law_more","_law_work"]) (by show dw ["_law_rows_here","_law_found","_law_work","_law_hand","_law_mark","_law_one","_law_group"] _ ["_law_name","_law_other","_law_more"] [2] (bV yp) ["_law_name","_law_other","_law_more","_law_work"];symm_saturate) rfl #[mD (oO (qv 0))] #[sJ rfl (iU (cQ (i:=0) (show(["_law_name","_law_other","_law_more","_law_work"]:List Str).Nodup by decide+kernel) rfl (by trivial)) (iU (cQ (i:=1) (show(["_law_name","_law_other","_law_more","_law_work"]:List Str).Nodup by decide+kernel) rfl (by trivial)) (iU (cQ (i:=2) (show(["_law_name","_law_other","_law_more","_law_work"]:List Str).Nodup by decide+kernel) rfl (by trivial)) sI))),_] #[wQ (iR (fun _=>gK hu) (qv 0) (qv 3) (aL _)),_] #[qv 1,_])))))))))
   (by exact(bx (by exact(rF rfl #[qv 1] #[cQ (i:=6) nd rfl (by trivial)]
   (by exact(bM (by exact(lD (by exact(iR (fun _=>kh hu) (dZ (by exact(oU (own:= ["_law_other"]) (N' := ["_law_other","_law_one"]) (by show dw ["_law_rows_here","_law_found","_law_work","_law_hand","_law_mark","_law_one","_law_group"] _ ["_law_other"] [5] (bV yp) ["_law_other","_law_one"];symm_saturate) rfl #[mD (oO (qv 6))] #[cQ (i:=0) (show(["_law_other","_law_one"]:List Str).Nodup by decide+kernel) rfl (by trivial),_] #[wQ (iR (fun _=>tU) (qv 0) (qv 1) (by with_unfolding_all rfl)),_] #[qv 0,_]))) (dZ #[oh aN]) (aL _)))
   #[bM #[dF (i:=5) nd rfl (by trivial) #[dZ #[wV (qv 5) (qv 6)]]]]
   #[lC]))))))
   (by exact(bM (by exact(dF (i:=1) nd rfl (by trivial) (by exact(dZ (by exact(wV (dZ (by exact(oU (own:= ["_law_group"]) (N' := ["_law_group","_law_one"]) (by show dw ["_law_rows_here","_law_found","_law_work","_law_hand","_law_mark","_law_one","_law_group"] _ ["_law_group"] [5] (bV yp) ["_law_group","_law_one"];symm_saturate) rfl #[mD (oO (qv 1))] #[cQ (i:=0) (show(["_law_group","_law_one"]:List Str).Nodup by decide+kernel) rfl (by trivial),_] #[wQ (iR (fun _=>gK hu) (dZ (by exact(oU (own:= ["_law_other"]) (N' := ["_law_other","_law_one"]) (by show dw ["_law_group","_law_one"] _ ["_law_other"] [1] (zzq _ (bV yp)) ["_law_other","_law_one"];symm_saturate) rfl #[mD (oO (qv 0))] #[cQ (i:=0) (show(["_law_other","_law_one"]:List Str).Nodup by decide+kernel) rfl (by trivial),_] #[wQ (iR (fun _=>tU) (qv 0) (qv 1) (by with_unfolding_all rfl)),_] #[qv 0,_]))) (dZ #[oh aN]) (aL _)),_] #[qv 0,_]))) (dZ #[oh (aA (qv 5) aN)])))))))))))))))
   (by exact(bM (by exact(fV (by exact(dZ (by exact(YM (fun _=>z0n hu) rfl bI boot_sorted (aA (dZ (by exact(oU (own:= ["_law_group"]) (N' := ["_law_group"]) (by show dw ["_law_rows_here","_law_found","_law_work","_law_hand","_law_mark","_law_one","_law_group"] _ ["_law_group"] [] (bV yp) ["_law_group"];symm_saturate) rfl #[mD (oO (qv 1))] #[cQ (i:=0) (show(["_law_group"]:List Str).Nodup by decide+kernel) rfl (by trivial),_] #[qN,_] #[dZ #[Tj rfl rfl bI rfl jq (aA (qv 0) aN)],_]))) aN)))))))))))),fun ds Q Ex h=>znl h⟩,hm,F.kp,F.binds fun _ _ _ _ _ _ us hl=>by obtain⟨_,rfl⟩:=len1 hl;exact rfl⟩
abbrev Wn:Stmt:=top 41
theorem gZ:aD ["_law_rows_here","_law_told","_law_bottom","_law_group","_law_summed","_law_work","_law_hand","_law_mark"] ["_law_rows_here","_law_told"] (bV Wn):=by nofun
theorem zki(F:fP K "_law_grouped" "_law_grouped" Wn f fd)(hm:mg "_law_grouped" =some (.ref f))(cJ:zgv P w K mg base c)(gk:cR P w K mg base "_law_groups" 1 ["_law_rows_here"] (Jc c)):cR P w K mg base "_law_grouped" 3 ["_law_rows_here","_law_told"] (Jh c):=
 ⟨f,fd,iW F gZ (fun _ _ _ h=>zmt h) fun cdv A outer s H E hr F0=>⟨zfv K c,by
  have nd:=gZ.nd;have hu:=cN hr;exact(bx #[dF (i:=2) nd rfl (by trivial) #[dh cJ (hr.mono (by decide)) rfl (aA (qv 1) aN)]]
   #[bx #[rF rfl #[dh gk (hr.mono (by decide)) rfl (aA (qv 0) aN)] #[cQ (i:=3) nd rfl (by trivial)]
   #[bx #[dF (i:=4) nd rfl (by trivial) #[aM]]
   #[bx #[rF rfl #[qv 0] #[sJ rfl (iU (cQ (i:=5) nd rfl (by trivial)) (iU (cQ (i:=6) nd rfl (by trivial)) (iU (cQ (i:=7) nd rfl (by trivial)) sI)))]
   #[bM #[lD #[iR (fun _=>tU) (qv 6) (qv 3) (by with_unfolding_all rfl)]
   #[bM #[dF (i:=4) nd rfl (by trivial) #[aU (fun _=>kO) (qv 4) (aU (fun _=>iY) (d8 (zdt (hu1 hu) (qv 1) (qv 6)) aM (fun _ _=>rfl)) (aU (fun _=>mU) (qv 2) (d8 (zdt (hu1 hu) (qv 1) (qv 6)) aM (fun _ _=>rfl))))]]]
   #[lC]]]]
   #[bM #[lD #[iR (fun _=>kh hu) (qv 4) aM (aL _)]
   #[bM #[fV #[vN]]]
   #[lC]]]]]]
   #[bM #[fV #[vN]]]]),fun ds Q Ex h=>zlw h⟩,hm,F.kp,F.binds fun _ _ _ _ _ _ us hl=>by obtain⟨_,_,rfl⟩:=len2 hl;exact rfl⟩
abbrev Nf:Stmt:=top 38
theorem jx:aD ["_law_told","_law_rows_here","_law_hands","_law_hand","_law_one","_law_part"] ["_law_told","_law_rows_here"] (bV Nf):=by nofun
theorem zpe(F:fP K "_law_kinds" "_law_kinds" Nf f fd)(hm:mg "_law_kinds" =some (.ref f))(cg:zfr P w K mg base c)(bI:mg "sorted" =none)(jq:mg "set" =none)(cL:mg "isinstance" =none)(qj:mg "dict" =none)(nQ:mg "tuple" =none)(bO:mg "len" =none)(ql:mg "bool" =none)(lQ:mg "int" =none):cR P w K mg base "_law_kinds" 2 ["_law_told","_law_rows_here"] (Ji c):=
 ⟨f,fd,iW F jx (fun _ _ _ h=>zpv h) fun cdv A outer s H E hr F0=>⟨zh3 K c,by
  have nd:=jx.nd;have hu:=cN hr;exact(bx (by exact(dF (i:=2) nd rfl (by trivial) (by exact(dZ (by exact(Tj rfl rfl bI rfl jq (aA (dZ (by exact(oU (own:= ["_law_work","_law_hand","_law_mark"]) (N' := ["_law_work","_law_hand","_law_mark"]) (by show dw ["_law_told","_law_rows_here","_law_hands","_law_hand","_law_one","_law_part"] _ ["_law_work","_law_hand","_law_mark"] [] (bV Nf) ["_law_work","_law_hand","_law_mark"];symm_saturate) rfl #[mD (oO (qv 1))] #[sJ rfl (iU (cQ (i:=0) (show(["_law_work","_law_hand","_law_mark"]:List Str).Nodup by decide+kernel) rfl (by trivial)) (iU (cQ (i:=1) (show(["_law_work","_law_hand","_law_mark"]:List Str).Nodup by decide+kernel) rfl (by trivial)) (iU (cQ (i:=2) (show(["_law_work","_law_hand","_law_mark"]:List Str).Nodup by decide+kernel) rfl (by trivial)) sI))),_] #[qN,_] #[qv 1,_]))) aN)))))))
   #[bx #[lD #[rE (Gh (Gi (wK (Kh (qv 0) rfl cL rfl qj rfl))) (Gg (iR (fun _=>kh hu) (dZ #[zy8 rfl rfl bI (aA (qv 0) aN)]) (qv 2) (aL _))))]
   #[bM #[fV #[vN]]]
   #[lC]]
   #[bx #[rF rfl #[qv 2] #[cQ (i:=3) nd rfl (by trivial)]
   #[bx #[dF (i:=4) nd rfl (by trivial) #[zdt (hu1 hu) (qv 0) (qv 3)]]
   #[bx #[lD #[rE (Gh (Gi (wK (Kh (qv 4) rfl cL rfl nQ rfl))) (Gg (iR (fun _=>kh hu) (p7 (fun _=>vQ) rfl bO boot_len (aA (qv 4) aN)) aM (aL _))))]
   #[bM #[fV #[vN]]]
   #[lC]]
   #[bx #[rF rfl #[qv 4] #[cQ (i:=5) nd rfl (by trivial)]
   #[bM #[lD #[rE (Gh (Gi (wK (Kh (qv 5) rfl cL rfl lQ rfl))) (Gg (wK (Kh (qv 5) rfl cL rfl ql rfl))))]
   #[bM #[fV #[vN]]]
   #[lC]]]]
   #[bM #[lD #[rE (Gh (iR (fun _=>zy) (d8 (qv 4) aM (fun _ _=>rfl)) aM (aL _)) (Gg (iR (fun _=>kh hu) (dh cg (hr.mono (by decide)) rfl (aA (d8 (qv 4) aM (fun _ _=>rfl)) (aA (d8 (qv 4) aM (fun _ _=>rfl)) aN))) aM (aL _))))]
   #[bM #[fV #[vN]]]
   #[lC]]]]]]]
   #[bM #[fV #[vN]]]]]),fun ds Q Ex h=>zq4 h⟩,hm,F.kp,F.binds fun _ _ _ _ _ _ us hl=>by obtain⟨_,_,rfl⟩:=len2 hl;exact rfl⟩
abbrev pF:Stmt:=top 43
theorem uK:aD ["_law_script","_law_rows_here","_law_handed","_law_told"] ["_law_script"] (bV pF):=by nofun
theorem z7g(hr:fB 8 (A.deeper (envOfC "law" (bV pF) s.heap.objs.size f cdv)))(cW:VN P w K mg base c)(cX:VR P w K mg base c)(bw:V0 P w K mg base c)(cY:V1 P w K mg base c)(bK:V2 P w K mg base c)(aC:Jz P w K mg base c)(cF:V3 P w K mg base c)(bU:mg "list" =none):qK (j7 (iw P w) P w K mg base ["_law_script","_law_rows_here","_law_handed","_law_told"] "law" (bV pF) f cdv A outer s H E) F0 H (sX pF) (Jj K c):=by
 have nd:=uK.nd;have hu:(A.deeper (envOfC "law" (bV pF) s.heap.objs.size f cdv)).units+21<cLine:=by have:=hr.units;omega
 exact(bx #[dF (i:=1) nd rfl (by trivial) #[dh cW (hr.mono (by decide)) rfl (aA (qv 0) (aA (aU (fun _=>kO) aM (aU (fun _=>gJ) (dh aC (hr.mono (by decide)) rfl (aA (qv 0) (aA aM aN))) aM)) (aA (aU (fun _=>gJ) (dh aC (hr.mono (by decide)) rfl (aA (qv 0) (aA aM aN))) aM) aN)))]]
 #[bx #[lD #[iR (fun _=>gK hu) (aU (fun _=>gJ) (aU (fun _=>mU) (dh aC (hr.mono (by decide)) rfl (aA (qv 0) (aA aM aN))) aM) aM) aM (aL _)]
 #[bM #[dF (i:=1) nd rfl (by trivial) #[dh bw (hr.mono (by decide)) rfl (aA (qv 0) (aA aM (aA (aU (fun _=>kO) aM (aU (fun _=>gJ) (dh aC (hr.mono (by decide)) rfl (aA (qv 0) (aA aM aN))) aM)) aN)))]]]
 #[lC]]
 #[bx #[dF (i:=2) nd rfl (by trivial) #[dZ #[Ku (fun _=>Ro) rfl bU boot_list (aA (qv 1) aN)]]]
 #[bx #[dF (i:=3) nd rfl (by trivial) #[z1o #[Z4 cX (hr.mono (by decide)) rfl (aA (qv 2) aN)]]]
 #[bx #[lD #[rE (Gh (iR (fun _=>kh hu) (qv 2) (qv 1) (aL _)) (Gg (Gi (wK (dh cF (hr.mono (by decide)) rfl (aA (qv 3) (aA (qv 1) aN)))))))]
 #[bM #[fV #[vN]]]
 #[lC]]
 #[bM #[fV #[PX (dh cY (hr.mono (by decide)) rfl (aA (qv 1) (aA (qv 3) aN))) (J8 (dh bK (hr.mono (by decide)) rfl (aA (qv 1) (aA (qv 3) aN))))]]]]]]])
theorem z0u(F:fP K "law" "law" pF f fd)(cW:VN P w K mg base c)(cX:VR P w K mg base c)(bw:V0 P w K mg base c)(cY:V1 P w K mg base c)(bK:V2 P w K mg base c)(aC:Jz P w K mg base c)(cF:V3 P w K mg base c)(bU:mg "list" =none):eY P w K mg base (iw P w) 9 f fd ["_law_script"] (j9 K (LQ c)):=
 iW F uK (fun _ _ _ h=>z65 h) fun cdv A outer s H E hr F0=>⟨Jj K c,z7g c hr cW cX bw cY bK aC cF bU,fun ds Q Ex h=>z66 h⟩
theorem z7p(F:fP K "law" "law" pF f fd)(hm:mg "law" =some (.ref f))(cW:VN P w K mg base c)(cX:VR P w K mg base c)(bw:V0 P w K mg base c)(cY:V1 P w K mg base c)(bK:V2 P w K mg base c)(aC:Jz P w K mg base c)(cF:V3 P w K mg base c)(bU:mg "list" =none):cR P w K mg base "law" 9 ["_law_script"] (LQ c):=
 ⟨f,fd,z0u c F cW cX bw cY bK aC cF bU,hm,F.kp,F.binds fun _ _ _ _ _ _ us hl=>by obtain⟨_,rfl⟩:=len1 hl;exact rfl⟩
end
def ds:List (Str×Stmt):= [Hd.d "_law_names" V4,Hd.d "_law_cell" V5,Hd.d "_law_marked" V6,Hd.d "_law_rows" V7,Hd.d "meet" MJ,Hd.d "joined" MK,Hd.d "by_work" V8,Hd.d "groups" V9,Hd.d "divisor" Wa,Hd.d "whole_row" MN,Hd.d "without" MP,Hd.d "cleared" M4,Hd.d "fraction" Wb,Hd.d "exchanged" Wc,Hd.d "led" Wd,Hd.d "solved" JB,Hd.d "sheets_with" M5,Hd.d "plus" Wf,Hd.d "total" Wg,Hd.d "share" M6,Hd.d "shares" M7,Hd.d "minus" Wh,Hd.d "mean_mark" Wi,Hd.d "excess" M8,Hd.d "group_leanings" DX,Hd.d "leanings" M9,Hd.d "_law_long_rows" Wj,Hd.d "_law_divisor" Wl,Hd.d "_law_common" Wm,Hd.d "_law_even" Nb,Hd.d "_law_groups" yp,Hd.d "_law_grouped" Wn,Hd.d "_law_kinds" Nf,Hd.d "law" pF]
def obs(K:W.Frag):Bool×List (Option FuncData)×List (Option FuncData):=(
 decide (Hd.isRef (W.nsIn K mainGlobals "NoFraction")=true)&&(
 decide (Hd.isRef (W.nsIn K mainGlobals "NoAnswer")=true)&&(
 decide (W.excIn K (Hd.adr (W.nsIn K mainGlobals "NoFraction")) [.type "ValueError",.type "Exception",.type "BaseException",.type "object"] "ValueError.__new__" =true)&&(
 decide (W.excIn K (Hd.adr (W.nsIn K mainGlobals "NoAnswer")) [.type "ValueError",.type "Exception",.type "BaseException",.type "object"] "ValueError.__new__" =true)&&(
 decide (W.nsIn K mainGlobals "range" =some none)&&(
 decide (W.nsIn K mainGlobals "int" =some none)&&(
 decide (W.nsIn K mainGlobals "len" =some none)&&(
 decide (W.nsIn K mainGlobals "any" =some none)&&(
 decide (W.nsIn K mainGlobals "list" =some none)&&(
 decide (W.nsIn K mainGlobals "sorted" =some none)&&(
 decide (W.nsIn K mainGlobals "set" =some none)&&(
 decide (W.nsIn K mainGlobals "abs" =some none)&&(
 decide (W.nsIn K mainGlobals "zip" =some none)&&(
 decide (W.nsIn K mainGlobals "enumerate" =some none)&&(
 decide (W.nsIn K mainGlobals "sum" =some none)&&(
 decide (W.nsIn K mainGlobals "isinstance" =some none)&&(
 decide (W.nsIn K mainGlobals "dict" =some none)&&(
 decide (W.nsIn K mainGlobals "tuple" =some none)&&(
 decide (W.nsIn K mainGlobals "bool" =some none)&&(true))))))))))))))))))),
 Hd.seen K ds,[])
def good:Bool×List (Option FuncData)×List (Option FuncData):=(true,Hd.due ds,
 [])
theorem z35{l:W.OpenLaw}{w:World}{K:W.Frag}{h:Heap}{mg:Str ->Option Value}{fa:Addr}(O:obs K=good)(X:K.In h)(G:h.Ns mainGlobals mg)(hfa:mg "law" =some (.ref fa)):
 ∃fd:FuncData,(∀(s:Shared) (v:Value),BindsTo s fd ⟨[v],[]⟩ [("_law_script",v)])/\∀base:Heap,K.In base ->base.Ns mainGlobals mg ->eY l.prog w K mg base (iw l.prog w) 9 fa fd ["_law_script"] (j9 K Kl):=by
 obtain⟨B,L⟩:=Prod.mk.inj O;obtain⟨L,M⟩:=Prod.mk.inj L;obtain⟨nR,B⟩:=Hd.aT B;obtain⟨qm,B⟩:=Hd.aT B;obtain⟨nT,B⟩:=Hd.aT B;obtain⟨qp,B⟩:=Hd.aT B;obtain⟨wz,B⟩:=Hd.aT B;obtain⟨JC,B⟩:=Hd.aT B;obtain⟨JD,B⟩:=Hd.aT B;obtain⟨JF,B⟩:=Hd.aT B;obtain⟨Bw,B⟩:=Hd.aT B;obtain⟨uL,B⟩:=Hd.aT B;obtain⟨JG,B⟩:=Hd.aT B;obtain⟨JH,B⟩:=Hd.aT B;obtain⟨JK,B⟩:=Hd.aT B;obtain⟨pG,B⟩:=Hd.aT B;obtain⟨JL,B⟩:=Hd.aT B;obtain⟨nU,B⟩:=Hd.aT B;obtain⟨Bx,B⟩:=Hd.aT B;obtain⟨wA,B⟩:=Hd.aT B;obtain⟨BJ,B⟩:=Hd.aT B
 let c:Cls:={bQ:=Hd.adr (W.nsIn K mainGlobals "NoFraction"),dU:=Hd.adr (W.nsIn K mainGlobals "NoAnswer")}
 have eO:mg "NoFraction" =some (.ref c.bQ)/\oJ K c.bQ:=⟨W.mg_of X G (Hd.adr_of nR),nT⟩;have gj:mg "NoAnswer" =some (.ref c.dU)/\oJ K c.dU:=⟨W.mg_of X G (Hd.adr_of qm),qp⟩;have bC:mg "range" =none:=W.mg_none_of X G wz;have lQ:mg "int" =none:=W.mg_none_of X G JC;have bO:mg "len" =none:=W.mg_none_of X G JD;have uG:mg "any" =none:=W.mg_none_of X G JF;have bU:mg "list" =none:=W.mg_none_of X G Bw;have bI:mg "sorted" =none:=W.mg_none_of X G uL;have jq:mg "set" =none:=W.mg_none_of X G JG;have lW:mg "abs" =none:=W.mg_none_of X G JH;have jt:mg "zip" =none:=W.mg_none_of X G JK;have cZ:mg "enumerate" =none:=W.mg_none_of X G pG;have uJ:mg "sum" =none:=W.mg_none_of X G JL;have cL:mg "isinstance" =none:=W.mg_none_of X G nU;have qj:mg "dict" =none:=W.mg_none_of X G Bx;have nQ:mg "tuple" =none:=W.mg_none_of X G wA;have ql:mg "bool" =none:=W.mg_none_of X G BJ;obtain⟨l0,L⟩:=Hd.seen_cons L;obtain⟨f0,fd0,a0,pH⟩:=Hd.fun_at l0;obtain⟨l1,L⟩:=Hd.seen_cons L;obtain⟨f1,fd1,a1,qt⟩:=Hd.fun_at l1;obtain⟨l2,L⟩:=Hd.seen_cons L;obtain⟨f2,fd2,a2,nW⟩:=Hd.fun_at l2;obtain⟨l3,L⟩:=Hd.seen_cons L;obtain⟨f3,fd3,a3,qu⟩:=Hd.fun_at l3;obtain⟨l4,L⟩:=Hd.seen_cons L;obtain⟨f4,fd4,a4,BK⟩:=Hd.fun_at l4;obtain⟨l5,L⟩:=Hd.seen_cons L;obtain⟨f5,fd5,a5,uM⟩:=Hd.fun_at l5;obtain⟨l6,L⟩:=Hd.seen_cons L;obtain⟨f6,fd6,a6,rY⟩:=Hd.fun_at l6;obtain⟨l7,L⟩:=Hd.seen_cons L;obtain⟨f7,fd7,a7,uN⟩:=Hd.fun_at l7;obtain⟨l8,L⟩:=Hd.seen_cons L;obtain⟨f8,fd8,a8,rZ⟩:=Hd.fun_at l8;obtain⟨l9,L⟩:=Hd.seen_cons L;obtain⟨f9,fd9,a9,pI⟩:=Hd.fun_at l9;obtain⟨l10,L⟩:=Hd.seen_cons L;obtain⟨f10,abJ,a10,sy⟩:=Hd.fun_at l10;obtain⟨l11,L⟩:=Hd.seen_cons L;obtain⟨f11,abK,a11,sE⟩:=Hd.fun_at l11;obtain⟨l12,L⟩:=Hd.seen_cons L;obtain⟨f12,abL,a12,qw⟩:=Hd.fun_at l12;obtain⟨l13,L⟩:=Hd.seen_cons L;obtain⟨f13,abM,a13,pJ⟩:=Hd.fun_at l13;obtain⟨l14,L⟩:=Hd.seen_cons L;obtain⟨f14,abN,a14,JM⟩:=Hd.fun_at l14;obtain⟨l15,L⟩:=Hd.seen_cons L;obtain⟨f15,abO,a15,uO⟩:=Hd.fun_at l15;obtain⟨l16,L⟩:=Hd.seen_cons L;obtain⟨f16,abP,a16,mK⟩:=Hd.fun_at l16;obtain⟨l17,L⟩:=Hd.seen_cons L;obtain⟨f17,abQ,a17,BL⟩:=Hd.fun_at l17;obtain⟨l18,L⟩:=Hd.seen_cons L;obtain⟨f18,abR,a18,wB⟩:=Hd.fun_at l18;obtain⟨l19,L⟩:=Hd.seen_cons L;obtain⟨f19,abS,a19,wC⟩:=Hd.fun_at l19;obtain⟨l20,L⟩:=Hd.seen_cons L;obtain⟨f20,abT,a20,uP⟩:=Hd.fun_at l20;obtain⟨l21,L⟩:=Hd.seen_cons L;obtain⟨f21,abU,a21,wD⟩:=Hd.fun_at l21;obtain⟨l22,L⟩:=Hd.seen_cons L;obtain⟨f22,abV,a22,pK⟩:=Hd.fun_at l22;obtain⟨l23,L⟩:=Hd.seen_cons L;obtain⟨f23,abW,a23,uQ⟩:=Hd.fun_at l23;obtain⟨l24,L⟩:=Hd.seen_cons L;obtain⟨f24,abX,a24,jQ⟩:=Hd.fun_at l24;obtain⟨l25,L⟩:=Hd.seen_cons L;obtain⟨f25,abY,a25,qx⟩:=Hd.fun_at l25;obtain⟨l26,L⟩:=Hd.seen_cons L;obtain⟨f26,abZ,a26,kJ⟩:=Hd.fun_at l26;obtain⟨l27,L⟩:=Hd.seen_cons L;obtain⟨f27,ab0,a27,mL⟩:=Hd.fun_at l27;obtain⟨l28,L⟩:=Hd.seen_cons L;obtain⟨f28,ab1,a28,nY⟩:=Hd.fun_at l28;obtain⟨l29,L⟩:=Hd.seen_cons L;obtain⟨f29,ab2,a29,qy⟩:=Hd.fun_at l29;obtain⟨l30,L⟩:=Hd.seen_cons L;obtain⟨f30,ab3,a30,nZ⟩:=Hd.fun_at l30;obtain⟨l31,L⟩:=Hd.seen_cons L;obtain⟨f31,ab4,a31,mO⟩:=Hd.fun_at l31;obtain⟨l32,L⟩:=Hd.seen_cons L;obtain⟨f32,ab5,a32,pL⟩:=Hd.fun_at l32;obtain⟨l33,L⟩:=Hd.seen_cons L;obtain⟨f33,Wo,a33,yq⟩:=Hd.fun_at l33;have e:=hfa.symm.trans (W.mg_of X G a33);cases e;refine⟨Wo,Hd.start_binds yq (fun _ _ _ _ _ _ _=>rfl),fun base kb nb=> ?_⟩;have cD:=zoq (P:=l.prog) (w:=w) (base:=base) c pH (W.mg_of X G a0) bC lQ;have aC:=zpr (P:=l.prog) (w:=w) (base:=base) c qt (W.mg_of X G a1) bO;have gh:=zlp (P:=l.prog) (w:=w) (base:=base) c nW (W.mg_of X G a2);have cW:=zqi (P:=l.prog) (w:=w) (base:=base) c qu (W.mg_of X G a3) cD aC gh bC bO;have nM:=z1j (P:=l.prog) (w:=w) (base:=base) c BK (W.mg_of X G a4) uG;have lU:=zu5 (P:=l.prog) (w:=w) (base:=base) c uM (W.mg_of X G a5) nM bU bI jq;have eU:=ztc (P:=l.prog) (w:=w) (base:=base) c rY (W.mg_of X G a6);have mz:=zxh (P:=l.prog) (w:=w) (base:=base) c uN (W.mg_of X G a7) lU eU bI bU;have eV:=zs1 (P:=l.prog) (w:=w) (base:=base) c rZ (W.mg_of X G a8) lW;have gR:=zn5 (P:=l.prog) (w:=w) (base:=base) c pI (W.mg_of X G a9) eV;have jN:=zto (P:=l.prog) (w:=w) (base:=base) c sy (W.mg_of X G a10) jt;have jO:=ztw (P:=l.prog) (w:=w) (base:=base) c sE (W.mg_of X G a11) jN cZ;have bh:=zqh (P:=l.prog) (w:=w) (base:=base) c qw (W.mg_of X G a12) eV eO;have gQ:=zoa (P:=l.prog) (w:=w) (base:=base) c pJ (W.mg_of X G a13) bU;have uI:=z42 (P:=l.prog) (w:=w) (base:=base) c JM (W.mg_of X G a14) gQ bC bO gj;have lZ:=zxb (P:=l.prog) (w:=w) (base:=base) c uO (W.mg_of X G a15) gR jO bh uI bC bO jt cZ;have aQ:=zkf (P:=l.prog) (w:=w) (base:=base) c mK (W.mg_of X G a16);have jP:=z11 (P:=l.prog) (w:=w) (base:=base) c BL (W.mg_of X G a17) bh;have iy:=zyj (P:=l.prog) (w:=w) (base:=base) c wB (W.mg_of X G a18) jP;have nO:=zy4 (P:=l.prog) (w:=w) (base:=base) c wC (W.mg_of X G a19) aQ iy jP bO;have mj:=zt0 (P:=l.prog) (w:=w) (base:=base) c uP (W.mg_of X G a20) nO;have nP:=zzt (P:=l.prog) (w:=w) (base:=base) c wD (W.mg_of X G a21) bh;have gW:=zod (P:=l.prog) (w:=w) (base:=base) c pK (W.mg_of X G a22) bh uJ bO;have mq:=zwn (P:=l.prog) (w:=w) (base:=base) c uQ (W.mg_of X G a23) iy nP gW aQ
 have dO:=zhg (P:=l.prog) (w:=w) (base:=base) c jQ (W.mg_of X G a24) lZ mj mq aQ bO;have cX:=zph (P:=l.prog) (w:=w) (base:=base) c qx (W.mg_of X G a25) mz dO eU bU jt;have bw:=zid (P:=l.prog) (w:=w) (base:=base) c kJ (W.mg_of X G a26) cD aC bC;have cg:=zka (P:=l.prog) (w:=w) (base:=base) c mL (W.mg_of X G a27) lW;have cJ:=zll (P:=l.prog) (w:=w) (base:=base) c nY (W.mg_of X G a28) cg;have cY:=zq1 (P:=l.prog) (w:=w) (base:=base) c qy (W.mg_of X G a29) cJ;have gk:=zmx (P:=l.prog) (w:=w) (base:=base) c nZ (W.mg_of X G a30) bI jq;have bK:=zki (P:=l.prog) (w:=w) (base:=base) c mO (W.mg_of X G a31) cJ gk;have cF:=zpe (P:=l.prog) (w:=w) (base:=base) c pL (W.mg_of X G a32) cg bI jq cL qj nQ bO ql lQ;exact z0u (P:=l.prog) (w:=w) (base:=base) c yq cW cX bw cY bK aC cF bU
abbrev pg:Program:=PySem.Challenge.pw_hall_k32_whole_leanings_even
abbrev lw:W.OpenLaw:=PySem.Challenge.rw_hall_k32_whole_leanings_even
abbrev vw:Program:=W.view pg [43]
def loose:List Str:=pg.boundNames.filter fun x=>x != "law"
theorem hd_e:W.opening pg=W.plainProg pg.main.scope.names:=by kernel_rfl
theorem hd_f(s:Shared):PySem.fenceModules? pg s=some s:=by kernel_rfl
theorem hd_A(w:World)(os:OsState):W.topGo treeTable pg w 11 Hd.ann 12 (Hd.S0 w os) (W.topStub pg)=some (Hd.fore treeTable W.topGo pg w os,⟨denote treeTable (Hd.cB pg),Hd.cB pg,Hd.z,[W.topFrame Hd.z]⟩):=by
 rw[PySem.W.Fast.te15667345088766844465,PySem.W.Fast.te11892475500146522536,PySem.W.Fast.te14364793385576792824];kernel_rfl
theorem hd_B(w:World)(os:OsState):W.segRun treeTable pg w 11 Hd.ann 1 1 (Hd.fore treeTable W.topGo pg w os) (W.blockOf (W.behindTheImports pg) (Hd.env pg) (Hd.cB pg) Hd.z [W.topFrame Hd.z])=some (.next,Hd.fore treeTable W.topGo pg w os,Hd.cB pg,Hd.z):=by
 rw[PySem.W.Fast.te15667345088766844465,PySem.W.Fast.te14374325043358763698,PySem.W.Fast.te14364793385576792824];kernel_rfl
theorem hd_C(w:World)(os:OsState):(Hd.Ta (Hd.fore treeTable W.topGo pg w os)).abs=Hd.fore treeTable W.topGo pg w os:=by
 rw[PySem.W.Fast.te15667345088766844465,PySem.W.Fast.te14364793385576792824];kernel_rfl
theorem hd_D(w:World)(os:OsState):Hd.shot treeTable W.topGo W.segRunT W.topRun execs pg (Hd.rest W.openSeen pg vw loose (fun _=>true) obs 1500 w) w os=some ((.next,Hd.cB pg),(true,W.openGood vw loose,good)):=by
 rw[PySem.W.Fast.te15667345088766844465,PySem.W.Fast.te10110043849684766642,PySem.W.Fast.te14082659384304107361,PySem.W.Fast.te12563942051412417395,PySem.W.Fast.te4187177175401517315,PySem.W.Fast.te14364793385576792824];kernel_rfl
theorem hd_said:lw.wellSaid=true:=by kernel_rfl
theorem hd_ok:(W.chainsOk vw&&W.opensWell lw.row.prog&&(W.frees lw.row.toRowW&&lw.row.within.isEmpty))=true:=by kernel_rfl
theorem hd_bare:lw.row.prog.bare:=⟨rfl,rfl,rfl,rfl,rfl,by decide+kernel⟩
theorem hd_wit:lw.row.toRowW.promised:=by w_witness2
theorem hd_d:W.defOf vw lw.row.name=some (Hd.recOf pF,[]):=by kernel_rfl
theorem hd_p:lw.row.prog.theDef lw.row.name=some ((Hd.recOf pF).params,(Hd.recOf pF).body,(Hd.recOf pF).scope):=by kernel_rfl
theorem hd_k:W.kwWritten? (Hd.recOf pF).params.kwonlyargs (Hd.recOf pF).params.kw_defaults=some []:=by kernel_rfl
theorem hd_n:(Hd.recOf pF).name= "law" :=by kernel_rfl
theorem hd_z:(Hd.recOf pF).params.defaults= []:=by kernel_rfl
theorem hd_w:W.WalkO vw loose (fun _ _=>True) (fun _ h=>∃K:W.Frag,K.In h/\obs K=good) lw.row.toRowW (Hd.recOf pF) [] (fun f vs=>PySem.call f vs):=
 Hd.walk_ex (n:=63) (k:=9) (x:= "_law_script") (CX:=fun w=>iw lw.prog w) (sp:=fun K=>j9 K Kl) (Fx:=fun K=>obs K=good) rfl (by decide) hd_z ⟨rfl,by decide,by decide⟩ (fun _ _ h=>h) (fun w K mg fa h O X G hm=>z35 O X G (hd_n ▸ hm)) (fun K H a ns hl hO hS=>zt9 hl hS) fun _ _ _ _ _ z=>zzm z
end Lw
theorem PySem.Challenge.cw_hall_k32_whole_leanings_even_holds : PySem.Challenge.rw_hall_k32_whole_leanings_even.Holds :=
 Hd.holds Lw.hd_said (Hd.left Lw.hd_e Lw.hd_f Lw.hd_A Lw.hd_B Lw.hd_C Lw.hd_D) Lw.hd_d Lw.hd_p Lw.hd_k Lw.hd_ok Lw.hd_bare Lw.hd_wit rfl Lw.hd_w
#print axioms PySem.Challenge.cw_hall_k32_whole_leanings_even_holds
